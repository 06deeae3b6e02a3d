import PyProof.Rows.All
import Wide.All
import OpenK.AllK
import Wide.FinOn
import Lean
import PyProof.EqAt
import PyProof.EqKinds
import PyProof.TupleCall
import PySem.Challenge.RW_dueworth_k29_whole_what_never_fills
import Open.Tree
import Open.Head
open PySem renaming wpAny_bind→Uk,wpAny_pure→Uz,wpAny_pyIter_tuple→U5,wpAny_field→Vb,wpAny_pyIter_list→Ve,wpAny_loadPart'→Vj,wpAny_seqItems→Vl,wpAny_setField_rec→Vm,wpAny_callSpecial?_slot→Vy,wpAny_truthy_bool→VO,wpAny_newObj_type→VU,wpAny_call_entry→V5,mem_of_lookup→Wf,wpAny_Call_Name_kw→Wo,call_meets→Wq,wpAny_passesOwn→Ws,wpAny_onRaise→WA,wpAny_mono→WH,wpAny_rule→WW,wpAny_holding→W4,tupleKind_room_in1→Xg,wpAny_letGo→Xi,wpAny_bindName→Xn,wpAny_pyIter_enum→Xu,wpAny_pyIter_zip→XM,wpAny_updateSeq_pair→XX,wpAny_execs_nil→XZ
open List renaming length_map→Ul,length_append→Um,getElem?_eq_getElem→Uq,mem_append→Ur,getElem?_map→Ut,mem_cons→Uv,size_toArray→Uw,mem_singleton→Uy,map_cons→UA,mem_of_getElem?→UD,length_cons→UE,getElem?_eq_some_iff→UH,mem_append_right→UI,not_mem_nil→UK,length_singleton→UM,length_nil→UN,map_map→UQ,mem_map→UU,all_eq_true→UW,nil_append→UX,mem_append_left→UY,replicate_succ→U1,map_nil→U4,length_replicate→U7,map_append→U8,getElem?_append_left→U9,append_nil→Vd,getElem?_append_right→Vg,getElem?_zip_eq_some→Vh,length_take→Vi,mem_of_mem_take→VA,filter_append→VD,nodup_cons→VE,mem_cons_of_mem→VG,foldl_cons→VJ,length_zip→VL,length_drop→VM,flatMap_append→VN,mem_flatMap→VR,flatten_cons→VW,append_assoc→VX,length_set→V2,getElem?_eq_none→V3,mem_cons_self→V4,getElem_mem→V7,length_mapIdx→V9,getElem?_replicate→Wc,length_reverse→Wg,getElem_of_mem→Wh,map_congr_left→Wi,mem_range→Wk,flatMap_cons→Wz,length_filter_le→WO,take_sublist→WR,foldl_append→WS,getElem?_mapIdx→WX,any_eq_true→WZ,mem_filter→W9,forIn_cons→Xd,filter_cons_of_pos→Xk,filter_cons_of_neg→Xl,reverse_cons→Xq,length_pos_of_mem→Xv,take_of_length_le→Xw,filter_eq_nil_iff→Xx,nodup_append→Xy,take_succ→XA,eraseIdxIfInBounds_toArray→XF,getElem?_reverse→XG,take_append_drop→XI,filter_cons→XN,take_length→XO,any_cons→XQ,map_take→XR,mem_of_mem_drop→XY,of_mem_zip→Yb,filterMap_cons→Ye,getElem?_range→Yh,getElem?_drop→Yj,nodup_nil→Yk,length_range→Yn
open Nat renaming le_refl→Uo,le_trans→UJ,lt_of_lt_of_le→UL,ne_of_lt→US,zero_le→UT,zero_add→U0,le_add_right→Vz,pow_le_pow_right→VB,lt_irrefl→VS,not_le→V0,ne_of_gt→Wj,lt_of_le_of_lt→WJ,le_succ_of_le→WU,mul_le_mul_right→WY,mul_le_mul_left→W3,le_of_lt→Xm,le_mul_of_pos_left→XC,le_of_ble_eq_true→XH,le_succ→XW,lt_trans→Yq,le_of_eq→Yr,min_self→Yt
open PySem.Heap renaming get?_push_of_some→Up,lt_size→Ux,get?_push_size→UC,size_push→VH,get?_update_self→WN,get?_update_other→Xp
open Bool renaming false_bne→Uu,false_eq_true→UB,false_ne_true→UR,not_true→U3,true_bne→VT,not_false→VZ,and_eq_true→V6,eq_iff_iff→Wt,and_eq_true_iff→WV,and_true→XS,false_and→Yi
open PySem.PassesOwn renaming never→UP
open PyProof.Rows renaming callWith_type1→Vc,slot_tuple_getitem→Vn,assignInOrder_cons→Wm
open Int renaming toNat_natCast→Vk,le_refl→VF,mul_nonneg→VI,eq_ofNat_of_zero_le→VQ,mul_le_mul_of_nonneg_left→Wb,ediv_nonneg→Wu,le_of_lt→Wx,mul_comm→Wy,mul_ediv_cancel_left→WB,fdiv_eq_ediv_of_dvd→WD,mul_le_mul_of_nonneg_right→WG,emod_lt_of_pos→WL,natCast_pos→Xe,emod_nonneg→Xf,neg_mul→Xj,add_zero→XE,mul_one→XT,add_nonneg→Yl,mul_zero→Ys
open Option.some renaming inj→Vx,injEq→Xr
open Option renaming map_eq_some_iff→VC,isSome_iff_exists→W5,isSome_map→Ym
open PySem.Heap.IsTuple renaming push→VY
open Array renaming length_toList→V1,getElem?_eq_none→WK,getElem?_eq_getElem→W2
open PySem.Heap.IsList renaming push→V8
open PySem.F renaming slot_zip_next→We,slot_tuple_iterator_next→Wr,slot_tuple_index→WC,plainAttrs_list→WE,slot_tuple_mul→W0,args_tuple_add_2→W6,plainAttrs_tuple→W7,type_tuple_index→W8,entry_tuple_add→Xh,slot_tuple_add→Xo,args_zip_next_1→Xs,entry_zip_next→XJ,slot_int_rmul→Yc
open PySem.Calls renaming spliced_cons→Wn,callWith_builtin→WI,spliced_nil→WQ,evalArgs_plain→XU
open Ne renaming symm→Ww
open PySem.Heap.SameBut renaming update→Yg
open PySem.W renaming mg_of→Yo
open Prod renaming ext→Yu
set_option bootstrap.genMatcherCode false
local macro_rules|`(tactic|omega)=>`(tactic|first|lia|omega +splitDisjunctions)
section
set_option Elab.async false
set_option linter.all false
set_option maxRecDepth 100000
set_option maxHeartbeats 0
abbrev Us:=@decide_eq_true_eq
abbrev UG:=@decide_eq_false
abbrev UO:=@decide_eq_true
abbrev UZ:=@if_false
abbrev U6:=@if_true
abbrev Vf:=@congrArg
abbrev Vp:=@or_false
abbrev Vt:=@decide_true
abbrev VP:=@of_decide_eq_true
abbrev Wa:=@of_decide_eq_false
abbrev WM:=@decide_false
abbrev WT:=@bne_self_eq_false
abbrev Xz:=@true_and
abbrev Yd:=@beq_eq_false_iff_ne
abbrev Yp:=@decide_eq_decide
namespace ET
open PySem PySem.W PyProof.Rows
def kE(tb:String→Option Builtin)(p:Program)(w:World)(n₀:Nat)(ann:Option Value):Nat→SharedT→Thread→Option SharedT
 |0,_,_=>none
 |n+1,s,t=>match through t with
  |true=>some s
  |false=>match stepOk n₀ ann t with
   |false=>none
   |true=>match stepT (denote tb) p w s t with
    |some x=>kE tb p w n₀ ann n x.1 x.2
    |none=>none
theorem o9{tb:String→Option Builtin}{p:Program}{w:World}{n₀:Nat}{ann:Option Value}:∀{n:Nat}{s s':SharedT}{t:Thread},kE tb p w n₀ ann n s t=some s'→topRun tb p w n₀ ann n s.abs t=some s'.abs
 |0,_,_,_,h=>by cases h
 |n+1,s,s',t,h=>by
  unfold kE at h;unfold topRun;cases he:through t with
  |true=>rw[he]at h;cases h;rfl
  |false=>
   rw[he]at h;cases hk:stepOk n₀ ann t with
   |false=>rw[hk]at h;cases h
   |true=>
    rw[hk]at h;cases hs:stepT (denote tb) p w s t with
    |none=>rw[hs]at h;cases h
    |some r=>rw[hs]at h;rw[stepT_spec hs];exact o9 h
def EV:List Obj→BT→Nat→Option (BT×Nat)
 |[],t,n=>some (t,n)
 |o::os,t,n=>match ((t.ins n o).get n).isSome with
  |true=>EV os (t.ins n o) (n+1)
  |false=>none
theorem uV{life:Life}:∀{os:List Obj}{t t':BT}{n n':Nat},EV os t n=some (t',n')→absHeap t' n' life=⟨(absHeap t n life).objs++os.toArray,life⟩
 |[],t,t',n,n',h=>by cases h;simp[absHeap]
 |o::os,t,t',n,n',h=>by
  unfold EV at h;cases g:((t.ins n o).get n).isSome with
  |false=>rw[g]at h;cases h
  |true=>
   rw[g]at h;rw[uV h,absHeap_ins g];simp[Heap.push]
def kF(tb:String→Option Builtin)(p:Program)(w:World)(N:Nat)(s₀:Shared):Option Shared:=
 match s₀.heap.isNs mainGlobals&&s₀.gens.size == 0 with
 |true=>match EV s₀.heap.objs.toList .nil 0 with
  |some x=>match kE tb p w x.2 (s₀.heap.nsMap mainGlobals "__annotations__") N ⟨x.1,x.2,s₀.heap.life,s₀.gens,s₀.drawn,s₀.toks,s₀.os⟩ (topStub p)with
   |some s=>match staticsOk (importedModules p.main.body) s₀.heap s.abs.heap&&namesBound p s.abs.heap&&gensDone s.abs&&laidKept s₀.heap s.abs.heap with
    |true=>some s.abs
    |false=>none
   |none=>none
  |none=>none
 |false=>none
theorem tR{tb:String→Option Builtin}{p:Program}{w:World}{N:Nat}{s₀ s:Shared}(h:kF tb p w N s₀=some s):topFrom tb p w N s₀=some s:=by
 unfold kF at h;unfold topFrom;cases h1:s₀.heap.isNs mainGlobals&&s₀.gens.size == 0 with
 |false=>rw[h1]at h;cases h
 |true=>
  rw[h1]at h;dsimp only at h ⊢;cases h2:EV s₀.heap.objs.toList .nil 0 with
  |none=>rw[h2]at h;cases h
  |some x=>
   rw[h2]at h;dsimp only at h;have e:=uV (life:=s₀.heap.life) h2;have e':absHeap x.1 x.2 s₀.heap.life=s₀.heap:=by
    rw[e];simp[absHeap,BT.list]
   have n':x.2=s₀.heap.objs.size:=by rw[←e',absHeap_size]
   cases h3:kE tb p w x.2 (s₀.heap.nsMap mainGlobals "__annotations__") N ⟨x.1,x.2,s₀.heap.life,s₀.gens,s₀.drawn,s₀.toks,s₀.os⟩ (topStub p)with
   |none=>rw[h3]at h;cases h
   |some r=>
    rw[h3]at h;dsimp only at h;have ea:SharedT.abs ⟨x.1,x.2,s₀.heap.life,s₀.gens,s₀.drawn,s₀.toks,s₀.os⟩=s₀:=by
     unfold SharedT.abs;rw[e']
    have:=o9 h3;rw[ea,n']at this;rw[this];exact h
theorem tS{tb:String→Option Builtin}{p:Program}{w:World}{N:Nat}{s₀:Shared}{α:Type}{f:Shared→α}{a:α}(h:Option.map f (kF tb p w N s₀)=some a):Option.map f (topFrom tb p w N s₀)=some a:=by
 obtain⟨s,h1,h2⟩:=VC.mp h;rw[tR h1];exact Vf some h2
def seenT(p q:Program)(loose:List Str)(Xt:Shared→Bool){α:Type}(Yf:Shared→α)(N:Nat)(u u':World):=
 Option.map (λc=>Option.map (λs=>(openSeen q loose (importedModules p.main.body) Xt true s,Yf s)) (kF treeTable p u' N c)) (fencedOpening treeTable p u N)
lay_quick seenT
theorem uW{p q:Program}{loose:List Str}{Xt:Shared→Bool}{α:Type}{Yf:Shared→α}{N:Nat}{u u':World}{r}(h:PySem.W.Fast.tw2787559817927863336 p q loose Xt Yf N u u'=r):seenT p q loose Xt Yf N u u'=r:=by
 rw[PySem.W.Fast.te2787559817927863336];exact h
theorem Gz{p q:Program}{loose:List Str}{Xt:Shared→Bool}{α:Type}{Yf:Shared→α}{Ya:World→α}{N:Nat}
  (h:∀u:World,seenT p q loose Xt Yf N u u=some (some (openGood q loose,Ya u))):LeftO p q loose Xt Yf Ya N:=λu=>by
 obtain⟨c,a,b⟩:=VC.mp (h u);unfold openEnds;rw[a];exact tS b
theorem xq{p q:Program}{loose:List Str}{Xt:Shared→Bool}{α:Type}{Yf:Shared→α}{Ya:World→α}{N:Nat}(row:String)
  (h0:∀u:World,seenT p q loose Xt Yf N u (u.withFollow row false)=some (some (openGood q loose,Ya (u.withFollow row false))))
  (h1:∀u:World,seenT p q loose Xt Yf N u (u.withFollow row true)=some (some (openGood q loose,Ya (u.withFollow row true)))):LeftO p q loose Xt Yf Ya N:=λu=>by
 obtain⟨c,a,b⟩:=VC.mp (h0 u);obtain⟨c',a',b'⟩:=VC.mp (h1 u);have hc:c'=c:=by rw[a]at a';cases a';rfl
 subst hc;have b:=tS b;have b':=tS b';have hu:=World.withFollow_self u row;unfold openEnds;rw[a];cases hb:u.params.followText row<;>rw[hb]at hu
 .rw[hu]at b;exact b
 .rw[hu]at b';exact b'
end ET
namespace E29
open PySem PySem.W PyProof.Rows
abbrev tp(i:Nat):Stmt:=PySem.Challenge.pw_dueworth_k29_whole_what_never_fills.main.body.getD i (.Pass ⟨0,0,0,0⟩)
/-- the text without what says nothing -/
def vw:Program:={ PySem.Challenge.pw_dueworth_k29_whole_what_never_fills with main:={ PySem.Challenge.pw_dueworth_k29_whole_what_never_fills.main with body:=[tp 1,tp 2,tp 3,tp 4,tp 6,tp 7,tp 8,tp 11,tp 12,tp 13,tp 15,tp 16,tp 18,tp 19,tp 20,tp 21,tp 23,tp 24,tp 25,tp 26,tp 27,tp 28,tp 29,tp 30,tp 31,tp 32,tp 34,tp 35,tp 36,tp 38,tp 39,tp 40,tp 42,tp 44,tp 45,tp 47,tp 48,tp 49,tp 50,tp 51,tp 52,tp 53,tp 54,tp 55,tp 56,tp 57,tp 58,tp 59,tp 60,tp 61,tp 62,tp 63,tp 64,tp 65,tp 66,tp 67,tp 68,tp 69,tp 70,tp 71,tp 72,tp 73,tp 74,tp 75,tp 76,tp 77] } }
abbrev rr:RowW:=OpenRow.toRowW (OpenLaw.row PySem.Challenge.rw_dueworth_k29_whole_what_never_fills)
local macro_rules | `(tactic| o_head $H)=>`(tactic|
 refine holds_open (q:=vw) (loose:=["SIDES_FROM","parts_reached"]) (Xt:=λs=>(xlAt vw [] s&&recOk (RowW.records rr) s)) (XP:=XL vw []) (N:=5042)
  (Yf:=Hook.obs $H) (Ya:=Hook.val $H) (YP:=Hook.says $H) ?hl (Hook.of $H) (Hook.keeps $H) (λs e=>xl_of s (WV.mp e).1)
  XL.keeps rfl rfl rfl (λs e=>recFacts_of (WV.mp e).2) rfl (by assumption)
  (by decide +kernel) ⟨rfl,rfl,rfl,rfl,rfl,by decide +kernel⟩ ?hw ?hc)
/-- the law is well said: by the quick twin of the look,with no twin of the program -/
theorem said:OpenLaw.wellSaid PySem.Challenge.rw_dueworth_k29_whole_what_never_fills=true:=(congrFun PySem.W.Fast.te9446332074065402090 _).trans (by kernel_rfl)
/-- says nothing; what lies in the heap is written down by the way -/
theorem early(h:∀P:Prop,P):PySem.Challenge.rw_dueworth_k29_whole_what_never_fills.Holds:=by
 w_on;refine holds_law said λsaid=>?_;k_head
 all_goals exact h _
noncomputable abbrev as:List Addr:=[2,3,15,16,18,19,21,22,23,25,26,28,29,30,32,33,35,36,37,39,40,42,43,44,46,47,49,50,51,53,54,56,57,58,59,61,62,64,65,66,68,69,71,72,73,75,76,78,79,80,83,84,85,92,93,94,95,98,105,106,107,110,112,113,115,116,117,119,120,122,123,124,126,127,129,130,131,133,134,136,137,138,141,142,143,146,147,148,151,152,153,155,156,158,159,160,163,164,165,168,169,170,172,173,175,176,177,179,180,182,183,184,186,187,189,190,191,193,194,196,197,198,200,201,203,204,205,208,209,210,212,213,215,216,217,219,220,222,223,224,227,228,229,232,233,234,236,237,239,240,241,244,245,246,249,250,251,254,255,256,258,259,261,262,263,266,267,268,270,271,273,274,275,277,278,280,281,282,284,285,287,288,289,291,292,294,295,296,298,299,301,302,303,305,306,308,309,310,312,313,315,316,317,319,320,322,323,324,326,327,329,330,331,334,335,336,338,339,341,342,343,345,346,348,349,350,352,353,355,356,357,359,360,362,363,364,367,368,369,371,372,374,375,376,378,379,381,382,383,386,387,388,391,392,393,396,397,398,400,401,403,404,405,408,409,410,413,414,415,417,418,420,421,422,425,426,427,430,431,432,435,436,437,440,441]
theorem HS(P:Params):as=(early.heap_1 P).map (·.1):=by kernel_rfl
noncomputable abbrev hk:Hook:=kHook early.heap_1 as HS
theorem EW(u:World):ET.seenT (OpenLaw.row PySem.Challenge.rw_dueworth_k29_whole_what_never_fills).prog vw ["SIDES_FROM","parts_reached"] (λs=>(xlAt vw [] s&&recOk (RowW.records rr) s)) (Hook.obs hk) 5042 u (u.withFollow "special-get-raises" false)=some (some (openGood vw ["SIDES_FROM","parts_reached"],Hook.val hk (u.withFollow "special-get-raises" false))):=ET.uW (by kernel_rfl)
theorem EX(u:World):ET.seenT (OpenLaw.row PySem.Challenge.rw_dueworth_k29_whole_what_never_fills).prog vw ["SIDES_FROM","parts_reached"] (λs=>(xlAt vw [] s&&recOk (RowW.records rr) s)) (Hook.obs hk) 5042 u (u.withFollow "special-get-raises" true)=some (some (openGood vw ["SIDES_FROM","parts_reached"],Hook.val hk (u.withFollow "special-get-raises" true))):=ET.uW (by kernel_rfl)
theorem left:LeftO (OpenLaw.row PySem.Challenge.rw_dueworth_k29_whole_what_never_fills).prog vw ["SIDES_FROM","parts_reached"] (λs=>(xlAt vw [] s&&recOk (RowW.records rr) s)) (Hook.obs hk) (Hook.val hk) 5042:=ET.xq "special-get-raises" EW EX
end E29
end
set_option hygiene false
local macro_rules|`(tactic|walk_at "0")=>`(tactic|refine hN _ _ (al λN hN=>?_))
local macro_rules|`(tactic|walk_at "1")=>`(tactic|simp only[List.set_cons_zero,List.set_cons_succ])
local macro_rules|`(tactic|walk_at "2")=>`(tactic|intro X hP hw hK hc i pins s σ H E I hf st hg)
local macro_rules|`(tactic|walk_at "3")=>`(tactic|refine al λN hN=>?_)
local macro_rules|`(tactic|walk_at "4")=>`(tactic|intro pins s σ H x y v u Q I rx ry h)
local macro_rules|`(tactic|walk_at "5")=>`(tactic|obtain⟨f0,f1,f2,f3,f4,f5⟩:=hf it (by simp))
local macro_rules|`(tactic|walk_at "6")=>`(tactic|simp only[Bd.dep]at hd)
local macro_rules|`(tactic|walk_at "7")=>`(tactic|intro pins s σ H Q I h)
local macro_rules|`(tactic|walk_at "8")=>`(tactic|exact⟨rfl,rfl,rfl,by decide +kernel,rfl,by decide +kernel,by decide +kernel⟩)
local macro_rules|`(tactic|walk_at "9")=>`(tactic|(first|exact .inl rfl|exact .inr rfl|assumption))
local macro_rules|`(tactic|walk_at "a")=>`(tactic|(repeat' first|exact trivial|exact .inl rfl|exact .inr rfl|exact rfl|apply And.intro))
local macro_rules|`(tactic|walk_at "b")=>`(tactic|(repeat' first|exact trivial|exact⟨_,rfl⟩|constructor))
local macro_rules|`(tactic|walk_at "c")=>`(tactic|(first|exact Or.inl rfl|exact Or.inr (Or.inl rfl)|exact Or.inr (Or.inr rfl)))
local macro_rules|`(tactic|walk_at "f")=>`(tactic|(first|exact Or.inl rfl|exact Or.inr rfl))
open PySem in
abbrev Vq:=Value->Shared->Prop
open PySem in
abbrev Va:=List (Addr×Obj)
open PySem in
abbrev Vo:=PySem.W.Frag
open PySem in
abbrev Vr:=Str->Option Value
open PySem in
abbrev Vs:=List Str
open PySem in
abbrev Vu:=List Int
open PySem in
abbrev Vv:=List Value
open PySem in
abbrev Vw:=Array Value
set_option Elab.async false
set_option linter.all false
set_option maxRecDepth 100000
namespace L2
open PySem PySem.Spec PyProof.Rows
abbrev bN:=Sum Int Str
noncomputable def o_:bN->Value->Bool
 | .inl k,v=>Value.isInt k v
 | .inr x,v=>Value.isStrOf x v
noncomputable def GO(w:World):bN->Int
 | .inl k=>hashInt k
 | .inr x=>hashStr w x
theorem bJ:∀{k:bN}{v:Value},o_ k v=true->(∃i t,k=Sum.inl i/\v=Value.int i t)\/(∃x t,k=Sum.inr x/\v=Value.str x t)
 | .inl i,v,h=>by
  obtain⟨t,e⟩:=Value.isInt_shape (k:=i) (v:=v) h;exact .inl ⟨i,t,rfl,e⟩
 | .inr x,v,h=>by
  obtain⟨t,e⟩:=Value.isStrOf_shape (x:=x) (v:=v) h;exact .inr ⟨x,t,rfl,e⟩
def vT(i:Int)(t:Tok):o_ (.inl i) (.int i t)=true:=by simp[o_,Value.isInt]
def lB(x:Str)(t:Tok):o_ (.inr x) (.str x t)=true:=by simp[o_,Value.isStrOf]
def Cy(a b:Int):decide ((Sum.inl a:bN)=Sum.inl b)=(a == b):=by
 by_cases e:a=b
 .subst e;simp
 .have h:¬(Sum.inl a:bN)=Sum.inl b:=λq=>e (Sum.inl.inj q);rw[UG h];exact(Yd.mpr e).symm
def Cz(a b:Str):decide ((Sum.inr a:bN)=Sum.inr b)=decide (a=b):=by
 by_cases e:a=b
 .subst e;simp
 .have h:¬(Sum.inr a:bN)=Sum.inr b:=λq=>e (Sum.inr.inj q);rw[UG h,UG e]
def CA(a:Int)(b:Str):decide ((Sum.inl a:bN)=Sum.inr b)=false:=UG (λq=>nomatch q)
def CC(a:Str)(b:Int):decide ((Sum.inr a:bN)=Sum.inl b)=false:=UG (λq=>nomatch q)
noncomputable def bi(prog:Program)(w:World):PySem.KeyKind prog w bN where
 is:=o_
 hash:=GO w
 inj:=λv a b ha hb=>by
  rcases bJ ha with⟨i,t,rfl,rfl⟩|⟨x,t,rfl,rfl⟩
  .rcases bJ hb with⟨j,u,rfl,e⟩|⟨y,u,rfl,e⟩
   .injection e with e1 _;rw[e1]
   .exact nomatch e
  .rcases bJ hb with⟨j,u,rfl,e⟩|⟨y,u,rfl,e⟩
   .exact nomatch e
   .injection e with e1 _;rw[e1]
 byValue:=λk v h=>by
  rcases bJ h with⟨i,t,rfl,rfl⟩|⟨x,t,rfl,rfl⟩<;>rfl
 pyHash:=λhv h=>by
  rcases bJ hv with⟨i,t,rfl,rfl⟩|⟨x,t,rfl,rfl⟩
  .exact wpAny_pyHash_int h
  .exact wpAny_pyHash_str h
 eqBool:=λhu hv h=>by
  rcases bJ hu with⟨i,t,rfl,rfl⟩|⟨x,t,rfl,rfl⟩
  .rcases bJ hv with⟨j,u,rfl,rfl⟩|⟨y,u,rfl,rfl⟩
   .rw[Cy]at h;exact wpAny_eqBool_int h
   .rw[CA]at h;exact SeqAt.EqAt.int_str i t y u _ _ _ _ h
  .rcases bJ hv with⟨j,u,rfl,rfl⟩|⟨y,u,rfl,rfl⟩
   .rw[CC]at h;exact SeqAt.EqAt.str_int x t j u _ _ _ _ h
   .rw[Cz]at h;exact wpAny_eqBool_str h
 «strs»:=λk x t v h=>by
  rcases bJ h with⟨i,u,rfl,e⟩|⟨y,u,rfl,e⟩
  .exact nomatch e
  .injection e with e1 _
   subst e1;cases v<;>rfl
def rZ(prog:Program)(w:World)(i:Int)(t:Tok):(bi prog w).is (.inl i) (.int i t)=true:=vT i t
def r_(prog:Program)(w:World)(x:Str)(t:Tok):(bi prog w).is (.inr x) (.str x t)=true:=lB x t
inductive V where
 |non|bl (b:Bool)|int (i:Int)|str (x:Str)|Ot (b:Array UInt8)|QZ (b:UInt64)|ref (a:Addr)|ty (n:String)
 deriving DecidableEq
noncomputable def RelV:V->Value->Prop
 | .non,u=>u=Value.none
 | .bl b,u=>u=Value.bool b
 | .int i,u=>∃t,u=Value.int i t
 | .str x,u=>∃t,u=Value.str x t
 | .Ot b,u=>∃t,u=Value.bytes b t
 | .QZ b,u=>∃t,u=Value.float b t
 | .ref a,u=>u=Value.ref a
 | .ty n,u=>u=Value.type n
noncomputable abbrev Vals:List V->List Value->Prop:=Paired RelV
theorem Vals.length{xs:List V}{us:Vv}(r:Vals xs us):xs.length=us.length:=Paired.length r
theorem Vals.get:∀{xs:List V}{us:Vv}{i:Nat}{x:V},Vals xs us->xs[i]?=some x->∃u,us[i]?=some u/\RelV x u
 |_,_,_,_,.nil,e=>by simp at e
 |_,_,0,_,.cons r _,e=>by simp at e;subst e;exact⟨_,rfl,r⟩
 |_,_,i+1,x,.cons _ t,e=>by
  obtain⟨u,h1,h2⟩:=Vals.get (i:=i) (x:=x) t (by simpa using e);exact⟨u,by simpa using h1,h2⟩
theorem Vals.set{x:V}{u:Value}(r:RelV x u):∀{xs:List V}{us:Vv}(i:Nat),Vals xs us->Vals (xs.set i x) (us.set i u)
 |_,_,_,.nil=>.nil
 |_,_,0,.cons _ t=>.cons r t
 |_,_,i+1,.cons q t=>.cons q (Vals.set r i t)
theorem Vals.append:∀{xs ys:List V}{us ws:Vv},Vals xs us->Vals ys ws->Vals (xs++ys) (us++ws)
 |_,_,_,_,.nil,s=>s
 |_,_,_,_,.cons r t,s=>.cons r (Vals.append t s)
theorem Vals.take:∀{xs:List V}{us:Vv}(n:Nat),Vals xs us->Vals (xs.take n) (us.take n)
 |_,_,0,_=>.nil
 |_,_,_+1,.nil=>.nil
 |_,_,n+1,.cons r t=>.cons r (Vals.take n t)
theorem Vals.drop:∀{xs:List V}{us:Vv}(n:Nat),Vals xs us->Vals (xs.drop n) (us.drop n)
 |_,_,0,r=>r
 |_,_,_+1,.nil=>.nil
 |_,_,n+1,.cons _ t=>Vals.drop n t
noncomputable def RelO:Option V->Option Value->Prop
 |some v,some u=>RelV v u
 |none,none=>True
 |_,_=>False
noncomputable def KV{κ:Type}:List (κ×V)->List (κ×Value)->Prop:=Paired λ(p:κ×V) (q:κ×Value)=>p.1=q.1/\RelV p.2 q.2
noncomputable def kV:bN->V
 | .inl i=>.int i
 | .inr x=>.str x
inductive HO where
 /-- a list -/
 |lst (xs:List V)
 /-- a tuple (never changes) -/
 |tup (xs:List V)
 /-- a dict whose keys are ints and texts; one whose keys are tuples of ints and texts (the empty one is both) -/
 |dK (kvs:List (bN×V))|dT (kvs:List (List bN×V))
 /-- a set of ints: its members,its size -/
 |set (S:Int->Bool) (n:Nat)
 /-- an instance of the class at C,its dict at dx,its attributes -/
 |ins (C dx:Addr) (fs:List (Str×V))
 /-- the dict of the instance at x -/
 |own (x:Addr)
 /-- the dict of an exception -/
 |xd (fs:List (Str×V))
 /-- a bound method,f of x -/
 |met (f x:Addr)
 /-- a range object lo,lo + 1,.. below hi -/
 |Q0 (lo hi:Int)
 /-- a thing that is known to the object (the script; a dict while a loop walks it): read,never written while it is so -/
 |frz (o:Obj) (u:HO)
 /-- a code object's table -/
 |Pt (ps:Vw)
 /-- any other thing,by what is true of its one object (a def of R6 own: SX a S n:=HO.ext λh=>..) -/
 |ext (φ:Heap->Prop)
abbrev Hp:=Addr->Option HO
noncomputable def upd(H:Hp)(a:Addr)(o:HO):Hp:=λb=>if b=a then some o else H b
def aI{H:Hp}{a:Addr}{o:HO}:upd H a o a=some o:=by unfold upd;rw[if_pos rfl]
def aM{H:Hp}{a b:Addr}{o:HO}(h:b≠a):upd H a o b=H b:=by unfold upd;rw[if_neg h]
def EY{H:Hp}{a b:Addr}{o u:HO}(h:H a=some o)(h':H b=some u)(d:o≠u):a≠b:=by
 intro e;subst e;rw[h]at h';exact d (Vx h')
def bu{H:Hp}{a b:Addr}{o:HO}(h:H a=some o)(h':H b=none):a≠b:=by
 intro e;subst e;rw[h]at h';cases h'
def JG(h:Heap)(a:Addr)(its:Vw):Prop:=∃o,h.get? a=some o/\o.dict=none/\o.cls = .type "tuple"/\∃n,o.data = .seq its n
def JG.tup{h:Heap}{a:Addr}{its:Vw}(x:JG h a its):IsTup h a its:=let ⟨o,e,_,c,d⟩:=x;⟨o,e,c,d⟩
def JG.new(h:Heap)(its:Vw):JG (h.push { cls:=.type "tuple",data:=.seq its }) h.objs.size its:=⟨_,UC _ rfl,rfl,rfl,_,rfl⟩
section
variable (P:Program)(w:World)
noncomputable def Jl(H:Hp)(h:Heap)(a:Addr):HO->Prop
 | .lst xs=>xs.length<=sizeLine/\∃(its:Vv) (n:Nat),Vals xs its/\h.get? a=some { cls:=.type "list",data:=.seq its.toArray n }
 | .tup xs=>xs.length<=sizeLine/\∃its:List Value,Vals xs its/\JG h a its.toArray
 | .dK kvs=>kvs.length<=sizeLine/\(a == sysModules)=false/\∃vs,KV kvs vs/\h.DictOf (bi P w) a vs
 | .dT kvs=>kvs.length<=sizeLine/\(a == sysModules)=false/\∃xs:List (List bN×Addr×Value),
   Paired (λ(p:List bN×V) (q:List bN×Addr×Value)=>p.1=q.1/\H q.2.1=some (.tup (p.1.map kV))/\RelV p.2 q.2.2) kvs xs/\
   ∃o es ep,h.get? a=some o/\o.ExactDict/\o.data = .dict es ep/\es.toList=xs.map (entryOfKey (tupleKind (bi P w)))/\(xs.map (·.1)).Nodup
 | .set S n=>h.SetOf (intKind P w) a S n
 | .ins C dx fs=>H dx=some (.own a)/\fs.length<=1000/\dx≠a/\h.get? a=some (PySem.W.instObj C dx)/\
   ∃mA,h.Ns1 dx mA/\(∀f,RelO (fs.lookup f) (mA f))/\PySem.Within mA (fs.map (·.1))
 | .own _=>∃o,h.get? a=some o
 | .xd fs=>∃mA,h.Ns1 a mA/\∀f,RelO (fs.lookup f) (mA f)
 | .Q0 lo hi=>∃t u v,h.get? a=some { cls:=.type "range",data:=.fields #[.int lo t,.int hi u,.int 1 v] }
 | .frz o u=>h.get? a=some o/\Jl H h a u
 | .Pt ps=>h.get? a=some { cls:=.none,data:=.fields ps }
 | .met f x=>h.get? a=some (PySem.W.methodObj (.ref f) (.ref x))
 | .ext φ=>φ h/\(∃o,h.get? a=some o)/\∀h1 h2:Heap,φ h1->(∀o,h1.get? a=some o->h2.get? a=some o)->φ h2
def Lz(H:Hp)(h:Heap):Prop:=∀a o,H a=some o->Jl P w H h a o
end
section
variable {P:Program}{w:World}{H H':Hp}{h h':Heap}{a:Addr}{o:HO}
theorem Jl.lt(x:Jl P w H h a o):a < h.objs.size:=by
 cases o with
 |lst xs=>obtain⟨_,_,_,_,e⟩:=x;exact Ux e
 |tup xs=>obtain⟨_,_,_,p⟩:=x;exact p.tup.lt
 |dK kvs=>obtain⟨_,_,_,_,o,_,_,e,_⟩:=x;exact Ux e
 |dT kvs=>obtain⟨_,_,_,_,o,_,_,e,_⟩:=x;exact Ux e
 |set S n=>obtain⟨o,_,_,_,e,_⟩:=x;exact Ux e
 |ins C dx fs=>obtain⟨_,_,_,e,_⟩:=x;exact Ux e
 |own y=>obtain⟨_,e⟩:=x;exact Ux e
 |xd fs=>obtain⟨_,⟨_,_,_,e,_⟩,_⟩:=x;exact Ux e
 |Q0 lo hi=>obtain⟨_,_,_,e⟩:=x;exact Ux e
 |frz ob u=>obtain⟨e,_⟩:=x;exact Ux e
 |Pt ps=>exact Ux (show h.get? a=some _ from x)
 |met f y=>exact Ux (show h.get? a=some _ from x)
 |ext φ=>obtain⟨_,⟨_,e⟩,_⟩:=x;exact Ux e
theorem Paired.Pu{α β:Type}{F G:α->β->Prop}:∀{l₁:List α}{l₂:List β},Paired F l₁ l₂->(∀a b,F a b->G a b)->Paired G l₁ l₂
 |_,_,.nil,_=>.nil
 |_,_,.cons r t,f=>.cons (f _ _ r) (Paired.Pu t f)
def Jl.stay(x:Jl P w H h a o)(k:∀b u,(b=a\/H b=some (.own a))->h.get? b=some u->h'.get? b=some u)
  (ho:∀b,H b=some (.own a)->H' b=some (.own a)) (ht:∀b xs,H b=some (.tup xs)->H' b=some (.tup xs)):Jl P w H' h' a o:=by
 induction o with
 |lst xs=>obtain⟨z,its,n,r,e⟩:=x;exact⟨z,its,n,r,k _ _ (.inl rfl) e⟩
 |tup xs=>obtain⟨z,its,r,ob,e,c⟩:=x;exact⟨z,its,r,ob,k _ _ (.inl rfl) e,c⟩
 |dK kvs=>obtain⟨z,y,vs,r,ob,es,ep,e,c⟩:=x;exact⟨z,y,vs,r,ob,es,ep,k _ _ (.inl rfl) e,c⟩
 |dT kvs=>
  obtain⟨z,y,xs,r,ob,es,ep,e,c⟩:=x;exact⟨z,y,xs,Paired.Pu r λp q z=>⟨z.1,ht _ _ z.2.1,z.2.2⟩,ob,es,ep,k _ _ (.inl rfl) e,c⟩
 |set S n=>obtain⟨ob,es,ep,t,e,c⟩:=x;exact⟨ob,es,ep,t,k _ _ (.inl rfl) e,c⟩
 |ins C dx fs=>
  obtain⟨d,z,ne,e,mA,⟨od,es,ep,e2,c⟩,r⟩:=x;exact⟨ho _ d,z,ne,k _ _ (.inl rfl) e,mA,⟨od,es,ep,k _ _ (.inr d) e2,c⟩,r⟩
 |own y=>obtain⟨ob,e⟩:=x;exact⟨ob,k _ _ (.inl rfl) e⟩
 |xd fs=>obtain⟨mA,⟨od,es,ep,e,c⟩,r⟩:=x;exact⟨mA,⟨od,es,ep,k _ _ (.inl rfl) e,c⟩,r⟩
 |Q0 lo hi=>obtain⟨t,u,v,e⟩:=x;exact⟨t,u,v,k _ _ (.inl rfl) e⟩
 |frz ob u ih=>obtain⟨e,q⟩:=x;exact⟨k _ _ (.inl rfl) e,ih q⟩
 |Pt ps=>
  have e:h.get? a=some { cls:=.none,data:=.fields ps }:=x;show h'.get? a=some { cls:=.none,data:=.fields ps };exact k a _ (.inl rfl) e
 |met f y=>
  have e:h.get? a=some (PySem.W.methodObj (.ref f) (.ref y)):=x;show h'.get? a=some (PySem.W.methodObj (.ref f) (.ref y));exact k a _ (.inl rfl) e
 |ext φ=>obtain⟨p,⟨o,e⟩,st⟩:=x;exact⟨st _ _ p λo q=>k _ _ (.inl rfl) q,⟨o,k _ _ (.inl rfl) e⟩,st⟩
theorem Lz.lt(x:Lz P w H h)(e:H a=some o):a < h.objs.size:=(x a o e).lt
def Lz.fresh(x:Lz P w H h)(e:h.objs.size<=a):H a=none:=by
 cases q:H a with
 |none=>rfl
 |some u=>exact absurd (UL (x.lt q) e) (VS _)
def Lz.kept(x:Lz P w H h)(k:∀b u,h.get? b=some u->h'.get? b=some u):Lz P w H h':=λa o e=>
 (x a o e).stay (λb u _ q=>k b u q) (λ_ q=>q) λ_ _ q=>q
def Lz.laid(x:Lz P w H h)(k:∀b u,h.get? b=some u->h'.get? b=some u)(hp:h.objs.size<=a)(new:Jl P w (upd H a o) h' a o):Lz P w (upd H a o) h':=λb u e=>by
 have hn:=x.fresh hp;by_cases hb:b=a
 .subst hb;rw[aI]at e;cases e;exact new
 .rw[aM hb]at e;exact(x b u e).stay (λc v _ q=>k c v q) (λc q=>by rw[aM (bu q hn)];exact q) λc xs q=>by rw[aM (bu q hn)];exact q
end
def Rd(H:Hp)(a:Addr)(u:HO):Prop:=H a=some u\/∃o,H a=some (.frz o u)
def Rd.ok{P:Program}{w:World}{H:Hp}{h:Heap}{a:Addr}{u:HO}(r:Rd H a u)(x:Lz P w H h):Jl P w H h a u:=by
 rcases r with r|⟨o,r⟩
 .exact x a u r
 .obtain⟨_,q⟩:=x a _ r;exact q
noncomputable def EZ:Option HO->Prop
 |some (.lst _)=>True
 |some (.dK _)=>True
 |some (.dT _)=>True
 |some (.set _ _)=>True
 |some (.ins _ _ _)=>True
 |some (.ext _)=>True
 |_=>False
section
variable {P:Program}{w:World}{H:Hp}{h h':Heap}{x e:Addr}{o':HO}
def Lz.write(ok:Lz P w H h)(mu:EZ (H x))(he:e=x\/H e=some (.own x))(k:∀b u,b≠e->h.get? b=some u->h'.get? b=some u)(P5:∃u,h'.get? e=some u)
  (new:Jl P w (upd H x o') h' x o'):Lz P w (upd H x o') h':=λb u q=>by
 have P_:∀c y,H c=some (.own y)->c≠x:=λc y r z=>by subst z;rw[r]at mu;exact mu
 have Q2:∀c xs,H c=some (.tup xs)->c≠x:=λc xs r z=>by subst z;rw[r]at mu;exact mu
 by_cases hb:b=x
 .subst hb;rw[aI]at q;cases q;exact new
 .rw[aM hb]at q;by_cases Pv:b=e
  .have q':H b=some (.own x):=by
    rcases he with z|z
    .exact absurd (Pv.trans z) hb
    .rw[Pv];exact z
   rw[q]at q';cases q';obtain⟨v,hv⟩:=P5;exact⟨v,by rw[Pv];exact hv⟩
  .refine(ok b u q).stay (λc v hc r=>k c v ?_ r) (λc r=>by rw[aM (P_ c b r)];exact r) λc xs r=>by rw[aM (Q2 c xs r)];exact r
   rcases hc with rfl|hc
   .exact Pv
   .rintro rfl;rcases he with z|z
    .exact P_ c b hc z
    .rw[hc]at z;cases z;exact hb rfl
end
structure Un(fs ex:List Addr)(H H':Hp)(h h':Heap):Prop where
 keep:∀b o,h.get? b=some o->H b=none->b ∉ fs->b ∉ ex->h'.get? b=some o
 slot:∀b o,h.get? b=some o->H b=none->b∈fs->b ∉ ex->∃sl,h'.get? b=some { o with slots:=sl }
 free:∀b o,h.get? b=some o->H b=none->b ∉ ex->H' b=none
 there:∀b o,h.get? b=some o->b ∉ ex->∃o',h'.get? b=some o'
 tups:∀b xs,H b=some (.tup xs)->H' b=some (.tup xs)
 M0:∀b o u,H b=some (.frz o u)->H' b=some (.frz o u)
 Nt:∀b ps,H b=some (.Pt ps)->∃more,H' b=some (.Pt (ps++more))
section
variable {fs fs' ex ex':List Addr}{H H1 H2:Hp}{h h1 h2 h':Heap}{a x e:Addr}{o:HO}
def Un.any(u:Un fs ex H H1 h h1){b:Addr}{ob:Obj}(q:h.get? b=some ob)(n:H b=none)(hx:b ∉ ex):∃sl,h1.get? b=some { ob with slots:=sl }:=by
 by_cases hb:b∈fs
 .exact u.slot b ob q n hb hx
 .exact⟨ob.slots,u.keep b ob q n hb hx⟩
def Un.kept(k:∀b u,h.get? b=some u->h'.get? b=some u):Un fs ex H H h h':=
 ⟨λb ob q _ _ _=>k b ob q,λb ob q _ _ _=>⟨ob.slots,k b ob q⟩,λ_ _ _ n _=>n,λb ob q _=>⟨ob,k b ob q⟩,λ_ _ q=>q,λ_ _ _ q=>q,λ_ ps q=>⟨#[],by rw[q];simp⟩⟩
def Un.refl:Un fs ex H H h h:=Un.kept λ_ _ q=>q
def Un.laid(k:∀b u,h.get? b=some u->h'.get? b=some u)(hp:h.objs.size<=a)(hn:H a=none):Un fs ex H (upd H a o) h h' where
 keep:=λb u q _ _ _=>k b u q
 slot:=λb u q _ _ _=>⟨u.slots,k b u q⟩
 free:=λb u q n _=>by rw[aM (US (UL (Ux q) hp))];exact n
 there:=λb u q _=>⟨u,k b u q⟩
 tups:=λb xs q=>by rw[aM (bu q hn)];exact q
 M0:=λb u xs q=>by rw[aM (bu q hn)];exact q
 Nt:=λb ps q=>⟨#[],by rw[aM (bu q hn),q];simp⟩
def Un.write(mu:EZ (H x))(he:e=x\/H e=some (.own x))(k:∀b u,b≠e->h.get? b=some u->h'.get? b=some u)(P5:∃u,h'.get? e=some u):Un fs ex H (upd H x o) h h':=by
 have hx:∀b,H b=none->b≠x:=λb n z=>by subst z;rw[n]at mu;exact mu
 have hb:∀b,H b=none->b≠e:=λb n z=>by
  subst z;rcases he with r|r
  .exact hx b n r
  .rw[n]at r;cases r
 have hm:∀b u,H b=some u->¬EZ (some u)->b≠x:=λb u q nm z=>by subst z;rw[q]at mu;exact nm mu
 refine⟨λb u q n _ _=>k b u (hb b n) q,λb u q n _ _=>⟨u.slots,k b u (hb b n) q⟩,λb u q n _=>by rw[aM (hx b n)];exact n,λb u q _=>?_,
  λb xs q=>by rw[aM (hm b _ q λz=>z)];exact q,λb u xs q=>by rw[aM (hm b _ q λz=>z)];exact q,λb ps q=>⟨#[],by rw[aM (hm b _ q λz=>z),q];simp⟩⟩
 by_cases Pv:b=e
 .subst Pv;exact P5
 .exact⟨u,k b u Pv q⟩
end
noncomputable def GA(h:Heap)(H:Hp):List Addr:=(List.range h.objs.size).filter λa=>(H a).isSome
noncomputable def qh(h:Heap)(H:Hp):Heap:=PySem.W.hideAll h (GA h H)
def vU(h:Heap)(H:Hp):(qh h H).objs.size=h.objs.size:=PySem.W.hideAll_size _ _
def xu{h:Heap}{H:Hp}{b:Addr}{o:Obj}(e:h.get? b=some o)(n:H b=none):(qh h H).get? b=some o:=
 PySem.W.hideAll_get _ e λhm=>by
  have q:(H b).isSome=true:=(W9.mp hm).2;rw[n]at q;simp at q
def zS{h:Heap}{H:Hp}{b:Addr}{o:Obj}(e:(qh h H).get? b=some o):h.get? b=some o/\H b=none:=by
 have e':h.get? b=some o:=PySem.W.of_hideAll (GA h H) e;refine⟨e',?_⟩;cases q:H b with
 |none=>rfl
 |some x=>
  have hm:b∈GA h H:=W9.mpr ⟨Wk.mpr (Ux e'),by simp[q]⟩;have z:(qh h H).get? b=none:=PySem.W.hideAll_none (GA h H) hm;rw[z]at e;cases e
structure Mod(K:Vo)(mg:Vr)(base:Heap):Prop where
 Q4:K.In base
 glob:base.Ns mainGlobals mg
 blt:∃mb,base.Ns builtinsNs mb/\∀x:Str,x ≠ "__name__"->mb x=bootBuiltins x
 nolimit:base.NoLimit
structure Cx where
 prog:Program
 w:World
 K:Vo
 mg:Vr
 base:Heap
 A:Around
 N:List Str
 s₀:Shared
 H₀:Hp
 env:Env
 outer:List Env
 stack:List Env
 ex:List Addr
 fn:Str->Bool
 calm:Bool
 pn:Va
 xe:Value->Shared->Prop
noncomputable def frs(l:List Env):List Addr:=l.filterMap (·.frame)
noncomputable abbrev Cx.fs(X:Cx):List Addr:=frs X.outer
def GB(sc:Scope)(x:Str):Prop:=sc.names.lookup x=some .local\/sc.names.lookup x=some .cell\/sc.names.lookup x=some .free
def BJ(sc:Scope)(x:Str):Prop:=sc.names.lookup x=some .local\/sc.names.lookup x=some .cell
def GP(env:Env)(h:Heap)(m:Vr)(x:Str)(u:Value):Prop:=
 (env.kindOf x=some .local/\m x=some u)\/((env.kindOf x=some .cell\/env.kindOf x=some .free)/\∃c,env.cells.lookup x=some c/\h.IsCell c (some u))
structure Cx.Ok(X:Cx):Prop where
 mod:Mod X.K X.mg X.base
 kind:X.env.scope.kind = .function
 glob:X.env.globals=mainGlobals
 blt:X.env.builtins=builtinsNs
 above:X.s₀.heap.objs.size<=X.env.locals
 inj:∀x y c,X.env.cells.lookup x=some c->X.env.cells.lookup y=some c->x=y
 has:∀x,(X.env.kindOf x=some .cell\/X.env.kindOf x=some .free)->∃c,X.env.cells.lookup x=some c
 P6:∀x c,X.fn x=true->X.env.cells.lookup x=some c->X.s₀.heap.objs.size<=c
 hd:X.calm=true->X.A.handled=none
 frames:X.A.frames=some X.stack
 stk:X.stack=X.outer\/(X.stack=X.env::X.outer/\X.env.frame=some X.env.locals)
 Q5:∀b∈X.ex,b≠X.env.locals/\∀x c,X.env.cells.lookup x=some c->c≠b
 bs:∀b o,X.base.get? b=some o->X.s₀.heap.get? b=some o/\X.H₀ b=none
 OU:X.base.objs.size<=X.s₀.heap.objs.size
 Of:∀b o,X.base.get? b=some o->b ∉ X.ex
 Ou:∀b∈X.ex,b ∉ X.fs
 My:X.s₀.heap.FunFrames X.base X.outer
 Pw:∀b∈X.fs,X.H₀ b=none
structure Inv(X:Cx)(pins:Va)(σ:List (Option V))(H:Hp)(s:Shared):Prop where
 ok:X.Ok
 os:s.os=X.s₀.os
 bare:AllBare s.gens
 base:Un X.fs X.ex X.H₀ H X.s₀.heap s.heap
 loc:∃m,s.heap.Ns X.env.locals m/\∀(i:Nat)(x:Str)(v:V),X.N[i]?=some x->σ[i]?=some (some v)->GB X.env.scope x->∃u,RelV v u/\GP X.env s.heap m x u
 cell:∀x c,X.env.cells.lookup x=some c->∃v,s.heap.IsCell c v
 free:H X.env.locals=none
 Ld:∀x c,X.env.cells.lookup x=some c->H c=none
 pin:∀p∈X.pn++pins,s.heap.get? p.1=some p.2/\H p.1=none/\p.1≠X.env.locals/\p.1 ∉ X.fs/\∀v,p.2.data ≠ .cell v
 hok:Lz X.prog X.w H s.heap
 len:σ.length=X.N.length
section
variable {X:Cx}{pins:Va}{σ:List (Option V)}{H H':Hp}{s:Shared}{h':Heap}
def Cx.Ok.Q6(ok:X.Ok){b:Addr}{o:Obj}(e:X.base.get? b=some o):b ∉ X.fs:=λhb=>by
 have:=(ok.My.mem hb).1;rw[e]at this;cases this
theorem Inv.bs(I:Inv X pins σ H s):∀b o,X.base.get? b=some o->s.heap.get? b=some o/\H b=none:=λb o e=>
 ⟨I.base.keep b o (I.ok.bs b o e).1 (I.ok.bs b o e).2 (I.ok.Q6 e) (I.ok.Of b o e),I.base.free b o (I.ok.bs b o e).1 (I.ok.bs b o e).2 (I.ok.Of b o e)⟩
def Inv.bk(I:Inv X pins σ H s):∀b o,X.base.get? b=some o->s.heap.get? b=some o:=λb o e=>(I.bs b o e).1
theorem Inv.mod(I:Inv X pins σ H s):Mod X.K X.mg X.base:=I.ok.mod
def Inv.Ov(I:Inv X pins σ H s):X.K.In s.heap:=I.ok.mod.Q4.keeps I.bk
theorem Inv.lt(I:Inv X pins σ H s):X.env.locals < s.heap.objs.size:=let ⟨_,hn,_⟩:=I.loc;hn.lt
def Inv.sz(I:Inv X pins σ H s):X.s₀.heap.objs.size<=s.heap.objs.size:=UJ I.ok.above (Xm I.lt)
def Inv.Qa(I:Inv X pins σ H s){a:Addr}(h:s.heap.objs.size<=a):a ∉ X.fs:=λhb=>by
 obtain⟨_,o,ho,_⟩:=I.ok.My.mem hb;exact absurd (UL (Ux ho) (UJ I.sz h)) (VS _)
def Inv.Px(I:Inv X pins σ H s):∀x c,X.env.cells.lookup x=some c->c≠X.env.locals:=λx c e z=>by
 obtain⟨v,o,ho,hd⟩:=I.cell x c e;obtain⟨m,⟨o',es,ep,ho',hd',_⟩,_⟩:=I.loc;rw[z,ho']at ho;cases ho;rw[hd']at hd;cases hd
theorem Inv.My(I:Inv X pins σ H s):s.heap.FunFrames X.base X.outer:=by
 have all:∀(l:List Env),(∀b∈frs l,b∈X.fs)->X.s₀.heap.FunFrames X.base l->s.heap.FunFrames X.base l:=by
  intro l
  induction l with
  |nil=>intro _ _;trivial
  |cons env r ih=>
   intro hs hl;obtain⟨hk,⟨L,o,hf,hn,ho,hd⟩,hr⟩:=hl;have hL:L∈X.fs:=hs L (by unfold frs;rw[Ye,hf];exact V4);obtain⟨sl,e⟩:=I.base.slot L o ho (I.ok.Pw L hL) hL λz=>I.ok.Ou L z hL;exact⟨hk,⟨L,_,hf,hn,e,hd⟩,ih (λb hb=>hs b (by unfold frs;rw[Ye,hf];exact VG _ hb)) hr⟩
 exact all X.outer (λ_ hb=>hb) I.ok.My
theorem Inv.stack(I:Inv X pins σ H s):s.heap.FunFrames X.base X.stack:=by
 rcases I.ok.stk with e|⟨e,hf⟩
 .rw[e];exact I.My
 .rw[e];obtain⟨m,hn,_⟩:=I.loc;refine .cons (by rw[I.ok.kind];decide) hf hn ?_ I.My;exact Heap.get?_none_of_le (UJ I.ok.OU I.ok.above)
def Inv.Mc(I:Inv X pins σ H s):∀b∈frs X.stack,b∈X.env.locals::X.fs:=λb hb=>by
 rcases I.ok.stk with e|⟨e,hf⟩
 .rw[e]at hb;exact VG _ hb
 .rw[e]at hb;unfold frs at hb;rw[Ye,hf]at hb;exact hb
def Inv.NX(I:Inv X pins σ H s):∀b∈frs X.stack,H b=none:=λb hb=>by
 rcases Uv.mp (I.Mc b hb)with e|hb
 .rw[e];exact I.free
 .obtain⟨_,o,ho,_⟩:=I.ok.My.mem hb;exact I.base.free b o ho (I.ok.Pw b hb) λz=>I.ok.Ou b z hb
def Inv.step{g':Array GenState}{t':Nat}{d':Drawn}{ch:List Addr}(I:Inv X pins σ H s)
  (hch:∀b∈ch,(b∈X.ex\/X.s₀.heap.objs.size<=b)/\b≠X.env.locals/\(∀x c,X.env.cells.lookup x=some c->c≠b)/\∀p∈X.pn++pins,p.1≠b)
  (keep:∀b o,b≠X.env.locals->b ∉ X.fs->b ∉ ch->s.heap.get? b=some o->H b=none->h'.get? b=some o)
  (slot:∀b o,b≠X.env.locals->b∈X.fs->b ∉ ch->s.heap.get? b=some o->H b=none->∃sl,h'.get? b=some { o with slots:=sl }) (free:∀b o,b ∉ ch->s.heap.get? b=some o->H b=none->H' b=none)
  (there:∀b o,b ∉ ch->s.heap.get? b=some o->∃o',h'.get? b=some o')
  (tups:∀b xs,H b=some (.tup xs)->H' b=some (.tup xs)) (M0:∀b o u,H b=some (.frz o u)->H' b=some (.frz o u)) (Nt:∀b ps,H b=some (.Pt ps)->∃more,H' b=some (.Pt (ps++more)))
  (ns:∀m,s.heap.Ns X.env.locals m->h'.Ns X.env.locals m) (hok:Lz X.prog X.w H' h') (hg:AllBare g') :
  Inv X pins σ H' { s with heap:=h',gens:=g',drawn:=d',toks:=t' }:=by
 have R7:∀b o,X.s₀.heap.get? b=some o->b≠X.env.locals:=λb o e=>US (UL (Ux e) I.ok.above);have QE:∀b o,X.s₀.heap.get? b=some o->b ∉ X.ex->b ∉ ch:=λb o e hx hb=>by
  rcases(hch b hb).1 with z|z
  .exact hx z
  .exact absurd (UL (Ux e) z) (VS _)
 have cellK:∀x c,X.env.cells.lookup x=some c->∀v,s.heap.IsCell c v->h'.IsCell c v:=λx c e v ⟨o,ho,hd⟩=>by
  have Qb:c ∉ ch:=λz=>(hch c z).2.2.1 x c e rfl;by_cases hc:c∈X.fs
  .obtain⟨sl,q⟩:=slot c o (I.Px x c e) hc Qb ho (I.Ld x c e);exact⟨_,q,hd⟩
  .exact⟨o,keep c o (I.Px x c e) hc Qb ho (I.Ld x c e),hd⟩
 refine⟨I.ok,I.os,hg,⟨λb o e n hb hx=>?_,λb o e n hb hx=>?_,λb o e n hx=>?_,λb o e hx=>?_,λb xs e=>tups b xs (I.base.tups b xs e),λb o xs e=>M0 b o xs (I.base.M0 b o xs e),λb ps e=>?_⟩,?_,λx c e=>?_,?_,λx c e=>?_,λp hp=>?_,hok,I.len⟩
 .exact keep b o (R7 b o e) hb (QE b o e hx) (I.base.keep b o e n hb hx) (I.base.free b o e n hx)
 .obtain⟨sl,e1⟩:=I.base.slot b o e n hb hx;obtain⟨sl',e2⟩:=slot b _ (R7 b o e) hb (QE b o e hx) e1 (I.base.free b o e n hx);exact⟨sl',e2⟩
 .obtain⟨o',e1⟩:=I.base.there b o e hx;exact free b o' (QE b o e hx) e1 (I.base.free b o e n hx)
 .obtain⟨o',e1⟩:=I.base.there b o e hx;exact there b o' (QE b o e hx) e1
 .obtain⟨m1,e1⟩:=I.base.Nt b ps e;obtain⟨m2,e2⟩:=Nt b _ e1;exact⟨m1++m2,by rw[e2,Array.append_assoc]⟩
 .obtain⟨m,hn,hl⟩:=I.loc;refine⟨m,ns m hn,λi x v e1 e2 e3=>?_⟩;obtain⟨u,r,l⟩:=hl i x v e1 e2 e3;refine⟨u,r,?_⟩;rcases l with l|⟨k,c,e,z⟩
  .exact .inl l
  .exact .inr ⟨k,c,e,cellK x c e _ z⟩
 .obtain⟨v,z⟩:=I.cell x c e;exact⟨v,cellK x c e v z⟩
 .obtain⟨m,⟨o,_,_,ho,_⟩,_⟩:=I.loc;exact free _ o (λz=>(hch _ z).2.1 rfl) ho I.free
 .obtain⟨v,o,ho,hd⟩:=I.cell x c e;exact free c o (λz=>(hch c z).2.2.1 x c e rfl) ho (I.Ld x c e)
 .obtain⟨e,n,ne,nf,d⟩:=I.pin p hp;have Qb:p.1 ∉ ch:=λz=>(hch p.1 z).2.2.2 p hp rfl;exact⟨keep p.1 p.2 ne nf Qb e n,free p.1 p.2 Qb e n,ne,nf,d⟩
def Inv.un{t':Nat}(I:Inv X pins σ H s)(u:Un X.fs [] H H' s.heap h')(hok:Lz X.prog X.w H' h'):Inv X pins σ H' { s with heap:=h',toks:=t' }:=by
 obtain⟨m,⟨o,es,ep,ho,r⟩,_⟩:=id I.loc;obtain⟨sl,hL⟩:=u.any ho I.free (by simp);exact I.step (g':=s.gens) (d':=s.drawn) (ch:=[]) (λ_ z=>nomatch z) (λb o _ hb _ e n=>u.keep b o e n hb (by simp)) (λb o _ hb _ e n=>u.slot b o e n hb (by simp)) (λb o _ e n=>u.free b o e n (by simp)) (λb o _ e=>u.there b o e (by simp)) u.tups u.M0 u.Nt (λm' hm=>by
  obtain⟨o',es',Q7,ho',r'⟩:=hm;rw[ho]at ho';cases ho';exact⟨_,es',Q7,hL,r'⟩) hok I.bare
def Inv.call{g':Array GenState}{t':Nat}{d':Drawn}{ch:List Addr}(I:Inv X pins σ H s)(u:Un (frs X.stack) ch H H' s.heap h')(hok:Lz X.prog X.w H' h')(hg:AllBare g')
  (hch:∀b∈ch,(b∈X.ex\/X.s₀.heap.objs.size<=b)/\b≠X.env.locals/\(∀x c,X.env.cells.lookup x=some c->c≠b)/\∀p∈X.pn++pins,p.1≠b) :
  Inv X pins σ H' { s with heap:=h',gens:=g',drawn:=d',toks:=t' }:=by
 obtain⟨m,⟨o,es,ep,ho,r⟩,_⟩:=id I.loc;obtain⟨sl,hL⟩:=u.any ho I.free λz=>(hch _ z).2.1 rfl;exact I.step (ch:=ch) hch (λb o hL hb hc e n=>u.keep b o e n (λz=>(Uv.mp (I.Mc b z)).elim hL hb) hc) (λb o _ _ hc e n=>u.any e n hc) (λb o hc e n=>u.free b o e n hc) (λb o hc e=>u.there b o e hc) u.tups u.M0 u.Nt (λm' hm=>by
  obtain⟨o',es',Q7,ho',r'⟩:=hm;rw[ho]at ho';cases ho';exact⟨_,es',Q7,hL,r'⟩) hok hg
def Inv.turned{t':Nat}{it:Addr}(I:Inv X pins σ H s)(k:∀b o,b≠it->s.heap.get? b=some o->h'.get? b=some o)(hn:H it=none)(hL:it≠X.env.locals)
  (h1:it∈X.ex\/X.s₀.heap.objs.size<=it) (h2:∀x c,X.env.cells.lookup x=some c->c≠it) (h3:∀p∈X.pn++pins,p.1≠it):Inv X pins σ H { s with heap:=h',toks:=t' }:=by
 have Qc:∀b u,H b=some u->b≠it:=λb u e z=>by rw[z,hn]at e;cases e
 refine I.step (g':=s.gens) (d':=s.drawn) (ch:=[it]) (λb hb=>?_) (λb o _ _ hc e _=>k b o (λz=>hc (by simp[z])) e) (λb o _ _ hc e _=>⟨o.slots,k b o (λz=>hc (by simp[z])) e⟩) (λ_ _ _ _ n=>n)
  (λb o hc e=>⟨o,k b o (λz=>hc (by simp[z])) e⟩) (λ_ _ e=>e) (λ_ _ _ e=>e) (λb ps e=>⟨#[],by rw[e];simp⟩) (λm hm=>?_) (λb u e=>?_) I.bare
 .have e:b=it:=by simpa using hb
  subst e;exact⟨h1,hL,h2,h3⟩
 .obtain⟨o,es,ep,ho,r⟩:=hm;exact⟨o,es,ep,k _ o (Ww hL) ho,r⟩
 .refine(I.hok b u e).stay (λc v hc q=>k c v ?_ q) (λ_ q=>q) λ_ _ q=>q;rcases hc with z|z
  .rw[z];exact Qc b u e
  .exact Qc c _ z
def Inv.tok(I:Inv X pins σ H s)(t:Nat):Inv X pins σ H { s with toks:=t }:=I.un (h':=s.heap) (t':=t) Un.refl I.hok
theorem Inv.kept{t':Nat}(I:Inv X pins σ H s)(k:∀b u,s.heap.get? b=some u->h'.get? b=some u):Inv X pins σ H { s with heap:=h',toks:=t' }:=I.un (Un.kept k) (I.hok.kept k)
theorem Inv.laid{a:Addr}{o:HO}{t':Nat}(I:Inv X pins σ H s)(k:∀b u,s.heap.get? b=some u->h'.get? b=some u)(hp:s.heap.objs.size<=a)(new:Jl X.prog X.w (upd H a o) h' a o) :
  Inv X pins σ (upd H a o) { s with heap:=h',toks:=t' }:=I.un (Un.laid k hp (I.hok.fresh hp)) (I.hok.laid k hp new)
theorem Inv.write{x e:Addr}{o:HO}{t':Nat}(I:Inv X pins σ H s)(mu:EZ (H x))(he:e=x\/H e=some (.own x))(k:∀b u,b≠e->s.heap.get? b=some u->h'.get? b=some u)(P5:∃u,h'.get? e=some u)
  (new:Jl X.prog X.w (upd H x o) h' x o):Inv X pins σ (upd H x o) { s with heap:=h',toks:=t' }:=I.un (Un.write mu he k P5) (I.hok.write mu he k P5 new)
def Inv.weak{σ':List (Option V)}(I:Inv X pins σ H s)(hl:σ'.length=σ.length)(w:∀(i:Nat) v,σ'[i]?=some (some v)->σ[i]?=some (some v)):Inv X pins σ' H s:=
 ⟨I.ok,I.os,I.bare,I.base,let ⟨m,hn,hl'⟩:=I.loc;⟨m,hn,λi x v e1 e2 e3=>hl' i x v e1 (w i v e2) e3⟩,I.cell,I.free,I.Ld,I.pin,I.hok,hl.trans I.len⟩
def Inv.MB{Pi:Va}(I:Inv X pins σ H s)(h:∀p∈Pi,s.heap.get? p.1=some p.2/\H p.1=none/\p.1≠X.env.locals/\p.1 ∉ X.fs/\∀v,p.2.data ≠ .cell v):Inv X Pi σ H s:=
 ⟨I.ok,I.os,I.bare,I.base,I.loc,I.cell,I.free,I.Ld,λp hp=>(Ur.mp hp).elim (λz=>I.pin p (UY _ z)) (h p),I.hok,I.len⟩
def nk{N:Vs}(hN:N.Nodup){i j:Nat}{x:Str}(a:N[i]?=some x)(b:N[j]?=some x):i=j:=by
 obtain⟨h1,e1⟩:=UH.mp a;obtain⟨h2,e2⟩:=UH.mp b;exact(List.getElem_inj hN).mp (e1.trans e2.symm)
def pg{M : Model}{A : Around}{E : Value -> Shared -> Prop}{i : Nat}{x : Str}{v : V}{u : Value}{Q : Unit -> Shared -> Prop}(I : Inv X pins σ H s)(hN : X.N.Nodup)(hi : X.N[i]? = some x)(hx : BJ X.env.scope x)(r : RelV v u)
  (h : ∀ s', Inv X pins (σ.set i (some v)) H s' -> (∃ a, Heap.SameBut a s.heap s'.heap /\ (a = X.env.locals \/ X.env.cells.lookup x = some a)) -> Q () s') (hf : X.fn x = true \/ X.env.scope.names.lookup x = some .local := by first | exact .inl rfl | exact .inr rfl | assumption) : wpAny M A (storeName X.env x u) Q E s := by
 obtain ⟨m, hn, hl⟩ := id I.loc;have hcls : (X.env.scope.kind == .class || (X.env.scope.kind == .module && X.env.locals != X.env.globals)) = false := by rw [I.ok.kind]; rfl
 have R8 : i < σ.length := by rw [I.len]; exact (UH.mp hi).1
 have Px := I.Px;have tracked : ∀ {a : Addr} {h' : Heap}, (∃ o, s.heap.get? a = some o /\ H a = none) -> Heap.SameBut a s.heap h' -> Lz X.prog X.w H h' := λ{a h'} ha hs b ob e => by
  obtain ⟨_, _, hfree⟩ := ha;refine (I.hok b ob e).stay (λc w' hc q => (hs.2 c ?_).trans q) (λ_ q => q) λ_ _ q => q;rintro rfl;rcases hc with rfl | hc
  .rw [hfree] at e; cases e
  .rw [hfree] at hc; cases hc
 rcases hx with hk | hk
 .refine wpAny_storeName_local hk hn (λh' hn' hs => ?_) hcls;obtain ⟨oL, _, _, SY, _⟩ := id hn;refine h _ ⟨I.ok, I.os, I.bare, ⟨λb o e n hb hx => ?_, λb o e n hb hx => ?_, I.base.free, λb o e hx => ?_, I.base.tups, I.base.M0, I.base.Nt⟩, ⟨_, hn', λj y v' e1 e2 e3 => ?_⟩, λy c e => ?_, I.free, I.Ld, λp hp => ?_, tracked ⟨oL, SY, I.free⟩ hs, by simpa using I.len⟩ ⟨_, hs, .inl rfl⟩
  .exact (hs.2 b (US (UL (Ux e) I.ok.above))).trans (I.base.keep b o e n hb hx)
  .obtain ⟨sl, e1⟩ := I.base.slot b o e n hb hx;exact ⟨sl, (hs.2 b (US (UL (Ux e) I.ok.above))).trans e1⟩
  .obtain ⟨o', e1⟩ := I.base.there b o e hx;exact ⟨o', (hs.2 b (US (UL (Ux e) I.ok.above))).trans e1⟩
  .by_cases hj : j = i
   .subst hj;rw [hi] at e1; cases e1;rw [List.getElem?_set_self R8] at e2;cases e2;exact ⟨u, r, .inl ⟨hk, by simp⟩⟩
   .rw [List.getElem?_set_ne (Ww hj)] at e2;obtain ⟨u', r', q⟩ := hl j y v' e1 e2 e3;refine ⟨u', r', ?_⟩;rcases q with ⟨k, e⟩ | ⟨k, c, e, z⟩
    .refine .inl ⟨k, ?_⟩;have : y ≠ x := λe => hj (nk hN e1 (e ▸ hi));simp [this, e]
    .exact .inr ⟨k, c, e, z.sameBut hs (Px y c e)⟩
  .obtain ⟨w', z⟩ := I.cell y c e;exact ⟨w', z.sameBut hs (Px y c e)⟩
  .obtain ⟨e, n, ne, nf, d⟩ := I.pin p hp;exact ⟨(hs.2 p.1 ne).trans e, n, ne, nf, d⟩
 .have hfn : X.fn x = true := by
   rcases hf with z | z
   .exact z
   .rw [z] at hk; cases hk
  obtain ⟨c, hc⟩ := I.ok.has x (.inl hk);obtain ⟨w', z⟩ := I.cell x c hc;refine wpAny_storeName_cell I.ok.kind hk hc z (λh' hc' hs => ?_);obtain ⟨oc, hoc, Q8⟩ := id z;refine h { s with heap := h' } ⟨I.ok, I.os, I.bare, ⟨λb o e n hb hx => ?_, λb o e n hb hx => ?_, I.base.free, λb o e hx => ?_, I.base.tups, I.base.M0, I.base.Nt⟩, ⟨m, hn.sameBut hs (Ww (Px x c hc)), λj y v' e1 e2 e3 => ?_⟩, λy c' e => ?_, I.free, I.Ld, λp hp => ?_, tracked ⟨oc, hoc, I.Ld x c hc⟩ hs, by simpa using I.len⟩ ⟨c, hs, .inr hc⟩
  .exact (hs.2 b (US (UL (Ux e) (I.ok.P6 x c hfn hc)))).trans (I.base.keep b o e n hb hx)
  .obtain ⟨sl, e1⟩ := I.base.slot b o e n hb hx;exact ⟨sl, (hs.2 b (US (UL (Ux e) (I.ok.P6 x c hfn hc)))).trans e1⟩
  .obtain ⟨o', e1⟩ := I.base.there b o e hx;exact ⟨o', (hs.2 b (US (UL (Ux e) (I.ok.P6 x c hfn hc)))).trans e1⟩
  .by_cases hj : j = i
   .subst hj;rw [hi] at e1; cases e1;rw [List.getElem?_set_self R8] at e2;cases e2;exact ⟨u, r, .inr ⟨.inl hk, c, hc, hc'⟩⟩
   .rw [List.getElem?_set_ne (Ww hj)] at e2;obtain ⟨u', r', q⟩ := hl j y v' e1 e2 e3;refine ⟨u', r', ?_⟩;rcases q with q | ⟨k, c', e, z'⟩
    .exact .inl q
    .refine .inr ⟨k, c', e, z'.sameBut hs ?_⟩;rintro rfl;exact hj (nk hN e1 (I.ok.inj _ _ _ e hc ▸ hi))
  .by_cases hcc : c' = c
   .subst hcc; exact ⟨_, hc'⟩
   .obtain ⟨w2, z2⟩ := I.cell y c' e;exact ⟨w2, z2.sameBut hs hcc⟩
  .obtain ⟨e, n, ne, nf, d⟩ := I.pin p hp;refine ⟨(hs.2 p.1 ?_).trans e, n, ne, nf, d⟩;intro q;rw [q, hoc] at e;have q' : oc = p.2 := Vx e;exact d w' (by rw [<- q']; exact Q8)
def eQ{M:Model}{A:Around}{E:Vq}{i:Nat}{x:Str}{v:V}{u:Value}{Q:Unit->Shared->Prop}(I:Inv X pins σ H s)(hN:X.N.Nodup)(hi:X.N[i]?=some x)(hx:BJ X.env.scope x)(r:RelV v u)
  (h:∀s',Inv X pins (σ.set i (some v)) H s'->Q () s') (hf:X.fn x=true\/X.env.scope.names.lookup x=some .local:=by walk_at "9"):wpAny M A (storeName X.env x u) Q E s:=
 pg I hN hi hx r (λs' I' _=>h s' I') hf
def Inv.Qd{s':Shared}{ch:List Addr}(I:Inv X pins σ H s)(ho:s'.os=s.os)(u:Un (frs X.stack) ch H H' s.heap s'.heap)(hok:Lz X.prog X.w H' s'.heap)(hg:AllBare s'.gens)
  (hch:∀b∈ch,(b∈X.ex\/X.s₀.heap.objs.size<=b)/\b≠X.env.locals/\(∀x c,X.env.cells.lookup x=some c->c≠b)/\∀p∈X.pn++pins,p.1≠b):Inv X pins σ H' s':=by
 obtain⟨h',g',d',t',o'⟩:=s';have e:o'=s.os:=ho;subst e;exact I.call (g':=g') (t':=t') (d':=d') u hok hg hch
end
abbrev XK:=Value->Option Addr->Hp->Prop
abbrev St:=List (Option V)
abbrev VK:=V->Hp->Prop
abbrev TE:=St->Hp->VK->Prop
abbrev TT:=St->Hp->(Bool->Hp->Prop)->Prop
abbrev TA:=St->Hp->(List V->Hp->Prop)->Prop
structure tT where
 nx:St->Hp->Prop
 rt:VK
 bk:St->Hp->Prop:=λ_ _=>False
 ct:St->Hp->Prop:=λ_ _=>False
abbrev TS:=tT->St->Hp->Prop
def EP(X:Cx)(pins:Va)(σ:St)(Q:VK)(u:Value)(s':Shared):Prop:=∃v H',Inv X pins σ H' s'/\RelV v u/\Q v H'
def TP(X:Cx)(pins:Va)(σ:St)(Q:Bool->Hp->Prop)(b:Bool)(s':Shared):Prop:=∃H',Inv X pins σ H' s'/\Q b H'
def AP(X:Cx)(pins:Va)(σ:St)(Q:List V->Hp->Prop)(us:Vv)(s':Shared):Prop:=∃vs H',Inv X pins σ H' s'/\Vals vs us/\Q vs H'
def SP(X:Cx)(pins:Va)(D:tT)(f:Flow)(s':Shared):Prop:=
 match f with
 | .next=>∃σ' H',Inv X pins σ' H' s'/\D.nx σ' H'
 | .brk=>∃σ' H',Inv X pins σ' H' s'/\D.bk σ' H'
 | .cont=>∃σ' H',Inv X pins σ' H' s'/\D.ct σ' H'
 | .ret u=>∃v σ' H',Inv X pins σ' H' s'/\RelV v u/\D.rt v H'
def PE(X:Cx)(e:Expr)(t:TE):Prop:=
 ∀(pins:Va)(s:Shared)(σ:St)(H:Hp)(Q:VK),Inv X pins σ H s->t σ H Q->wpAny (model X.prog X.w) X.A (eval e X.env) (EP X pins σ Q) X.xe s
def PT(X:Cx)(e:Expr)(t:TT):Prop:=
 ∀(pins:Va)(s:Shared)(σ:St)(H:Hp)(Q:Bool->Hp->Prop),Inv X pins σ H s->t σ H Q->wpAny (model X.prog X.w) X.A (isTrue e X.env (eval e X.env)) (TP X pins σ Q) X.xe s
def PW(X:Cx)(e:Expr)(t:TT):Prop:=
 ∀(whole:Sem Value)(pins:Va)(s:Shared)(σ:St)(H:Hp)(Q:Bool->Hp->Prop),Inv X pins σ H s->t σ H Q->wpAny (model X.prog X.w) X.A (isTrue e X.env whole) (TP X pins σ Q) X.xe s
def PW.pt{X:Cx}{e:Expr}{t:TT}(h:PW X e t):PT X e t:=h _
def PA(X:Cx)(es:List Expr)(t:TA):Prop:=
 ∀(pos:Pos)(pins:Va)(s:Shared)(σ:St)(H:Hp)(Q:List V->Hp->Prop),Inv X pins σ H s->t σ H Q->wpAny (model X.prog X.w) X.A (spliced (backTo pos (starEach es X.env))) (AP X pins σ Q) X.xe s
def PS(X:Cx)(st:Stmt)(t:TS):Prop:=
 ∀(pins:Va)(s:Shared)(σ:St)(H:Hp)(D:tT),Inv X pins σ H s->t D σ H->wpAny (model X.prog X.w) X.A (exec st X.env) (SP X pins D) X.xe s
def Nu(X:Cx)(st:List Stmt)(t:TS):Prop:=
 ∀(pins:Va)(s:Shared)(σ:St)(H:Hp)(D:tT),Inv X pins σ H s->t D σ H->wpAny (model X.prog X.w) X.A (execs st X.env) (SP X pins D) X.xe s
def IK{α:Type}{t:Sem α}{Q Q':α->Shared->Prop}{M:Model}{A:Around}{E:Vq}{s:Shared}(h:wpAny M A t Q E s)(hQ:∀a s,Q a s->Q' a s):wpAny M A t Q' E s:=WH h hQ λ_ _ x=>x
section
variable {X:Cx}
def GQ(i:Nat):TE:=λσ H Q=>∃v,σ[i]?=some (some v)/\Q v H
def tC(v:V):TE:=λ_ H Q=>Q v H
def CD{i:Nat}{x:Str}{pos:Pos}(hN:X.N[i]?=some x)(hv:GB X.env.scope x)(hd:(x == ("__debug__":Str))=false:=by decide)(hcd:(x == ("__classdict__":Str))=false:=by decide):PE X (.Name x pos) (GQ i):=by
 walk_at "7";obtain⟨v,e,h⟩:=h;obtain⟨m,hn,hl⟩:=I.loc;obtain⟨u,r,l⟩:=hl i x v hN e hv;have fin:EP X pins σ Q u s:=⟨v,H,I,r,h⟩
 rcases l with⟨hk,hm⟩|⟨hk,c,hc,hcell⟩
 .exact wpAny_Name (wpAny_loadName_local I.ok.kind hk hn hm fin) hd
 .rcases hk with hk|hk
  .exact wpAny_Name (wpAny_loadName_cell I.ok.kind hk hc hcell fin) hd
  .exact wpAny_Name (wpAny_loadName_free I.ok.kind hk hc hcell fin hcd) hd
def CF{i j pos}:PE X (.Constant (.int i) j pos) (tC (.int i)):=λ_ _ _ H _ I h=>wpAny_Constant_int ⟨.int i,H,I.tok _,⟨_,rfl⟩,h⟩
def E4{b j pos}:PE X (.Constant (.bool b) j pos) (tC (.bl b)):=λ_ _ _ H _ I h=>Constant_bool ⟨.bl b,H,I,rfl,h⟩
def CG{j pos}:PE X (.Constant .none j pos) (tC .non):=λ_ _ _ H _ I h=>Constant_none ⟨.non,H,I,rfl,h⟩
def CH{x j pos}:PE X (.Constant (.str x) j pos) (tC (.str x)):=λ_ _ _ H _ I h=>Calls.Constant_str ⟨.str x,H,I.tok _,⟨_,rfl⟩,h⟩
def Gl(X:Cx)(x:Str):Prop:=X.env.kindOf x=some .globalImplicit
def uX{E:Vq}{pins:Va}{s:Shared}{σ:St}{H:Hp}{x:Str}{u:Value}{pos:Pos}{Q:Vq}(I:Inv X pins σ H s)(hg:Gl X x)(hm:X.mg x=some u)(h:Q u s)
  (hd:(x == ("__debug__":Str))=false:=by decide):wpAny (model X.prog X.w) X.A (eval (.Name x pos) X.env) Q E s:=
 Calls.Name_function_global I.ok.kind hg (Calls.loadGlobal_global (by rw[I.ok.glob];exact I.mod.glob.keeps I.bk) hm h) hd
def fQ{E:Vq}{pins:Va}{s:Shared}{σ:St}{H:Hp}{x:Str}{u:Value}{pos:Pos}{Q:Vq}(I:Inv X pins σ H s)(hg:Gl X x)(hm:X.mg x=none)(hv:bootBuiltins x=some u)(h:Q u s)
  (hn:x ≠ "__name__":=by decide) (hd:(x == ("__debug__":Str))=false:=by decide):wpAny (model X.prog X.w) X.A (eval (.Name x pos) X.env) Q E s:=by
 obtain⟨mb,h1,h2⟩:=I.mod.blt;exact Calls.Name_function_global I.ok.kind hg (Calls.loadGlobal_builtin (by rw[I.ok.glob];exact I.mod.glob.keeps I.bk) hm (by rw[I.ok.blt];exact h1.keeps I.bk) ((h2 x hn).trans hv) h) hd
def zT{x:Str}{v:V}{u:Value}{pos:Pos}(hg:Gl X x)(hm:X.mg x=none)(hv:bootBuiltins x=some u)(r:RelV v u)(hn:x ≠ "__name__":=by decide)(hd:(x == ("__debug__":Str))=false:=by decide):PE X (.Name x pos) (tC v):=
 λ_ _ _ H _ I h=>fQ I hg hm hv ⟨v,H,I,r,h⟩ hn hd
variable {a b:Expr}{ta tb:TE}{pos:Pos}
def tB(t:TE):TT:=λσ H Q=>t σ H λx H1=>∃c,x = .bl c/\Q c H1
def CJ{e:Expr}{t:TE}(h:PE X e t)(he:∀whole,isTrue e X.env whole=(do let v <-whole;standAt e.pos;holding [v] (truthy v)):=by intro _;rfl):PT X e (tB t):=by
 intro pins s σ H Q I hw;refine isTrue_plain (IK (h pins s σ H _ I hw) λv s1 ⟨x,H1,I1,r1,q1⟩=>?_) (he _);obtain⟨d,rfl,q⟩:=q1;cases r1;exact VO ⟨H1,I1,q⟩
variable {tA QF:TT}{rest:List Expr}
def GR(t u:TT):TT:=λσ H Q=>t σ H λc H1=>if c=true then u σ H1 Q else Q false H1
def Ib(t u:TT):TT:=λσ H Q=>t σ H λc H1=>if c=true then Q true H1 else u σ H1 Q
def GS(t:TT):TT:=λσ H Q=>t σ H λc H1=>Q (!c) H1
def zU(ha:PT X a tA):PW X (.BoolOp .And [a] pos) tA:=by
 intro wh pins s σ H Q I h;refine isTrue_and (IK (ha pins s σ H Q I h) λc s1 e=>?_);cases c with
 |true=>exact isTrue_and_nil e
 |false=>exact e
def CK(ha:PT X a tA):PW X (.BoolOp .Or [a] pos) tA:=by
 intro wh pins s σ H Q I h;refine isTrue_or (IK (ha pins s σ H Q I h) λc s1 e=>?_);cases c with
 |false=>exact isTrue_or_nil e
 |true=>exact e
def CL(ha:PT X a tA)(hb:PW X (.BoolOp .And (b::rest) pos) QF):PW X (.BoolOp .And (a::b::rest) pos) (GR tA QF):=by
 intro wh pins s σ H Q I h;refine isTrue_and (IK (ha pins s σ H _ I h) λc s1 ⟨H1,I1,q1⟩=>?_);cases c with
 |true=>exact hb wh pins s1 σ H1 Q I1 q1
 |false=>exact⟨H1,I1,q1⟩
def E5(ha:PT X a tA)(hb:PW X (.BoolOp .Or (b::rest) pos) QF):PW X (.BoolOp .Or (a::b::rest) pos) (Ib tA QF):=by
 intro wh pins s σ H Q I h;refine isTrue_or (IK (ha pins s σ H _ I h) λc s1 ⟨H1,I1,q1⟩=>?_);cases c with
 |true=>exact⟨H1,I1,q1⟩
 |false=>exact hb wh pins s1 σ H1 Q I1 q1
def CM(ha:PT X a tA):PT X (.UnaryOp .Not a pos) (GS tA):=by
 walk_at "7";exact isTrue_not (ha pins s σ H (λc H1=>Q (!c) H1) I h)
def E6(ta tb:TE):TE:=λσ H Q=>ta σ H λx H1=>∃c,x = .bl c/\if c=true then tb σ H1 Q else Q (.bl false) H1
def GT(ta tb:TE):TE:=λσ H Q=>ta σ H λx H1=>∃c,x = .bl c/\if c=true then Q (.bl true) H1 else tb σ H1 Q
def E7(ta:TE):TE:=λσ H Q=>ta σ H λx H1=>∃c,x = .bl c/\Q (.bl (!c)) H1
def CN{op}{t:TE}(h:PE X a t):PE X (.BoolOp op [a] pos) t:=λpins s σ H Q I hw=>BoolOp_one (h pins s σ H Q I hw)
def CO(ha:PE X a ta)(hb:PE X (.BoolOp .And (b::rest) pos) tb):PE X (.BoolOp .And (a::b::rest) pos) (E6 ta tb):=by
 walk_at "7";refine BoolOp_and (IK (ha pins s σ H _ I h) λv s1 ⟨x,H1,I1,r1,q1⟩=>?_);obtain⟨c,rfl,q1⟩:=q1;cases r1;refine VO ?_;cases c with
 |true=>exact hb pins s1 σ H1 Q I1 q1
 |false=>exact⟨.bl false,H1,I1,rfl,q1⟩
def E8(ha:PE X a ta)(hb:PE X (.BoolOp .Or (b::rest) pos) tb):PE X (.BoolOp .Or (a::b::rest) pos) (GT ta tb):=by
 walk_at "7";refine BoolOp_or (IK (ha pins s σ H _ I h) λv s1 ⟨x,H1,I1,r1,q1⟩=>?_);obtain⟨c,rfl,q1⟩:=q1;cases r1;refine VO ?_;cases c with
 |false=>exact hb pins s1 σ H1 Q I1 q1
 |true=>exact⟨.bl true,H1,I1,rfl,q1⟩
def CP(ha:PE X a ta):PE X (.UnaryOp .Not a pos) (E7 ta):=by
 walk_at "7";refine UnaryOp_ (IK (ha pins s σ H _ I h) λv s1 ⟨x,H1,I1,r1,q1⟩=>?_);obtain⟨c,rfl,q1⟩:=q1;cases r1;exact not_of (VO ⟨.bl (!c),H1,I1,rfl,q1⟩)
def Ic(t:TT)(ta tb:TE):TE:=λσ H Q=>t σ H λc H1=>if c=true then ta σ H1 Q else tb σ H1 Q
def xx{c:Expr}(hc:PT X c tA)(ha:PE X a ta)(hb:PE X b tb):PE X (.IfExp c a b pos) (Ic tA ta tb):=by
 walk_at "7";refine wpAny_IfExp (IK (hc pins s σ H _ I h) λd s1 ⟨H1,I1,q1⟩=>?_);cases d with
 |true=>exact ha pins s1 σ H1 Q I1 q1
 |false=>exact hb pins s1 σ H1 Q I1 q1
end
def SqL(K:Vo)(H:Hp)(a:Addr)(xs:List V):Prop:=
 Rd H a (.lst xs) \/
  ∃(o:Obj) (its:Vw) (n:Nat),K.lookup a=some o/\o.cls = .type "list"/\o.dict=none/\o.data = .seq its n/\its.size<=sizeLine/\Vals xs its.toList
def SqT(K:Vo)(H:Hp)(a:Addr)(xs:List V):Prop:=
 Rd H a (.tup xs) \/
  ∃(o:Obj) (its:Vw) (n:Nat),K.lookup a=some o/\o.cls = .type "tuple"/\o.dict=none/\o.data = .seq its n/\its.size<=sizeLine/\Vals xs its.toList
noncomputable def GU:Value->Option V
 | .none=>some .non
 | .bool b=>some (.bl b)
 | .int i _=>some (.int i)
 | .str x _=>some (.str x)
 | .bytes b _=>some (.Ot b)
 | .float b _=>some (.QZ b)
 | .ref a=>some (.ref a)
 | .type n=>some (.ty n)
 |_=>none
def RelV.abs{x:V}{u:Value}(r:RelV x u):GU u=some x:=by
 cases x with
 |non=>cases r;rfl
 |bl _=>cases r;rfl
 |int _=>obtain⟨t,rfl⟩:=r;rfl
 |str _=>obtain⟨t,rfl⟩:=r;rfl
 |Ot _=>obtain⟨t,rfl⟩:=r;rfl
 |QZ _=>obtain⟨t,rfl⟩:=r;rfl
 |ref _=>cases r;rfl
 |ty _=>cases r;rfl
theorem RelV.inj{x y:V}{u:Value}(r:RelV x u)(q:RelV y u):x=y:=Vx (r.abs.symm.trans q.abs)
theorem Vals.inj:∀{xs ys:List V}{us:Vv},Vals xs us->Vals ys us->xs=ys
 |_,_,_,.nil,.nil=>rfl
 |_,_,_,.cons r t,.cons r' t'=>by rw[r.inj r',Vals.inj t t']
section
variable {X:Cx}{pins:Va}{σ:St}{H:Hp}{s:Shared}{a:Addr}{xs ys:List V}
def SqL.of{K:Vo}(h:H a=some (.lst xs)):SqL K H a xs:=.inl (.inl h)
def SqT.of{K:Vo}(h:H a=some (.tup xs)):SqT K H a xs:=.inl (.inl h)
def Inv.list(I:Inv X pins σ H s)(h:SqL X.K H a xs):∃its:List Value,Vals xs its/\PlainL s.heap a its.toArray/\xs.length<=sizeLine:=by
 rcases h with h|⟨o,its,n,hk,hc,hd,hs,hz,r⟩
 .obtain⟨z,its,n,r,e⟩:=h.ok I.hok;exact⟨its,r,⟨_,n,e,rfl,rfl,rfl⟩,z⟩
 .refine⟨its.toList,r,⟨o,n,I.Ov a o hk,hc,hd,by simpa using hs⟩,?_⟩;have e:=r.length;simp only[Array.length_toList]at e;omega
def Inv.tuple(I:Inv X pins σ H s)(h:SqT X.K H a xs):∃its:List Value,Vals xs its/\IsTup s.heap a its.toArray/\xs.length<=sizeLine:=by
 rcases h with h|⟨o,its,n,hk,hc,_,hs,hz,r⟩
 .obtain⟨z,its,r,p⟩:=h.ok I.hok;exact⟨its,r,p.tup,z⟩
 .refine⟨its.toList,r,⟨o,I.Ov a o hk,hc,n,by simpa using hs⟩,?_⟩;have e:=r.length;simp only[Array.length_toList]at e;omega
def Inv.LX(I:Inv X pins σ H s)(h:SqL X.K H a xs)(h':SqL X.K H a ys):xs=ys:=by
 obtain⟨its,r,⟨o,n,e,_,_,d⟩,_⟩:=I.list h;obtain⟨its',r',⟨o',n',e',_,_,d'⟩,_⟩:=I.list h';rw[e]at e';cases e';rw[d]at d';injection d' with d1 _
 have:its=its':=by simpa using Vf Array.toList d1
 subst this;exact r.inj r'
def Inv.Md(I:Inv X pins σ H s)(h:SqT X.K H a xs)(h':SqT X.K H a ys):xs=ys:=by
 obtain⟨its,r,⟨o,e,_,n,d⟩,_⟩:=I.tuple h;obtain⟨its',r',⟨o',e',_,n',d'⟩,_⟩:=I.tuple h';rw[e]at e';cases e';rw[d]at d';injection d' with d1 _
 have:its=its':=by simpa using Vf Array.toList d1
 subst this;exact r.inj r'
end
noncomputable abbrev Cx.wish(X:Cx)(E:Vq):Cx:={ X with xe:=E }
noncomputable abbrev Cx.Py(X:Cx):Cx:=X.wish λ_ _=>False
theorem Cx.Ok.wish{X:Cx}(ok:X.Ok)(E:Vq):(X.wish E).Ok:=
 ⟨ok.mod,ok.kind,ok.glob,ok.blt,ok.above,ok.inj,ok.has,ok.P6,ok.hd,ok.frames,ok.stk,ok.Q5,ok.bs,ok.OU,ok.Of,ok.Ou,ok.My,ok.Pw⟩
def Cx.Ok.Le{X:Cx}{E:Vq}(ok:(X.wish E).Ok):X.Ok:=
 ⟨ok.mod,ok.kind,ok.glob,ok.blt,ok.above,ok.inj,ok.has,ok.P6,ok.hd,ok.frames,ok.stk,ok.Q5,ok.bs,ok.OU,ok.Of,ok.Ou,ok.My,ok.Pw⟩
section
variable {X:Cx}{pins:Va}{σ:St}{H:Hp}{s:Shared}{E:Vq}
theorem Inv.wish(I:Inv X pins σ H s)(E:Vq):Inv (X.wish E) pins σ H s:=⟨I.ok.wish E,I.os,I.bare,I.base,I.loc,I.cell,I.free,I.Ld,I.pin,I.hok,I.len⟩
theorem Inv.Le(I:Inv (X.wish E) pins σ H s):Inv X pins σ H s:=⟨I.ok.Le,I.os,I.bare,I.base,I.loc,I.cell,I.free,I.Ld,I.pin,I.hok,I.len⟩
theorem SP.Le{D:tT}{f:Flow}{s':Shared}(h:SP (X.wish E) pins D f s'):SP X pins D f s':=by
 cases f with
 |next=>obtain⟨σ',H',I,q⟩:=h;exact⟨σ',H',I.Le,q⟩
 |brk=>obtain⟨σ',H',I,q⟩:=h;exact⟨σ',H',I.Le,q⟩
 |cont=>obtain⟨σ',H',I,q⟩:=h;exact⟨σ',H',I.Le,q⟩
 |ret u=>obtain⟨v,σ',H',I,r,q⟩:=h;exact⟨v,σ',H',I.Le,r,q⟩
theorem Nu.Py{st:List Stmt}{t:TS}(h:Nu X.Py st t):Nu X st t:=λpins s σ H D I hw=>
 WH (h pins s σ H D (I.wish _) hw) (λ_ _ q=>q.Le) λ_ _ z=>False.elim z
end
section
variable {X:Cx}{st:Stmt}{rest:List Stmt}{t u:TS}{e:Expr}{te:TE}{pos:Pos}
def E9:TS:=λD σ H=>D.nx σ H
def GV(t u:TS):TS:=λD σ H=>t { D with nx:=u D } σ H
def zV:Nu X [] E9:=λ_ _ σ H _ I h=>XZ ⟨σ,H,I,h⟩
def xy(h1:PS X st t)(h2:Nu X rest u):Nu X (st::rest) (GV t u):=by
 intro pins s σ H D I h;refine wpAny_execs_cons (IK (h1 pins s σ H { D with nx:=u D } I h) λf s1 q=>?_);cases f with
 |next=>
  obtain⟨σ',H',I',q⟩:=q;exact h2 pins s1 σ' H' D I' q
 |ret v=>exact q
 |brk=>exact q
 |cont=>exact q
def zW(h1:PS X st t):Nu X [st] t:=by
 intro pins s σ H D I h;refine wpAny_execs_cons (IK (h1 pins s σ H D I h) λf s1 q=>?_);cases f with
 |next=>exact XZ q
 |ret v=>exact q
 |brk=>exact q
 |cont=>exact q
def Inv.quiet{pins:Va}{σ:St}{H:Hp}{s:Shared}(I:Inv X pins σ H s):interactive X.env=false:=by simp[interactive,I.ok.kind]
def E_(te:TE):TS:=λD σ H=>te σ H λ_ H1=>D.nx σ H1
def zX(he:PE X e te)(hs:swapsWith e none pos.line X.env=pure false:=by rfl):PS X (.Expr e pos) (E_ te):=by
 intro pins s σ H D I h;exact wpAny_Expr_any (IK (he pins s σ H _ I h) λv s1 ⟨x,H1,I1,r1,q1⟩=>⟨σ,H1,I1,q1⟩) I.quiet hs
def GW(te:TE):TS:=λD σ H=>te σ H D.rt
def CQ(he:PE X e te):PS X (.Return (some e) pos) (GW te):=by
 intro pins s σ H D I h;exact wpAny_Return_some (IK (he pins s σ H _ I h) λv s1 ⟨x,H1,I1,r1,q1⟩=>⟨x,σ,H1,I1,r1,q1⟩)
def Fa:TS:=λD _ H=>D.rt .non H
def zY:PS X (.Return none pos) Fa:=λ_ _ σ H _ I h=>wpAny_Return_none ⟨.non,σ,H,I,rfl,h⟩
def GX(c:TT)(t u:TS):TS:=λD σ H=>c σ H λb H1=>if b=true then t D σ H1 else u D σ H1
def Fb{c:Expr}{a b:List Stmt}{tc:TT}(hc:PT X c tc)(ha:Nu X a t)(hb:Nu X b u):PS X (.If c a b pos) (GX tc t u):=by
 intro pins s σ H D I h;refine wpAny_If (IK (hc pins s σ H _ I h) λd s1 ⟨H1,I1,q1⟩=>?_);cases d with
 |true=>exact ha pins s1 σ H1 D I1 q1
 |false=>exact hb pins s1 σ H1 D I1 q1
def CS:TS:=λ_ _ _=>False
def xz:PS X st CS:=λ_ _ _ _ _ _ h=>h.elim
end
abbrev TG:=V->St->Hp->(St->Hp->Prop)->Prop
abbrev BK:=List V->St->Hp->(St->Hp->Prop)->Prop
def PG(X:Cx)(target:Expr)(t:TG):Prop:=
 ∀(pins:Va)(s:Shared)(σ:St)(H:Hp)(v:V)(u:Value)(Q:St->Hp->Prop),Inv X pins σ H s->RelV v u->t v σ H Q->
  wpAny (model X.prog X.w) X.A (assign target X.env u) (λ_ s'=>∃σ' H',Inv X pins σ' H' s'/\Q σ' H') X.xe s
def Fc(X:Cx)(ts:List Expr)(t:BK):Prop:=
 ∀(pins:Va)(s:Shared)(σ:St)(H:Hp)(vs:List V)(us:Vv)(Q:St->Hp->Prop),Inv X pins σ H s->Vals vs us->t vs σ H Q->
  wpAny (model X.prog X.w) X.A (assignInOrder ((assignEach ts X.env).map (·.2)) us) (λ_ s'=>∃σ' H',Inv X pins σ' H' s'/\Q σ' H') X.xe s
abbrev CT:=V->V->V->Hp->(Hp->Prop)->Prop
def zZ(X:Cx)(t:CT):Prop:=
 ∀(pins:Va)(s:Shared)(σ:St)(H:Hp)(o i v:V)(ov iv u:Value)(Q:Hp->Prop),Inv X pins σ H s->RelV o ov->RelV i iv->RelV v u->t o i v H Q->
  wpAny (model X.prog X.w) X.A (setItem ov iv u) (λ_ s'=>∃H',Inv X pins σ H' s'/\Q H') X.xe s
section
variable {X:Cx}{pos:Pos}
def sd(i:Nat):TG:=λv σ H Q=>Q (σ.set i (some v)) H
def z_{i:Nat}{x:Str}(hN:X.N.Nodup)(hi:X.N[i]?=some x)(hx:BJ X.env.scope x)(hf:X.fn x=true\/X.env.scope.names.lookup x=some .local:=by walk_at "9"):PG X (.Name x pos) (sd i):=by
 intro pins s σ H v u Q I r h;exact wpAny_assign_Name (eQ I hN hi hx r (λs' I'=>⟨_,H,I',h⟩) hf)
noncomputable def Fd:BK:=λvs σ H Q=>vs=[]/\Q σ H
noncomputable def BL(t:TG)(u:BK):BK:=λvs σ H Q=>∃v r,vs=v::r/\t v σ H λσ' H'=>u r σ' H' Q
def Aa:Fc X [] Fd:=by
 intro pins s σ H vs us Q I r h;obtain⟨e,h⟩:=h;subst e;cases r;exact assignInOrder_nil ⟨σ,H,I,h⟩
def xA{e:Expr}{es:List Expr}{t:TG}{u:BK}(h1:PG X e t)(h2:Fc X es u)
  (hs:(assignEach (e::es) X.env).map (·.2)=assign e X.env::(assignEach es X.env).map (·.2):=by rfl):Fc X (e::es) (BL t u):=by
 intro pins s σ H vs us Q I r h;obtain⟨v,vr,e1,h⟩:=h;subst e1;cases r with
 |cons r rr=>
  rw[hs];refine Wm (IK (h1 pins s σ H _ _ _ I r h) λ_ s1 ⟨σ1,H1,I1,q1⟩=>?_);exact h2 pins s1 σ1 H1 _ _ Q I1 rr q1
def Fe(K:Vo)(n:Nat)(t:BK):TG:=λv σ H Q=>∃a xs,v = .ref a/\SqT K H a xs/\xs.length=n/\t xs σ H Q
def CU{es:List Expr}{k:Nat}{t:BK}{n:Nat}(hc:X.calm=true)(h:Fc X es t)
  (hn:(assignEach es X.env).length=n:=by rfl) (hst:(assignEach es X.env).findIdx? (·.1)=none:=by rfl):PG X (.Tuple es k pos) (Fe X.K n t):=by
 intro pins s σ H v u Q I r hw;obtain⟨a,xs,e1,hq,hl,hw⟩:=hw;subst e1;cases r;obtain⟨its,rv,ht,hz⟩:=I.tuple hq;refine assign_Tuple_tuple (I.ok.hd hc) ht (by simp[hn,<-hl,rv.length]) hst λh' hx=>?_;have I1:Inv X pins σ H { s with heap:=h' }:=I.kept (t':=s.toks) λb o e=>hx b o (US (Ux e)) e;exact h pins _ σ H xs _ Q I1 (by simpa using rv) hw
def GY(to ti:TE)(t:CT):TG:=λv σ H Q=>to σ H λo H1=>ti σ H1 λi H2=>t o i v H2 λH3=>Q σ H3
def CV{o i:Expr}{to ti:TE}{t:CT}(ho:PE X o to)(hi:PE X i ti)(hs:zZ X t)
  (ha:∀v,assign (.Subscript o i pos) X.env v=(do
   let ov <-holding [v] (eval o X.env)
   let iv <-holding [v,ov] (eval i X.env)
   standAt pos
   holding [v,ov,iv] (setItem ov iv v)
   release [v,ov,iv] []):=by intro _;rfl):PG X (.Subscript o i pos) (GY to ti t):=by
 intro pins s σ H v u Q I r h;rw[ha];refine Uk (W4 (IK (ho pins s σ H _ I h) λov s1 ⟨x,H1,I1,r1,q1⟩=>?_));refine Uk (W4 (IK (hi pins s1 σ H1 _ I1 q1) λiv s2 ⟨y,H2,I2,r2,q2⟩=>?_));refine Uk (wpAny_standAt (Uk (W4 (IK (hs pins s2 σ H2 x y v ov iv u _ I2 r1 r2 r q2) λ_ s3 ⟨H3,I3,q3⟩=>?_))));exact wpAny_release ⟨σ,H3,I3,q3⟩
def Ab(te:TE)(g:TG):TS:=λD σ H=>te σ H λx H1=>g x σ H1 D.nx
def xB{tg e:Expr}{te:TE}{g:TG}(he:PE X e te)(hg:PG X tg g)(hs:swapsWithSole [tg] e pos.line X.env=pure false:=by rfl)(hw:swappedStores [tg] e X.env=pure none:=by rfl)
  (h1:(assignEach [tg] X.env).map (·.2)=[assign tg X.env]:=by rfl):PS X (.Assign [tg] e pos) (Ab te g):=by
 intro pins s σ H D I h;refine wpAny_Assign_stores (IK (he pins s σ H _ I h) λv s1 ⟨x,H1,I1,r1,q1⟩=>?_) hs hw;rw[h1];exact IK (hg pins s1 σ H1 x v _ I1 r1 q1) λ_ s2 q=>q
def CW{i:Nat}{x:Str}{e:Expr}{te:TE}{pos':Pos}(hN:X.N.Nodup)(hi:X.N[i]?=some x)(hx:BJ X.env.scope x)(he:PE X e te)(hs:swapsWith e (some (.Name x pos')) pos.line X.env=pure false:=by rfl)(hf:X.fn x=true\/X.env.scope.names.lookup x=some .local:=by walk_at "9") :
  PS X (.Assign [.Name x pos'] e pos) (Ab te (sd i)):=by
 intro pins s σ H D I h;refine wpAny_Assign_Name (IK (he pins s σ H _ I h) λv s1 ⟨y,H1,I1,r1,q1⟩=>?_) hs;exact eQ I1 hN hi hx r1 (λs2 I2=>⟨_,H1,I2,q1⟩) hf
def GZ(i j:Nat)(ta:TA):TS:=λD σ H=>ta σ H λvs H1=>∃v w,vs=[v,w]/\D.nx ((σ.set i (some v)).set j (some w)) H1
def CZ{i j:Nat}{x y:Str}{a b:Expr}{ta:TA}{px py pt:Pos}{kt k2 Pz}(hc:X.calm=true)(hN:X.N.Nodup)(hi:X.N[i]?=some x)(hj:X.N[j]?=some y)(hij:i≠j)
  (hx:X.env.scope.names.lookup x=some .local) (hy:X.env.scope.names.lookup y=some .local) (ha:PA X [a,b] ta)
  (hw:swappedStores [.Tuple [.Name x px,.Name y py] kt pt] (.Tuple [a,b] k2 Pz) X.env=pure (some [x,y]))
  (hs:swapsWithSole [.Tuple [.Name x px,.Name y py] kt pt] (.Tuple [a,b] k2 Pz) pos.line X.env=pure false:=by rfl) :
  PS X (.Assign [.Tuple [.Name x px,.Name y py] kt pt] (.Tuple [a,b] k2 Pz) pos) (GZ i j ta):=by
 intro pins s σ H D I h;rw[exec_Assign_arm];refine Uk (wpAny_standAt ?_);rw[hs];refine Uk (Uz ?_);rw[if_neg (by decide)];refine Uk (Tuple_ (IK (ha _ pins s σ H _ I h) λus s1 ⟨vs,H1,I1,r1,q1⟩=>?_));obtain⟨v,w,e1,q1⟩:=q1;subst e1;obtain⟨u1,u2,rfl,rv,rw'⟩:∃u1 u2,us=[u1,u2]/\RelV v u1/\RelV w u2:=by
  cases r1 with
  |cons p q=>
   cases q with
   |cons p' q'=>
    cases q';exact⟨_,_,rfl,p,p'⟩
 refine VU ?_ (by show 2<=sizeLine;decide);have I2:Inv X pins σ H1 { s1 with heap:=s1.heap.push { cls:=.type "tuple",data:=.seq [u1,u2].toArray } }:=I1.kept (t':=s1.toks) λb o e=>Up _ e;rw[hw];refine Uk (Uz ?_);show wpAny (model X.prog X.w) X.A (do rule "assign.swapped-stores"; let items <-unpackItems (.ref s1.heap.objs.size) 2 none;assignInOrder [λv=>bindName X.env y v,λv=>bindName X.env x v] items.reverse;pure Flow.next) _ _ _;refine Uk (WW (Uk (unpackItems_tuple (items:=#[u1,u2]) (I.ok.hd hc) (IsTup.new s1.heap _) λh' hx'=>?_)));have I3:=I2.kept (h':=h') (t':=s1.toks) λb o e=>hx' b o (US (Ux e)) e;show wpAny _ _ (assignInOrder [λv=>bindName X.env y v,λv=>bindName X.env x v] [u2,u1] >>= λ_=>pure Flow.next) _ _ _;refine Uk (Wm (Xn (eQ I3 hN hj (.inl hy) rw' (λs2 I4=>?_) (.inr hy))));refine Wm (Xn (eQ I4 hN hi (.inl hx) rv (λs3 I5=>assignInOrder_nil (Uz ?_)) (.inr hx)));rw[List.set_comm _ _ (Ww hij)]at I5;exact⟨_,H1,I5,q1⟩
end
section
variable {X:Cx}{pos:Pos}
def C0(c:TT)(tb:TS):TS:=λD σ H=>∃W:Nat->St->Hp->Prop,(∃m,W m σ H)/\∀m σ H,W m σ H->
 c σ H λb H1=>if b=true then ∃N:St->Hp->Prop,(∀σ' H',N σ' H'->∃m',m' < m/\W m' σ' H')/\tb { D with nx:=N,ct:=N,bk:=D.nx } σ H1 else D.nx σ H1
def xC{c:Expr}{body:List Stmt}{tc:TT}{tb:TS}(hp:PassesOwn (model X.prog X.w) X.A X.env X.xe)(hc:PT X c tc)(hb:Nu X body tb):PS X (.While c body [] pos) (C0 tc tb):=by
 intro pins s σ H D I h;obtain⟨W,⟨m0,w0⟩,turn⟩:=h;refine wpAny_While (codeAny_whileLoop (λn s'=>∃σ' H',Inv X pins σ' H' s'/\W n σ' H') ?_ m0 ⟨σ,H,I,w0⟩);rintro n s1 ⟨σ1,H1,I1,w1⟩;refine Ws hp (IK (hc pins s1 σ1 H1 _ I1 (turn n σ1 H1 w1)) λb s2 ⟨H2,I2,q2⟩=>?_);cases b with
 |true=>
  obtain⟨N,hN,q2⟩:=q2;rw[if_pos rfl];refine Ws hp (IK (hb pins s2 σ1 H2 _ I2 q2) λf s3 q3=>?_);cases f with
  |next=>
   obtain⟨σ3,H3,I3,n3⟩:=q3;obtain⟨m',hm,w3⟩:=hN σ3 H3 n3;exact⟨m',hm,σ3,H3,I3,w3⟩
  |cont=>
   obtain⟨σ3,H3,I3,n3⟩:=q3;obtain⟨m',hm,w3⟩:=hN σ3 H3 n3;exact⟨m',hm,σ3,H3,I3,w3⟩
  |brk=>exact q3
  |ret v=>exact q3
 |false=>
  rw[if_neg UR];exact XZ ⟨σ1,H2,I2,q2⟩
end
structure It where
 go:Nat->Hp->Prop
 QG:Nat->Hp->V->Hp->Prop
 stop:Nat->Hp->Prop
def gM(X:Cx)(pins:Va)(H:Hp)(b:Addr):Prop:=
 H b=none/\b≠X.env.locals/\b ∉ X.fs/\(b∈X.ex\/X.s₀.heap.objs.size<=b)/\(∀x c,X.env.cells.lookup x=some c->c≠b)/\∀p∈X.pn++pins,p.1≠b
def Inv.LB{X:Cx}{pins:Va}{σ:St}{H H':Hp}{s:Shared}{b:Addr}(I:Inv X pins σ H s)(hb:s.heap.objs.size<=b)(hn:H' b=none):gM X pins H' b:=by
 refine⟨hn,Wj (UL I.lt hb),I.Qa hb,.inr (UJ I.sz hb),λx c e z=>?_,λp hp z=>?_⟩
 .obtain⟨v,q⟩:=I.cell x c e;exact absurd (UL q.lt (by rw[z];exact hb)) (VS _)
 .exact absurd (UL (Ux (I.pin p hp).1) (by rw[z];exact hb)) (VS _)
structure nl(P:Program)(w:World)(K:Vo)(tg:Expr)(J:It)(fp:List Addr)(it:Addr)(tn:Nat->Heap->Prop):Prop where
 mem:it∈fp
 obj:∀i h,tn i h->∀b∈fp,∃o,h.get? b=some o/\∀v,o.data ≠ .cell v
 keep:∀i h h',tn i h->(∀b∈fp,∀o,h.get? b=some o->h'.get? b=some o)->tn i h'
 item:∀(X:Cx),X.prog=P->X.w=w->X.K=K->X.calm=true->∀(i:Nat)(pins:Va)(s:Shared)(σ:St)(H:Hp)(E:Vq),Inv X pins σ H s->(∀b∈fp,gM X pins H b)->tn i s.heap->J.go i H->
  wpAny (model P w) X.A (pyNext (.ref it)) (λr s1=>∃u,r=some u/\
   wpAny (model P w) X.A (letOwnedTupleGo tg (.ref it) u) (λ_ s2=>∃x H',Inv X pins σ H' s2/\RelV x u/\J.QG i H x H'/\tn (i+1) s2.heap/\∀b∈fp,H' b=none) E s1) E s
 done:∀(X:Cx),X.prog=P->X.w=w->X.K=K->X.calm=true->∀(i:Nat)(pins:Va)(s:Shared)(σ:St)(H:Hp)(E:Vq),Inv X pins σ H s->(∀b∈fp,gM X pins H b)->tn i s.heap->J.stop i H->
  wpAny (model P w) X.A (pyNext (.ref it)) (λr s1=>r=none/\Inv X pins σ H s1) E s
 self:∀(A:Around)(i:Nat)(s:Shared)(Q:Vq)(E:Vq),tn i s.heap->Q (.ref it) s->wpAny (model P w) A (pyIter (.ref it)) Q E s
abbrev TI:=St->Hp->(It->Hp->Prop)->Prop
def G0(X:Cx)(pins:Va)(σ:St)(tg:Expr)(R:It->Hp->Prop)(itv:Value)(s2:Shared):Prop:=
 ∃(it:Addr) (fp:List Addr) (tn:Nat->Heap->Prop) (J:It) (H':Hp),itv = .ref it/\Inv X pins σ H' s2/\nl X.prog X.w X.K tg J fp it tn/\tn 0 s2.heap/\(∀b∈fp,gM X pins H' b)/\R J H'
def PI(X:Cx)(tg iter:Expr)(wi:TI):Prop:=
 ∀(pins:Va)(s:Shared)(σ:St)(H:Hp)(R:It->Hp->Prop),Inv X pins σ H s->wi σ H R->
  wpAny (model X.prog X.w) X.A (eval iter X.env) (λv s1=>wpAny (model X.prog X.w) X.A (pyIter v) (G0 X pins σ tg R) X.xe s1) X.xe s
def cJ{M : Model}{A : Around}{E : Value -> Shared -> Prop}{s : Shared}{tg : Expr}{it : Addr}{u : Value}{o : Obj}{n : String}{vs : Array Value}{Q : Unit -> Shared -> Prop}(ho : s.heap.get? it = some o)(hc : o.cls = .type n)(hd : o.data = .fields vs)
    (hn : ["enumerate", "zip", "dict_itemiterator", "dict_reverseitemiterator", "odict_iterator", "itertools.zip_longest", "itertools.pairwise"].contains n = false) (hQ : Q () s) : wpAny M A (letOwnedTupleGo tg (.ref it) u) Q E s := by
  unfold letOwnedTupleGo;cases tg <;> first
    | exact Uz hQ
    | (cases u <;> first
        | exact Uz hQ
        | (refine Uk (wpAny_load ho ?_)
           rw [hc, hd];show wpAny M A (if (["enumerate", "zip", "dict_itemiterator", "dict_reverseitemiterator", "odict_iterator", "itertools.zip_longest", "itertools.pairwise"].contains n && vs[0]? == some (rawInt _)) = true then _ else _) Q E s;rw [if_neg (by intro h; rw [hn, Yi] at h; cases h)];exact Uz hQ))
noncomputable def GC(K:Vo)(a:Addr):It:=
 ⟨λi H=>∃xs x,SqL K H a xs/\xs[i]?=some x,λi H x H'=>H'=H/\∀xs,SqL K H a xs->xs[i]?=some x,λi H=>∃xs,SqL K H a xs/\xs.length<=i⟩
noncomputable def G1(K:Vo)(a:Addr):It:=
 ⟨λi H=>∃xs x,SqT K H a xs/\xs[i]?=some x,λi H x H'=>H'=H/\∀xs,SqT K H a xs->xs[i]?=some x,λi H=>∃xs,SqT K H a xs/\xs.length<=i⟩
noncomputable def GD(lo:Int)(n:Nat):It:=⟨λi _=>i < n,λi H x H'=>H'=H/\x = .int (lo+i),λi _=>n<=i⟩
def vV{P:Program}{w:World}{K:Vo}{tg:Expr}(a it:Addr):nl P w K tg (GC K a) [it] it (λi h=>h.IsListIter it a i) where
 mem:=by simp
 obj:=λi h st b hb=>by
  have e:b=it:=by simpa using hb
  subst e;obtain⟨o,e,c,d⟩:=st;exact⟨o,e,λv z=>by rw[d]at z;cases z⟩
 keep:=λi h h' st k=>st.at λo e=>k it (by simp) o e
 item:=by
  walk_at "2";subst hP hw hK;obtain⟨xs,x,hq,hx⟩:=hg;obtain⟨its,rv,p,hz⟩:=I.list hq;obtain⟨u,hu,ru⟩:=rv.get hx;walk_at "5";refine wpAny_pyNext_list_item st p.isList (x:=u) (by simpa using hu) λh' st' sb=>?_;have I1:Inv X pins σ H { s with heap:=h' }:=I.turned (t':=s.toks) (λb o hb e=>(sb.2 b hb).trans e) f0 f1 f3 f4 f5;obtain⟨o,e,c,d⟩:=id st';exact⟨u,rfl,cJ (s:={ s with heap:=h' }) e c d (by decide) ⟨x,H,I1,ru,⟨rfl,λys hy=>by rw[I.LX hy hq];exact hx⟩,st',λb hb=>(hf b hb).1⟩⟩
 done:=by
  walk_at "2";subst hP hw hK;obtain⟨xs,hq,hx⟩:=hg;obtain⟨its,rv,p,hz⟩:=I.list hq;walk_at "5";have hl:=rv.length;exact wpAny_pyNext_list_end (I.ok.hd hc) st p.isList (by simp;omega) λh' eb=>⟨rfl,I.turned (t':=s.toks) (λb o hb e=>eb b o hb e) f0 f1 f3 f4 f5⟩
 self:=λ_ _ _ _ _ st h=>wpAny_pyIter_listiter st h
def tU{P:Program}{w:World}{K:Vo}{tg:Expr}(a it:Addr):nl P w K tg (G1 K a) [it] it (λi h=>h.IsTupleIter it a i) where
 mem:=by simp
 obj:=λi h st b hb=>by
  have e:b=it:=by simpa using hb
  subst e;obtain⟨o,e,c,d⟩:=st;exact⟨o,e,λv z=>by rw[d]at z;cases z⟩
 keep:=λi h h' st k=>st.at λo e=>k it (by simp) o e
 item:=by
  walk_at "2";subst hP hw hK;obtain⟨xs,x,hq,hx⟩:=hg;obtain⟨its,rv,p,hz⟩:=I.tuple hq;obtain⟨u,hu,ru⟩:=rv.get hx;walk_at "5";refine wpAny_pyNext_tuple_item st (show s.heap.IsTuple a its.toArray from p) (x:=u) (by simpa using hu) λh' st' sb=>?_;have I1:Inv X pins σ H { s with heap:=h' }:=I.turned (t':=s.toks) (λb o hb e=>(sb.2 b hb).trans e) f0 f1 f3 f4 f5;obtain⟨o,e,c,d⟩:=id st';exact⟨u,rfl,cJ (s:={ s with heap:=h' }) e c d (by decide) ⟨x,H,I1,ru,⟨rfl,λys hy=>by rw[I.Md hy hq];exact hx⟩,st',λb hb=>(hf b hb).1⟩⟩
 done:=by
  walk_at "2";subst hP hw hK;obtain⟨xs,hq,hx⟩:=hg;obtain⟨its,rv,p,hz⟩:=I.tuple hq;walk_at "5";have hl:=rv.length;exact wpAny_pyNext_tuple_end (I.ok.hd hc) st (show s.heap.IsTuple a its.toArray from p) (by simp;omega) λh' eb=>⟨rfl,I.turned (t':=s.toks) (λb o hb e=>eb b o hb e) f0 f1 f3 f4 f5⟩
 self:=λ_ _ _ _ _ st h=>wpAny_pyIter_tupleiter st h
def tV{P:Program}{w:World}{K:Vo}{tg:Expr}(it:Addr)(lo:Int)(n:Nat):nl P w K tg (GD lo n) [it] it (λi h=>IsRangeIter h it (lo+(i:Nat) * 1) ((n:Int) - (i:Nat)) 1) where
 mem:=by simp
 obj:=λi h st b hb=>by
  have e:b=it:=by simpa using hb
  subst e;exact⟨_,st,λv z=>by
   have z':Data.fields _=Data.cell v:=z;cases z'⟩
 keep:=λi h h' st k=>k it (by simp) _ st
 item:=by
  walk_at "2";subst hP hw hK;walk_at "5";have W:=Walks.range (prog:=X.prog) (w:=X.w) (I.ok.hd hc) it lo 1 n;refine W.item i s _ _ hg st λv h' tk hv st' kk=>?_;obtain⟨t,rfl⟩:=hv;have I1:Inv X pins σ H { s with heap:=h',toks:=tk }:=I.turned (λb o hb e=>kk b o (by simpa using hb) e) f0 f1 f3 f4 f5;refine⟨_,rfl,cJ (s:={ s with heap:=h',toks:=tk }) (n:="range_iterator") st' rfl rfl (by decide) ⟨.int (lo+i),H,I1,⟨t,?_⟩,⟨rfl,rfl⟩,st',λb hb=>(hf b hb).1⟩⟩;rw[XT]
 done:=by
  walk_at "2";subst hP hw hK;walk_at "5";exact wpAny_pyNext_range_end (I.ok.hd hc) st (by have:n<=i:=hg;omega) λh' eb=>⟨rfl,I.turned (t':=s.toks) (λb o hb e=>eb b o hb e) f0 f1 f3 f4 f5⟩
 self:=λ_ _ _ _ _ st h=>wpAny_pyIter_rangeiter st h
section
variable {X:Cx}{tg:Expr}
def xD{pins:Va}{σ:St}{H:Hp}{s:Shared}{R:It->Hp->Prop}{E:Vq}{lo hi:Int}{t u v:Tok}{tk:Nat}(I:Inv X pins σ H s)(h1:-(2 ^ 62)<=lo)(h2:lo < 2 ^ 62)(h3:-(2 ^ 62)<=hi)(h4:hi < 2 ^ 62)
  (q:R (GD lo (hi - lo).toNat) H):wpAny (model X.prog X.w) X.A (pyIter (.ref s.heap.objs.size)) (G0 X pins σ tg R) E { s with heap:=s.heap.push { cls:=.type "range",data:=.fields #[.int lo t,.int hi u,.int 1 v] },toks:=tk }:=by
 refine wpAny_pyIter_range (IsRange.new ..) (small_one h1 h2 h3 h4) ?_;have I1:Inv X pins σ H { s with heap:=s.heap.push { cls:=.type "range",data:=.fields #[.int lo t,.int hi u,.int 1 v] },toks:=tk }:=I.kept λb o e=>Up _ e;refine⟨(s.heap.push { cls:=.type "range",data:=.fields #[.int lo t,.int hi u,.int 1 v] }).objs.size,[(s.heap.push { cls:=.type "range",data:=.fields #[.int lo t,.int hi u,.int 1 v] }).objs.size],_,_,H,rfl,
  I1.kept (t':=tk) λb o e=>Up _ e,tV _ lo (hi - lo).toNat,?_,λb hb=>?_,q⟩
 .have e1:lo+((0:Nat):Int) * 1=lo:=by simp
  have e2:(((hi - lo).toNat:Nat):Int) - ((0:Nat):Int)=Builtin.Range.rangeSize lo hi 1:=by rw[rangeSize_one];split<;>omega
  show IsRangeIter _ _ (lo+((0:Nat):Int) * 1) ((((hi - lo).toNat:Nat):Int) - ((0:Nat):Int)) 1;rw[e1,e2];exact UC _ rfl
 .have e:b=(s.heap.push { cls:=.type "range",data:=.fields #[.int lo t,.int hi u,.int 1 v] }).objs.size:=by simpa using hb
  subst e;exact I1.LB (Uo _) (I1.hok.fresh (Uo _))
def Ff(ta:TA):TI:=λσ H R=>ta σ H λvs H1=>∃j:Int,vs=[.int j]/\-(2 ^ 62)<=j/\j < 2 ^ 62/\R (GD 0 j.toNat) H1
def vW{a:Expr}{ta:TA}{p pos:Pos}(hg:Gl X "range")(hm:X.mg "range" = none)(ha:PA X [a] ta)(hs:starEach [a] X.env=[(false,eval a X.env)]:=by rfl):PI X tg (.Call (.Name "range" p) [a] [] pos) (Ff ta):=by
 intro pins s σ H R I h;refine Call_ (fQ I hg hm boot_range (Vc (IK (ha pos pins s σ H _ I h) λus s1 ⟨vs,H1,I1,r1,q1⟩=>?_) hs rfl));obtain⟨j,e,q1,q2,q⟩:=q1;subst e;cases r1 with
 |cons r rr=>
  cases rr;obtain⟨t,rfl⟩:=r;exact call_range_1 (xD I1 (by omega) (by omega) q1 q2 (by simpa using q))
def G2(wi:TI)(g:TG)(tb:TS):TS:=λD σ H=>wi σ H λJ H1=>∃W:Nat->Nat->St->Hp->Prop,(∃m,W 0 m σ H1)/\∀i m σ H,W i m σ H->
 (J.stop i H/\D.nx σ H)\/(J.go i H/\∃N:St->Hp->Prop,(∀σ' H',N σ' H'->∃m',m' < m/\W (i+1) m' σ' H')/\∀x H',J.QG i H x H'->g x σ H' λσ2 H2=>tb { D with nx:=N,ct:=N,bk:=D.nx } σ2 H2)
noncomputable def nq(fp:List Addr)(h:Heap):List (Addr×Obj):=fp.filterMap λb=>(h.get? b).map λo=>(b,o)
def jU{fp:List Addr}{h:Heap}{b:Addr}{o:Obj}(hb:b∈fp)(e:h.get? b=some o):(b,o)∈nq fp h:=List.mem_filterMap.mpr ⟨b,hb,by rw[e];rfl⟩
def vX{fp:List Addr}{h:Heap}{p:Addr×Obj}(hp:p∈nq fp h):p.1∈fp/\h.get? p.1=some p.2:=by
 obtain⟨b,hb,e⟩:=List.mem_filterMap.mp hp;cases q:h.get? b with
 |none=>rw[q]at e;cases e
 |some o=>
  rw[q]at e;have e':(b,o)=p:=Vx e;subst e';exact⟨hb,q⟩
def Inv.pinned{pins:Va}{σ:St}{H:Hp}{s:Shared}{fp:List Addr}(I:Inv X pins σ H s)(hf:∀b∈fp,gM X pins H b)(ho:∀b∈fp,∃o,s.heap.get? b=some o/\∀v,o.data ≠ .cell v):Inv X (pins++nq fp s.heap) σ H s:=
 I.MB λp hp=>(Ur.mp hp).elim (λz=>I.pin p (UI _ z)) λz=>by
  obtain⟨hb,e⟩:=vX z;obtain⟨f0,f1,f2,_⟩:=hf p.1 hb;obtain⟨o,e',d⟩:=ho p.1 hb;rw[e]at e';cases e';exact⟨e,f0,f1,f2,d⟩
def Inv.LY{pins pl:Va}{σ:St}{H:Hp}{s:Shared}(I:Inv X (pins++pl) σ H s):Inv X pins σ H s:=I.MB λp hp=>I.pin p (UI _ (UY _ hp))
def C1{iter:Expr}{body:List Stmt}{wi:TI}{g:TG}{tb:TS}{pos:Pos}(hp:PassesOwn (model X.prog X.w) X.A X.env X.xe)(hc:X.calm=true)(hi:PI X tg iter wi)(hg:PG X tg g)(hb:Nu X body tb)
  (hs:∀x,foldedSetIterable iter X.env x=pure x:=by intro _;rfl):PS X (.For tg iter body [] pos) (G2 wi g tb):=by
 intro pins s σ H D I h;refine wpAny_For (IK (hi pins s σ H _ I h) λv s1 h1=>IK h1 λitv s2 h2=>?_) hs;obtain⟨it,fp,tn,J,H2,e,I2,T,st2,f2,W,⟨m0,w0⟩,turn⟩:=h2;subst e
 -- what stays true of the iterator's objects through the loop
 have stat:∀{H':Hp},(∀b∈fp,H' b=none)->∀b∈fp,gM X pins H' b:=λhn b hb=>⟨hn b hb,(f2 b hb).2⟩
 refine codeAny_forLoop_any (λn s'=>∃i σ' H',Inv X pins σ' H' s'/\tn i s'.heap/\(∀b∈fp,H' b=none)/\W i n σ' H') ?_ m0 ⟨0,σ,H2,I2,st2,λb hb=>(f2 b hb).1,w0⟩;rintro n s3 ⟨i,σ3,H3,I3,st3,R9,w3⟩;rcases turn i n σ3 H3 w3 with⟨stop,qn⟩|⟨go,N,hN,step⟩
 .refine Ws hp (IK (T.done X rfl rfl rfl hc i pins s3 σ3 H3 X.xe I3 (stat R9) st3 stop) λr s4 ⟨hr,I4⟩=>?_);subst hr;exact XZ ⟨σ3,H3,I4,qn⟩
 .refine Ws hp (IK (T.item X rfl rfl rfl hc i pins s3 σ3 H3 X.xe I3 (stat R9) st3 go) λr s4 ⟨u,hr,h4⟩=>?_);subst hr;refine Ws hp (IK h4 λ_ s5 ⟨x,H5,I5,r5,y5,OV,Q9⟩=>?_);have Q_:=I5.pinned (stat Q9) (T.obj _ _ OV);refine Ws hp (IK (hg _ s5 σ3 H5 x u _ Q_ r5 (step x H5 y5)) λ_ s6 ⟨σ6,H6,I6,q6⟩=>?_);refine Ws hp (IK (hb _ s6 σ6 H6 _ I6 q6) λf s7 q7=>?_);have again:∀{σ7:St} {H7:Hp},Inv X (pins++nq fp s5.heap) σ7 H7 s7->N σ7 H7->∃m,m < n/\∃i σ' H',Inv X pins σ' H' s7/\tn i s7.heap/\(∀b∈fp,H' b=none)/\W i m σ' H':=λ{σ7 H7} I7 n7=>by
   obtain⟨m',hm,w7⟩:=hN σ7 H7 n7;refine⟨m',hm,i+1,σ7,H7,I7.LY,T.keep _ _ _ OV λb hb o e=>(I7.pin (b,o) (UI _ (UI _ (jU hb e)))).1,λb hb=>?_,w7⟩;obtain⟨o,e,d⟩:=T.obj _ _ OV b hb;exact(I7.pin (b,o) (UI _ (UI _ (jU hb e)))).2.1
  cases f with
  |next=>obtain⟨σ7,H7,I7,n7⟩:=q7;exact again I7 n7
  |cont=>obtain⟨σ7,H7,I7,n7⟩:=q7;exact again I7 n7
  |brk=>obtain⟨σ7,H7,I7,q7⟩:=q7;exact⟨σ7,H7,I7.LY,q7⟩
  |ret v=>obtain⟨x7,σ7,H7,I7,r7,q7⟩:=q7;exact⟨x7,σ7,H7,I7.LY,r7,q7⟩
end
abbrev R2:=V->V->Hp->VK->Prop
def jD(X:Cx)(f:Value->Value->Sem Value)(r:R2):Prop:=
 ∀(pins:Va)(s:Shared)(σ:St)(H:Hp)(x y:V)(v u:Value)(Q:VK),Inv X pins σ H s->RelV x v->RelV y u->r x y H Q->
  wpAny (model X.prog X.w) X.A (f v u) (EP X pins σ Q) X.xe s
def GE(X:Cx)(f:Value->Sem Value)(r:V->Hp->VK->Prop):Prop:=
 ∀(pins:Va)(s:Shared)(σ:St)(H:Hp)(x:V)(v:Value)(Q:VK),Inv X pins σ H s->RelV x v->r x H Q->
  wpAny (model X.prog X.w) X.A (f v) (EP X pins σ Q) X.xe s
def eR(X:Cx)(f:Value)(r:List V->Hp->VK->Prop):Prop:=
 ∀(pins:Va)(s:Shared)(σ:St)(H:Hp)(xs:List V)(us:Vv)(Q:VK),Inv X pins σ H s->Vals xs us->r xs H Q->
  wpAny (model X.prog X.w) X.A (call f us) (EP X pins σ Q) X.xe s
def Fg(r:R2)(ta tb:TE):TE:=λσ H Q=>ta σ H λx H1=>tb σ H1 λy H2=>r x y H2 Q
def Ie(r:V->Hp->VK->Prop)(ta:TE):TE:=λσ H Q=>ta σ H λx H1=>r x H1 Q
def rI(C:Int->Int->Prop)(g:Int->Int->V):R2:=λx y H Q=>∃i j,x = .int i/\y = .int j/\C i j/\Q (g i j) H
def zO(g:Int->Int->V):R2:=λx y H Q=>∃i j,x = .int i/\y = .int j/\Q (g i j) H
noncomputable def rU(g:Int->V):V->Hp->VK->Prop:=λx H Q=>∃i,x = .int i/\Q (g i) H
section
variable {X:Cx}{a b c:Expr}{ta tb tc:TE}{pos:Pos}
def C2(ha:PE X a ta)(hb:PE X b tb){pins:Va}{s:Shared}{σ:St}{H:Hp}{R:V->V->Hp->Prop}(I:Inv X pins σ H s)
  (h:ta σ H λx H1=>tb σ H1 λy H2=>R x y H2) {Q:Vq} {f:Value->Value->Sem Value}
  (hf:∀v u s2 x y H2,Inv X pins σ H2 s2->RelV x v->RelV y u->R x y H2->wpAny (model X.prog X.w) X.A (f v u) Q X.xe s2) :
  wpAny (model X.prog X.w) X.A (eval a X.env) (λv s₁=>wpAny (model X.prog X.w) X.A (eval b X.env) (λu s₂=>wpAny (model X.prog X.w) X.A (f v u) Q X.xe s₂) X.xe s₁) X.xe s:=by
 refine IK (ha pins s σ H _ I h) λv s1 ⟨x,H1,I1,r1,q1⟩=>?_;refine IK (hb pins s1 σ H1 _ I1 q1) λu s2 ⟨y,H2,I2,r2,q2⟩=>?_;exact hf v u s2 x y H2 I2 r1 r2 q2
def Fh{op:Operator}{r:R2}(ho:jD X (binaryOp op) r)(ha:PE X a ta)(hb:PE X b tb):PE X (.BinOp a op b pos) (Fg r ta tb):=by
 walk_at "7";exact wpAny_BinOp (C2 ha hb I h λv u s2 x y H2 I2 rx ry q=>ho pins s2 σ H2 x y v u Q I2 rx ry q)
def Fi{op:UnaryOp}{r:V->Hp->VK->Prop}(ho:GE X (unaryOp op) r)(ha:PE X a ta):PE X (.UnaryOp op a pos) (Ie r ta):=by
 walk_at "7";exact UnaryOp_ (IK (ha pins s σ H _ I h) λv s1 ⟨x,H1,I1,r1,q1⟩=>ho pins s1 σ H1 x v Q I1 r1 q1)
def GF{f:Value->Value->Sem Value}{C:Int->Int->Prop}{g:Int->Int->Int}
  (rule:∀(i j:Int)(t u:Tok)(s:Shared)(Q:Vq)(E:Vq),C i j->Q (.int (g i j) s.toks) { s with toks:=s.toks+1 }->wpAny (model X.prog X.w) X.A (f (.int i t) (.int j u)) Q E s) :
  jD X f (rI C λi j=>.int (g i j)):=by
 walk_at "4";obtain⟨i,j,rfl,rfl,hc,q⟩:=h;obtain⟨t,rfl⟩:=rx;obtain⟨t',rfl⟩:=ry;exact rule i j t t' s _ _ hc ⟨.int (g i j),H,I.tok _,⟨_,rfl⟩,q⟩
def Fj{f:Value->Value->Sem Value}{g:Int->Int->Int}
  (rule:∀(i j:Int)(t u:Tok)(s:Shared)(Q:Vq)(E:Vq),Q (.int (g i j) s.toks) { s with toks:=s.toks+1 }->wpAny (model X.prog X.w) X.A (f (.int i t) (.int j u)) Q E s) :
  jD X f (zO λi j=>.int (g i j)):=by
 walk_at "4";obtain⟨i,j,rfl,rfl,q⟩:=h;obtain⟨t,rfl⟩:=rx;obtain⟨t',rfl⟩:=ry;exact rule i j t t' s _ _ ⟨.int (g i j),H,I.tok _,⟨_,rfl⟩,q⟩
def Ac{f:Value->Value->Sem Value}{g:Int->Int->Bool}
  (rule:∀(i j:Int)(t u:Tok)(s:Shared)(Q:Vq)(E:Vq),Q (.bool (g i j)) s->wpAny (model X.prog X.w) X.A (f (.int i t) (.int j u)) Q E s) :
  jD X f (zO λi j=>.bl (g i j)):=by
 walk_at "4";obtain⟨i,j,rfl,rfl,q⟩:=h;obtain⟨t,rfl⟩:=rx;obtain⟨t',rfl⟩:=ry;exact rule i j t t' s _ _ ⟨.bl (g i j),H,I,rfl,q⟩
def C3(i j:Int):Prop:=0<=j/\j<=1000000/\i.natAbs < 2 ^ 64
def Og(i j:Int):Prop:=(-(2 ^ 64) < i/\i < 2 ^ 64)\/(-(2 ^ 64) < j/\j < 2 ^ 64)
def Og.ok{i j:Int}(h:Og i j):IntMulOk i j:=by
 rcases h with⟨h1,h2⟩|⟨h1,h2⟩
 .exact .of_left (intBits_le_64 h1 h2)
 .exact .of_right (intBits_le_64 h1 h2)
def C4:jD X (binaryOp .Add) (zO λi j=>.int (i+j)):=Fj λ_ _ _ _ _ _ _ q=>add_int q
def C5:jD X (binaryOp .Sub) (zO λi j=>.int (i - j)):=Fj λ_ _ _ _ _ _ _ q=>sub_int q
def Ad:jD X (binaryOp .Mod) (rI (λ_ j=>j≠0) λi j=>.int (i.fmod j)):=GF λ_ _ _ _ _ _ _ hc q=>mod_int' hc q
def C6:jD X (binaryOp .Pow) (rI C3 λi j=>.int (i ^ j.toNat)):=GF λ_ _ _ _ _ _ _ hc q=>pow_int_small hc.1 hc.2.1 hc.2.2 q
def Ig{f:Value->Sem Value}{g:Int->Int}
  (rule:∀(i:Int)(t:Tok)(s:Shared)(Q:Vq)(E:Vq),Q (.int (g i) s.toks) { s with toks:=s.toks+1 }->wpAny (model X.prog X.w) X.A (f (.int i t)) Q E s) :
  GE X f (rU λi=>.int (g i)):=by
 intro pins s σ H x v Q I rx h;obtain⟨i,rfl,q⟩:=h;obtain⟨t,rfl⟩:=rx;exact rule i t s _ _ ⟨.int (g i),H,I.tok _,⟨_,rfl⟩,q⟩
def C7:GE X (unaryOp .USub) (rU λi=>.int (-i)):=Ig λ_ _ _ _ _ q=>neg_int q
end
noncomputable def Fk:V->V->Bool
 | .non,.non=>true | .non,.int _=>true | .int _,.non=>true | .non,.bl _=>true | .bl _,.non=>true | .non,.str _=>true | .str _,.non=>true
 | .int _,.int _=>true | .bl _,.bl _=>true | .str _,.str _=>true | .Ot _,.Ot _=>true
 | .int _,.str _=>true | .str _,.int _=>true | .bl _,.str _=>true | .str _,.bl _=>true
 |_,_=>false
def Ih:R2:=λx y H Q=>Fk x y=true/\Q (.bl (decide (x=y))) H
def Ii:R2:=λx y H Q=>Fk x y=true/\Q (.bl (!decide (x=y))) H
def uY{i j:Int}:decide (V.int i=V.int j)=(i == j):=by
 rw[Wt];simp
def xE{i j:Bool}:decide (V.bl i=V.bl j)=(i == j):=by
 rw[Wt];simp
def uZ{i j:Str}:decide (V.str i=V.str j)=(i == j):=by
 rw[Wt];simp
def u4{i j:Array UInt8}:decide (V.Ot i=V.Ot j)=(i.toList == j.toList):=by
 rw[Wt];cases i;cases j;simp
section
variable {X:Cx}{a b c:Expr}{ta tb tc:TE}{pos:Pos}
def aZ{pins:Va}{σ:St}{H:Hp}{s:Shared}{Q:VK}{k k':Bool}(I:Inv X pins σ H s)(q:Q (.bl k) H)(e:k=k'):EP X pins σ Q (.bool k') s:=by
 subst e;exact⟨.bl k,H,I,rfl,q⟩
def xF:jD X (compareOp .Eq) Ih:=by
 walk_at "4";obtain⟨hs,q⟩:=h;cases x with
 |non=>
  cases rx;cases y with
  |non=>cases ry;exact PySem.EqNone.eq_none_none (aZ I q (by simp))
  |bl j=>cases ry;exact PySem.EqNone.eq_none_bool (aZ I q (by simp))
  |int j=>obtain⟨t',rfl⟩:=ry;exact PySem.EqNone.eq_none_int (aZ I q (by simp))
  |str j=>obtain⟨t',rfl⟩:=ry;exact PySem.EqNone.eq_none_str (aZ I q (by simp))
  |_=>exact absurd (show false=true from hs) UR
 |bl i=>
  cases rx;cases y with
  |non=>cases ry;exact PySem.EqNone.eq_bool_none (aZ I q (by simp))
  |bl j=>cases ry;exact eq_bool (aZ I q xE)
  |str j=>obtain⟨t',rfl⟩:=ry;exact PySem.EqMixed.eq_bool_str (aZ I q (by simp))
  |_=>exact absurd (show false=true from hs) UR
 |int i=>
  obtain⟨t,rfl⟩:=rx;cases y with
  |non=>cases ry;exact PySem.EqNone.eq_int_none (aZ I q (by simp))
  |int j=>obtain⟨t',rfl⟩:=ry;exact eq_int (aZ I q uY)
  |str j=>obtain⟨t',rfl⟩:=ry;exact PySem.EqMixed.eq_int_str (aZ I q (by simp))
  |_=>exact absurd (show false=true from hs) UR
 |str i=>
  obtain⟨t,rfl⟩:=rx;cases y with
  |non=>cases ry;exact PySem.EqNone.eq_str_none (aZ I q (by simp))
  |bl j=>cases ry;exact PySem.EqMixed.eq_str_bool (aZ I q (by simp))
  |int j=>obtain⟨t',rfl⟩:=ry;exact PySem.EqMixed.eq_str_int (aZ I q (by simp))
  |str j=>obtain⟨t',rfl⟩:=ry;exact eq_str (aZ I q uZ)
  |_=>exact absurd (show false=true from hs) UR
 |Ot i=>
  obtain⟨t,rfl⟩:=rx;cases y with
  |Ot j=>obtain⟨t',rfl⟩:=ry;exact PySem.W.eq_bytes (aZ I q u4)
  |_=>exact absurd (show false=true from hs) UR
 |_=>cases y<;>exact absurd (show false=true from hs) UR
def xG:jD X (compareOp .NotEq) Ii:=by
 walk_at "4";obtain⟨hs,q⟩:=h;cases x with
 |non=>
  cases rx;cases y with
  |non=>cases ry;exact PySem.EqNone.ne_none_none (aZ I q (by simp))
  |bl j=>cases ry;exact PySem.EqNone.ne_none_bool (aZ I q (by simp))
  |int j=>obtain⟨t',rfl⟩:=ry;exact PySem.EqNone.ne_none_int (aZ I q (by simp))
  |str j=>obtain⟨t',rfl⟩:=ry;exact PySem.EqNone.ne_none_str (aZ I q (by simp))
  |_=>exact absurd (show false=true from hs) UR
 |bl i=>
  cases rx;cases y with
  |non=>cases ry;exact PySem.EqNone.ne_bool_none (aZ I q (by simp))
  |bl j=>cases ry;exact ne_bool (aZ I q (Vf not xE))
  |str j=>obtain⟨t',rfl⟩:=ry;exact PySem.EqMixed.ne_bool_str (aZ I q (by simp))
  |_=>exact absurd (show false=true from hs) UR
 |int i=>
  obtain⟨t,rfl⟩:=rx;cases y with
  |non=>cases ry;exact PySem.EqNone.ne_int_none (aZ I q (by simp))
  |int j=>obtain⟨t',rfl⟩:=ry;exact ne_int (aZ I q (Vf not uY))
  |str j=>obtain⟨t',rfl⟩:=ry;exact PySem.EqMixed.ne_int_str (aZ I q (by simp))
  |_=>exact absurd (show false=true from hs) UR
 |str i=>
  obtain⟨t,rfl⟩:=rx;cases y with
  |non=>cases ry;exact PySem.EqNone.ne_str_none (aZ I q (by simp))
  |bl j=>cases ry;exact PySem.EqMixed.ne_str_bool (aZ I q (by simp))
  |int j=>obtain⟨t',rfl⟩:=ry;exact PySem.EqMixed.ne_str_int (aZ I q (by simp))
  |str j=>obtain⟨t',rfl⟩:=ry;exact ne_str (aZ I q (Vf not uZ))
  |_=>exact absurd (show false=true from hs) UR
 |Ot i=>
  obtain⟨t,rfl⟩:=rx;cases y with
  |Ot j=>obtain⟨t',rfl⟩:=ry;exact PySem.W.ne_bytes (aZ I q (Vf not u4))
  |_=>exact absurd (show false=true from hs) UR
 |_=>cases y<;>exact absurd (show false=true from hs) UR
def Fl:jD X (compareOp .Lt) (zO λi j=>.bl (decide (i < j))):=Ac λ_ _ _ _ _ _ _ q=>lt_int q
def Fm:jD X (compareOp .LtE) (zO λi j=>.bl (decide (i<=j))):=Ac λ_ _ _ _ _ _ _ q=>le_int q
def Fn:jD X (compareOp .Gt) (zO λi j=>.bl (decide (j < i))):=Ac λ_ _ _ _ _ _ _ q=>gt_int q
def Fo:jD X (compareOp .GtE) (zO λi j=>.bl (decide (j<=i))):=Ac λ_ _ _ _ _ _ _ q=>ge_int q
def vY:jD X (compareOp .In) (λx y H Q=>∃i j,x = .str i/\y = .str j/\Q (.bl (!(Builtin.Str.occurrences j i 0 j.length 1).isEmpty)) H):=by
 walk_at "4";obtain⟨i,j,rfl,rfl,q⟩:=h;obtain⟨t,rfl⟩:=rx;obtain⟨t',rfl⟩:=ry;exact in_str (aZ I q rfl)
def Ae:jD X (compareOp .IsNot) (λx y H Q=>y = .non/\Q (.bl (!decide (x = .non))) H):=by
 walk_at "4";obtain⟨rfl,q⟩:=h;cases ry;refine isnot_none_gen (aZ I q ?_);cases x<;>first
  |(cases rx;rfl)
  |(obtain⟨t,rfl⟩:=rx;rfl)
def aN(b:Expr){op:CmpOp}(h:op ≠ .In:=by decide)(h2:op ≠ .NotIn:=by decide):behindInMarks op b=false:=by
 have e1:(op == CmpOp.In)=false:=by cases op<;>first|rfl|exact absurd rfl h
 have e2:(op == CmpOp.NotIn)=false:=by cases op<;>first|rfl|exact absurd rfl h2
 cases b<;>simp[behindInMarks,e1,e2]
def Af{op:CmpOp}{r:R2}(ho:jD X (compareOp op) r)(ha:PE X a ta)(hb:PE X b tb)(hm:behindInMarks op b=false):PE X (.Compare a [op] [b] pos) (Fg r ta tb):=by
 walk_at "7";exact wpAny_Compare1 (C2 ha hb I h λv u s2 x y H2 I2 rx ry q=>ho pins s2 σ H2 x y v u Q I2 rx ry q) hm
def BM(t:TE):TT:=λσ H Q=>t σ H λx H'=>∃k,x = .bl k/\Q k H'
def Ag{op:CmpOp}{r:R2}(ho:jD X (compareOp op) r)(ha:PE X a ta)(hb:PE X b tb)(hm:behindInMarks op b=false):PT X (.Compare a [op] [b] pos) (BM (Fg r ta tb)):=by
 walk_at "7";refine wpAny_isTrue_Compare1 (IK (ha pins s σ H _ I h) λv s1 ⟨x,H1,I1,r1,q1⟩=>IK (hb pins s1 σ H1 _ I1 q1) λu s2 ⟨y,H2,I2,r2,q2⟩=>
  IK (ho pins s2 σ H2 x y v u _ I2 r1 r2 q2) λc s3 ⟨z,H3,I3,r3,k,e,q3⟩=>?_) hm
 subst e;cases r3;exact VO ⟨H3,I3,q3⟩
def xH(r r':R2)(ta tb tc:TE):TE:=λσ H Q=>ta σ H λx H1=>tb σ H1 λy H2=>r x y H2 λz H3=>∃k,z = .bl k/\
 (if k=true then tc σ H3 λw' H4=>r' y w' H4 Q else Q (.bl false) H3)
def xI{op op':CmpOp}{r r':R2}(ho:jD X (compareOp op) r)(ho':jD X (compareOp op') r')(ha:PE X a ta)(hb:PE X b tb)(hc:PE X c tc)
  (hm:lastMarks [op,op'] [b,c]=false:=by with_unfolding_all rfl):PT X (.Compare a [op,op'] [b,c] pos) (BM (xH r r' ta tb tc)):=by
 walk_at "7";refine isTrue_chain (IK (ha pins s σ H _ I h) λv s1 ⟨x,H1,I1,r1,q1⟩=>test_link (IK (hb pins s1 σ H1 _ I1 q1) λu s2 ⟨y,H2,I2,r2,q2⟩=>
  IK (ho pins s2 σ H2 x y v u _ I2 r1 r2 q2) λd s3 ⟨z,H3,I3,r3,k,e,q3⟩=>?_)) hm
 subst e;cases r3;refine VO ?_;cases k with
 |false=>
  obtain⟨k',e',q'⟩:=q3;cases e';exact ite_ff ⟨H3,I3,q'⟩
 |true=>
  refine ite_tt (test_last (IK (hc pins s3 σ H3 _ I3 q3) λw' s4 ⟨z',H4,I4,r4,q4⟩=>IK (ho' pins s4 σ H4 y z' u w' _ I4 r2 r4 q4) λd' s5 ⟨z2,H5,I5,r5,k2,e2,q5⟩=>?_));subst e2;cases r5;exact VO ⟨H5,I5,q5⟩
def lC:(sizeLine:Nat) < 2 ^ 63:=by rw[sizeLine_eq];decide
def tW:jD X (binaryOp .Add) (λx y H Q=>∃i j,x = .str i/\y = .str j/\i.length+j.length<=sizeLine/\Q (.str (i++j)) H):=by
 walk_at "4";obtain⟨i,j,rfl,rfl,hz,q⟩:=h;obtain⟨t,rfl⟩:=rx;obtain⟨t',rfl⟩:=ry;exact add_str (λt' tk=>⟨.str (i++j),H,I.tok _,⟨_,rfl⟩,q⟩) hz
def eA{x:V}{us:Vv}(r:Vals [x] us):∃u,us=[u]/\RelV x u:=by
 cases r with
 |cons r1 r2=>cases r2;exact⟨_,rfl,r1⟩
def xJ{x y:V}{us:Vv}(r:Vals [x,y] us):∃u w',us=[u,w']/\RelV x u/\RelV y w':=by
 cases r with
 |cons r1 r2=>
  cases r2 with
  |cons r3 r4=>cases r4;exact⟨_,_,rfl,r1,r3⟩
def xK:eR X (.builtin "abs") (λxs H Q=>∃i,xs=[.int i]/\Q (.int (if i < 0 then -i else i)) H):=by
 intro pins s σ H xs us Q I r h;obtain⟨i,rfl,q⟩:=h;obtain⟨u,rfl,t,rfl⟩:=eA r;exact call_abs_int λu tk=>⟨.int (if i < 0 then -i else i),H,I.tok _,⟨_,rfl⟩,q⟩
def vZ(hc:X.calm=true):eR X (.builtin "max") (λxs H Q=>∃i j,xs=[.int i,.int j]/\Q (.int (if j > i then j else i)) H):=by
 intro pins s σ H xs us Q I r h;obtain⟨i,j,rfl,q⟩:=h;obtain⟨u,w',rfl,⟨t,rfl⟩,⟨t',rfl⟩⟩:=xJ r;refine max_two_ints (I.ok.hd hc) λh' tk k=>⟨_,H,I.kept k,?_,q⟩
 by_cases hj:j > i
 .rw[if_pos hj,if_pos hj];exact⟨_,rfl⟩
 .rw[if_neg hj,if_neg hj];exact⟨_,rfl⟩
def ph:eR X (.type "int") (λxs H Q=>(∃i,xs=[.int i]/\Q (.int i) H)\/∃k,xs=[.bl k]/\Q (.int (if k then 1 else 0)) H):=by
 intro pins s σ H xs us Q I r h;rcases h with⟨i,rfl,q⟩|⟨k,rfl,q⟩
 .obtain⟨u,rfl,t,rfl⟩:=eA r;exact call_int_int ⟨.int i,H,I,⟨_,rfl⟩,q⟩
 .obtain⟨u,rfl,r1⟩:=eA r;cases r1;exact call_int_bool ⟨.int (if k then 1 else 0),H,I.tok _,⟨_,rfl⟩,q⟩
end
def RelO.some_of{v:V}{o:Option Value}(r:RelO (some v) o):∃u,o=some u/\RelV v u:=by
 cases o with
 |none=>exact(show False from r).elim
 |some u=>exact⟨u,rfl,r⟩
structure Room(k:Nat)(A:Around):Prop where
 hd:A.handled=none
 dp:A.depth+3 * k+5 < recursionLimit
 un:A.units+16 * k+200 < cLine
 gd:A.guards=some []
def Room.mono{j k:Nat}{A:Around}(r:Room k A)(h:j<=k):Room j A:=⟨r.hd,by have:=r.dp;omega,by have:=r.un;omega,r.gd⟩
theorem Room.deeper{k:Nat}{A:Around}(r:Room (k+1) A)(env:Env):Room k (A.deeper env):=
 ⟨r.hd,by have:=r.dp;show A.depth+1+3 * k+5 < _;omega,by have:=r.un;show A.units+3+16 * k+200 < _;omega,r.gd⟩
theorem Room.depth{k:Nat}{A:Around}(r:Room k A):A.depth < recursionLimit:=by have:=r.dp;omega
def Fp:TA:=λ_ H Q=>Q [] H
def BN(ta:TE)(tr:TA):TA:=λσ H Q=>ta σ H λx H1=>tr σ H1 λxs H2=>Q (x::xs) H2
section
variable {X:Cx}{e:Expr}{es:List Expr}{te:TE}{t:TA}{pos:Pos}
def C8:PA X [] Fp:=λ_ _ _ _ H Q I h=>WQ ⟨[],H,I,.nil,h⟩
def Ah(ha:PE X e te)(hr:PA X es t)(hs:starEach (e::es) X.env=(false,eval e X.env)::starEach es X.env:=by rfl):PA X (e::es) (BN te t):=by
 intro pos pins s σ H Q I h;rw[hs];show wpAny _ _ (spliced ((false,eval e X.env)::backTo pos (starEach es X.env))) _ _ s;refine Wn (IK (ha pins s σ H _ I h) λu s1 ⟨x,H1,I1,r1,q1⟩=>?_);exact IK (hr pos pins s1 σ H1 _ I1 q1) λus s2 ⟨xs,H2,I2,r2,q2⟩=>⟨x::xs,H2,I2,.cons r1 r2,q2⟩
def G3(t:TA):TE:=λσ H Q=>t σ H λxs H1=>xs.length<=sizeLine/\∀p,H1 p=none->Q (.ref p) (upd H1 p (.tup xs))
def G4(t:TA):TE:=λσ H Q=>t σ H λxs H1=>xs.length<=sizeLine/\∀p,H1 p=none->Q (.ref p) (upd H1 p (.lst xs))
def C9{x1}(h:PA X es t):PE X (.Tuple es x1 pos) (G3 t):=by
 intro pins s σ H Q I hq;refine wpAny_Tuple_spliced (IK (h pos pins s σ H _ I hq) λus s1 ⟨xs,H1,I1,r,z,q⟩=>⟨by rw[<-r.length];exact z,?_⟩);have hf:H1 s1.heap.objs.size=none:=I1.hok.fresh (Uo _);refine⟨.ref s1.heap.objs.size,upd H1 s1.heap.objs.size (.tup xs),I1.laid (t':=s1.toks) (λb u e=>Up _ e) (Uo _) ?_,rfl,q _ hf⟩;exact⟨z,us,r,⟨_,UC _ rfl,rfl,rfl,_,rfl⟩⟩
def C_(h:PA X es t):PE X (.List es pos) (G4 t):=by
 intro pins s σ H Q I hq;refine wpAny_List_spliced (IK (h pos pins s σ H _ I hq) λus s1 ⟨xs,H1,I1,r,z,q⟩=>⟨by rw[<-r.length];exact z,?_⟩);have hf:H1 s1.heap.objs.size=none:=I1.hok.fresh (Uo _);refine⟨.ref s1.heap.objs.size,upd H1 s1.heap.objs.size (.lst xs),I1.laid (t':=s1.toks) (λb u e=>Up _ e) (Uo _) ?_,rfl,q _ hf⟩;exact⟨z,us,0,r,UC _ rfl⟩
end
abbrev Sp:=List V->Hp->VK->XK->Prop
abbrev zP:=List Env->Hp->Shared->XK->Value->Shared->Prop
structure Ai(P:Program)(w:World)(K:Vo)(mg:Vr)(base:Heap)(A:Around)(outer:List Env)(s:Shared)(H:Hp):Prop where
 frames:A.frames=some outer
 mod:Mod K mg base
 bs:∀b o,base.get? b=some o->s.heap.get? b=some o/\H b=none
 OU:base.objs.size<=s.heap.objs.size
 My:s.heap.FunFrames base outer
 Pw:∀b∈frs outer,H b=none
 hok:Lz P w H s.heap
 bare:AllBare s.gens
def CE(outer:List Env)(P:Program)(w:World)(H:Hp)(s:Shared)(Q:VK)(u:Value)(s':Shared):Prop:=
 ∃v H',s'.os=s.os/\AllBare s'.gens/\Un (frs outer) [] H H' s.heap s'.heap/\Lz P w H' s'.heap/\RelV v u/\Q v H'
def CR(CX:zP)(outer:List Env)(P:Program)(w:World)(H:Hp)(s:Shared)(Q:VK)(E:XK)(r:Result)(s':Shared):Prop:=
 match r with
 | .ok (.ret u)=>CE outer P w H s Q u s'
 | .ok _=>False
 | .error e=>CX outer H s E e s'
structure oN(P:Program)(w:World)(K:Vo)(mg:Vr)(base:Heap)(CX:zP)(k:Nat)(f:Addr)(fd:FuncData)(ps:Vs)(sp:Sp):Prop where
 len:∀vs H Q E,sp vs H Q E->vs.length=ps.length
 run:∀(A:Around)(outer:List Env)(s:Shared)(H:Hp)(args:Args)(us:Vv)(vs:List V)(Q:VK)(E:XK),Room k A->Ai P w K mg base A outer s H->BindsTo s fd args (ps.zip us)->Vals vs us->sp vs H Q E->
  codeAny (model P w) A (.call (.ref f) args) (CR CX outer P w H s Q E) s
section
variable {X:Cx}{pins:Va}{σ:St}{H:Hp}{s s':Shared}
def Inv.Ra(I:Inv X pins σ H s):Ai X.prog X.w X.K X.mg X.base X.A X.stack s H:=
 ⟨I.ok.frames,I.ok.mod,I.bs,UJ I.ok.OU I.sz,I.stack,I.NX,I.hok,I.bare⟩
def Inv.after{Q:VK}{u:Value}(I:Inv X pins σ H s)(h:CE X.stack X.prog X.w H s Q u s'):EP X pins σ Q u s':=by
 obtain⟨v,H',os,bare,un,hok,r,q⟩:=h;obtain⟨hh,g,d,t,os'⟩:=s';obtain rfl:os'=s.os:=os;exact⟨v,H',I.call (h':=hh) (g':=g) (d':=d) (t':=t) (ch:=[]) un hok bare (λb z=>absurd z (by simp)),r,q⟩
end
def Fq(sp:Sp)(dvs:List V)(E:XK)(t:TA):TE:=λσ H Q=>t σ H λvs H1=>sp (vs++dvs) H1 Q E
def Binds(K:Vo)(fd:FuncData)(ps:Vs)(ds:Vv):Prop:=
 ∀(s:Shared)(us:Vv),K.In s.heap->(us++ds).length=ps.length->BindsTo s fd ⟨us,[]⟩ (ps.zip (us++ds))
def Binds.all{K:Vo}{fd:FuncData}{ps:Vs}(h:∀us:List Value,us.length=ps.length->bindArgs fd ⟨us,[]⟩=pure (ps.zip us)):Binds K fd ps []:=λs us _ hl=>by
 rw[Vd]at hl ⊢;exact .of_eq (h us hl)
def tX(CX:zP)(X:Cx)(E:XK):Prop:=∀(pins:Va)(σ:St)(H:Hp)(s:Shared)(e:Value)(s':Shared),Inv X pins σ H s->CX X.stack H s E e s'->X.xe e s'
section
variable {X:Cx}{CX:zP}{k:Nat}{f C:Addr}{fd:FuncData}{ps:Vs}{sp:Sp}{dvs:List V}{ds:Vv}{E:XK}{x m:Str}{p pos apos:Pos}{e o:Expr}{es:List Expr}{ta:TE}{t:TA}
def Dc{pins:Va}{σ:St}{H:Hp}{s:Shared}{Q:VK}{us:Vv}{vs:List V}(F:oN X.prog X.w X.K X.mg X.base CX k f fd ps sp)(hr:Room k X.A)(hb:Binds X.K fd ps ds)(hd:Vals dvs ds)(hx:tX CX X E)
  (I:Inv X pins σ H s) (r:Vals vs us) (h:sp (vs++dvs) H Q E):wpAny (model X.prog X.w) X.A (call (.ref f) us) (EP X pins σ Q) X.xe s:=by
 have r2:Vals (vs++dvs) (us++ds):=r.append hd;have hl:(us++ds).length=ps.length:=by rw[<-r2.length];exact F.len _ _ _ _ h
 refine wpAny_call (codeAny_mono (F.run X.A X.stack s H ⟨us,[]⟩ (us++ds) (vs++dvs) Q E hr I.Ra (hb s us I.Ov hl) r2 h) λr s' hq=>?_);cases r with
 |error e=>exact hx pins σ H s e s' I hq
 |ok fl=>
  cases fl with
  |ret u=>exact I.after hq
  |next=>exact False.elim hq
  |brk=>exact False.elim hq
  |cont=>exact False.elim hq
def u5(F:oN X.prog X.w X.K X.mg X.base CX k f fd ps sp)(hr:Room k X.A)(hg:Gl X x)(hm:X.mg x=some (.ref f))(hk:PySem.W.keepIn X.K (.ref f)=true)(hb:Binds X.K fd ps ds)(hd:Vals dvs ds)(hx:tX CX X E)
  (ha:PA X (e::es) t) (hdb:(x == ("__debug__":Str))=false:=by decide) (he:starEach (e::es) X.env=(false,eval e X.env)::starEach es X.env:=by rfl) (hpl:(backTo pos (starEach es X.env)).any (·.1)=false:=by rfl) :
  PE X (.Call (.Name x p) (e::es) [] pos) (Fq sp dvs E t):=by
 walk_at "7";refine Wo (uX I hg hm ?_ hdb);refine PySem.W.callWith_K (h₀:=X.base) I.ok.mod.Q4 hk (IK (ha pos pins s σ H _ I h) λus s1 ⟨vs,H1,I1,r,q⟩=>⟨I1.Ov,?_⟩) he hpl;exact Dc F hr hb hd hx I1 r q
end
structure eE(N P:Vs)(sc:Scope):Prop where
 kind:sc.kind = .function
 co:sc.isCoroutine=false
 gen:sc.isGenerator=false
 nd:N.Nodup
 pre:N.take P.length=P
 par:∀x∈P,sc.names.lookup x=some .local\/sc.names.lookup x=some .cell
 PB:∀y∈sc.names,y.2 ≠ .free
theorem pk{kindOf:Str->Option NameKind}{x:Str}:∀{binds:List (Str×Value)}{m:Vr},(∀v,(x,v) ∉ binds)->bindL kindOf binds m x=m x
 |[],_,_=>rfl
 |(n,v)::r,m,h=>by
  unfold bindL;rw[pk λw hw=>h w (VG _ hw)]
  split
  .have:x≠n:=by rintro rfl;exact h v V4
   simp[this]
  .rfl
theorem pp{kindOf:Str->Option NameKind}{x:Str}:∀{binds:List (Str×Value)}{m:Vr},(∀v,(x,v) ∉ binds)->bindC kindOf binds m x=m x
 |[],_,_=>rfl
 |(n,v)::r,m,h=>by
  unfold bindC;rw[pp λw hw=>h w (VG _ hw)]
  split
  .rfl
  .have:x≠n:=by rintro rfl;exact h v V4
   simp[this]
theorem pq{kindOf:Str->Option NameKind}{x:Str}{v:Value}:∀{P:Vs}{vs:Vv}{i:Nat}{m:Vr},P.Nodup->P[i]?=some x->vs[i]?=some v->kindOf x=some .local->
  bindL kindOf (P.zip vs) m x=some v
 |[],_,_,_,_,h,_,_=>by simp at h
 |_::_,[],_,_,_,_,h,_=>by simp at h
 |p::P,w::vs,0,m,nd,h1,h2,hk=>by
  simp at h1 h2;subst h1;subst h2;show bindL kindOf ((p,w)::P.zip vs) m p=_;unfold bindL;rw[pk λv hv=>(VE.mp nd).1 (Yb hv).1,if_pos hk];simp
 |p::P,w::vs,i+1,m,nd,h1,h2,hk=>by
  show bindL kindOf ((p,w)::P.zip vs) m x=_;unfold bindL;exact pq (i:=i) (VE.mp nd).2 (by simpa using h1) (by simpa using h2) hk
theorem pA{kindOf:Str->Option NameKind}{x:Str}{v:Value}:∀{P:Vs}{vs:Vv}{i:Nat}{m:Vr},P.Nodup->P[i]?=some x->vs[i]?=some v->kindOf x≠some .local->
  bindC kindOf (P.zip vs) m x=some v
 |[],_,_,_,_,h,_,_=>by simp at h
 |_::_,[],_,_,_,_,h,_=>by simp at h
 |p::P,w::vs,0,m,nd,h1,h2,hk=>by
  simp at h1 h2;subst h1;subst h2;show bindC kindOf ((p,w)::P.zip vs) m p=_;unfold bindC;rw[pp λv hv=>(VE.mp nd).1 (Yb hv).1,if_neg hk];simp
 |p::P,w::vs,i+1,m,nd,h1,h2,hk=>by
  show bindC kindOf ((p,w)::P.zip vs) m x=_;unfold bindC;exact pA (i:=i) (VE.mp nd).2 (by simpa using h1) (by simpa using h2) hk
noncomputable def start(N:Vs)(vs:List V):St:=vs.map some++List.replicate (N.length - vs.length) none
noncomputable def se(CX:zP)(P:Program)(w:World)(K:Vo)(mg:Vr)(base:Heap)(N:Vs)(qual:Str)(scope:Scope)(f:Addr)(cd:Value)(A:Around)(outer:List Env)(s:Shared)(H:Hp)(E:XK):Cx where
 prog:=P
 w:=w
 K:=K
 mg:=mg
 base:=base
 A:=A.deeper (envOfC qual scope s.heap.objs.size f cd)
 N:=N
 s₀:=s
 H₀:=H
 env:=envOfC qual scope s.heap.objs.size f cd
 outer:=outer
 stack:=envOfC qual scope s.heap.objs.size f cd::outer
 ex:=[]
 calm:=true
 fn:=λ_=>true
 pn:=[]
 xe:=λe s'=>wpAny (model P w) (A.deeper (envOfC qual scope s.heap.objs.size f cd)) (leaving (envOfC qual scope s.heap.objs.size f cd) e) (λ_ s''=>CX outer H s E e s'') (λe' s''=>CX outer H s E e' s'') s'
def sf{sc:Scope}{n:Nat}{x:Str}(h:sc.names.lookup x=some .cell):∃c,(cellsFrom n sc.names []).lookup x=some c:=by
 have q:=PySem.W.cellsFrom_some sc.names n [] (.inl h);exact W5.mp q
def v5{CX:zP}{P:Program}{w:World}{K:Vo}{mg:Vr}{base:Heap}{N ps:Vs}{qual:Str}{scope:Scope}{f:Addr}{cd:Value}{A:Around}{outer:List Env}{s s1:Shared}{H:Hp}{E:XK}{us:Vv}{vs:List V}
  (S:eE N ps scope) (hd:A.handled=none) (e0:Ai P w K mg base A outer s H) (hl:vs.length=ps.length) (r:Vals vs us)
  (x:InCallC s s.heap.objs.size (bindL (envOfC qual scope s.heap.objs.size f cd).kindOf (ps.zip us) λ_=>none) (cellsFrom (s.heap.objs.size+1) scope.names []) (bindC (envOfC qual scope s.heap.objs.size f cd).kindOf (ps.zip us) λ_=>none) s1) :
  Inv (se CX P w K mg base N qual scope f cd A outer s H E) [] (start N vs) H s1:=by
 have hpl:ps.length<=N.length:=by have:=Vf List.length S.pre;rw[Vi]at this;omega
 obtain⟨h1,tk,rfl,hk⟩:=x.done;have Qe:∀b:Addr,b ∉ (se CX P w K mg base N qual scope f cd A outer s H E).ex:=λb z=>absurd (show b∈([]:List Addr)from z) (by simp);refine⟨⟨e0.mod,S.kind,rfl,rfl,Uo _,λy z c h1 h2=>?_,λy hy=>?_,λy c _ h=>?_,λ_=>hd,Around.frames_deeper e0.frames,.inr ⟨rfl,rfl⟩,λb z=>absurd z (Qe b),e0.bs,e0.OU,λb _ _=>Qe b,λb z=>absurd z (Qe b),e0.My,e0.Pw⟩,
  rfl,e0.bare,Un.kept hk,⟨_,x.toInCall.ns,λi y v h1 h2 h3=>?_⟩,λy c h=>⟨_,x.cell y c h⟩,e0.hok.fresh (Uo _),λy c h=>?_,λp hp=>absurd (show p∈([]:Va)from hp) (by simp),e0.hok.kept hk,?_⟩
 .exact name_of_addr x.apart (Wf h1) (Wf h2)
 .have hy:scope.names.lookup y=some .cell\/scope.names.lookup y=some .free:=hy;rcases hy with hy|hy
  .exact sf hy
  .exact absurd rfl (S.PB _ (Wf hy))
 .exact Xm (x.above y c (Wf h))
 .have hi:i < vs.length:=by
   unfold start at h2;by_cases hi:i < vs.length
   .exact hi
   .rw[Vg (by simpa using hi)]at h2;rw[Wc]at h2
    split at h2<;>cases h2
  have ha:vs[i]?=some v:=by
   unfold start at h2;rw[U9 (by simpa using hi),Ut]at h2;cases e:vs[i]? with
   |none=>rw[e]at h2;cases h2
   |some a=>rw[e]at h2;cases h2;rfl
  obtain⟨u,hu,rv⟩:=r.get ha;have hp:ps[i]?=some y:=by
   rw[<-S.pre,List.getElem?_take_of_lt (by omega)];exact h1
  have R_:ps.Nodup:=by rw[<-S.pre];exact S.nd.sublist (WR _ _)
  refine⟨u,rv,?_⟩;rcases S.par y (UD hp)with k|k
  .exact .inl ⟨k,pq R_ hp hu k⟩
  .obtain⟨c,e⟩:=sf (n:=s.heap.objs.size+1) k;refine .inr ⟨.inl k,c,e,?_⟩;have q:=x.cell y c e;rw[pA R_ hp hu (by show scope.names.lookup y≠_;rw[k];decide)]at q;exact q
 .exact e0.hok.fresh (Xm (x.above y c (Wf h)))
 .unfold start;show _=N.length;rw[Um,Ul,U7];omega
def BO{CX:zP}{P:Program}{w:World}{K:Vo}{mg:Vr}{base:Heap}{k:Nat}{f:Addr}{name qual:Str}{params:Arguments}{body:List Stmt}{scope:Scope}{dV kV doc pm cdv ct oc:Value}{an od:Option Addr}
  {osl:Array (Option Value)} {N ps:Vs} {sp:Sp} (lk:K.lookup f=some ⟨oc,od,.func (PySem.W.fnOf name qual params body scope dV kV doc pm an cdv ct),osl⟩) (hcd:PySem.W.codeIn K cdv qual=true) (S:eE N ps scope)
  (len:∀vs H Q E,sp vs H Q E->vs.length=ps.length)
  (hbody:∀(A:Around)(outer:List Env)(s:Shared)(H:Hp)(vs:List V)(Q:VK)(E:XK),Room k (A.deeper (envOfC qual scope s.heap.objs.size f cdv))->sp vs H Q E->
   ∃t,Nu (se CX P w K mg base N qual scope f cdv A outer s H E) body t/\t { nx:=λ_ H'=>Q .non H',rt:=Q } (start N vs) H) :
  oN P w K mg base CX (k+1) f (PySem.W.fnOf name qual params body scope dV kV doc pm an cdv ct) ps sp:=by
 refine⟨len,λA outer s H args us vs Q E hr e0 hb r OL=>?_⟩;have hl:=len _ _ _ _ OL;have KX:K.In s.heap:=e0.mod.Q4.keeps λb o e=>(e0.bs b o e).1;have lim:s.heap.NoLimit:=e0.mod.nolimit.keeps λb o e=>(e0.bs b o e).1;have hkind:∀y∈ps.zip us,scope.names.lookup y.1=some .local\/(scope.names.lookup y.1=some .cell/\((cellsFrom (s.heap.objs.size+1) scope.names []).lookup y.1).isSome=true):=λ⟨n,v⟩ hy=>by
  rcases S.par n (Yb hy).1 with q|q
  .exact .inl q
  .exact .inr ⟨q,PySem.W.cellsFrom_some _ _ _ (.inl q)⟩
 refine codeAny_call_function hr.depth (KX _ _ lk) rfl S.co S.gen rfl (PySem.W.codeRec_of KX hcd) (hb _ _ _ _ ?_);refine wpAny_newFunctionEnv_cells S.kind hkind λenv he s1 x=>?_;subst he;refine⟨lim.keeps x.toInCall.keep,codeAny_func ?_⟩;obtain⟨t,ht,hq⟩:=hbody A outer s H vs Q E (hr.deeper _) OL;have I:Inv (se CX P w K mg base N qual scope f cdv A outer s H E) [] (start N vs) H s1:=v5 S hr.hd e0 hl r x;refine WH (ht [] s1 (start N vs) H _ I hq) (λfl s' hs=>?_) λe s' hs=>hs;have fin:∀{σ':St} {H':Hp} {v:V} {u:Value},Inv (se CX P w K mg base N qual scope f cdv A outer s H E) [] σ' H' s'->RelV v u->Q v H'->CE outer P w H s Q u s':=
  λ{σ' H' v u} J rv q=>⟨v,H',J.os,J.bare,J.base,J.hok,rv,q⟩
 cases fl with
 |ret u=>
  obtain⟨v,σ',H',J,rv,q⟩:=hs;exact fin J rv q
 |next=>
  obtain⟨σ',H',J,q⟩:=hs;exact fin (v:=V.non) (u:=Value.none) J rfl q
 |brk=>
  obtain⟨_,_,_,q⟩:=hs;exact False.elim q
 |cont=>
  obtain⟨_,_,_,q⟩:=hs;exact False.elim q
section
variable {X:Cx}{x:Str}{p pos:Pos}{e:Expr}{es:List Expr}{t:TA}{id T:String}{r:List V->Hp->VK->Prop}
def HU(r:List V->Hp->VK->Prop)(t:TA):TE:=λσ H Q=>t σ H λvs H1=>r vs H1 Q
def xL(hc:eR X (.builtin id) r)(hg:Gl X x)(hm:X.mg x=none)(hv:bootBuiltins x=some (.builtin id))(ha:PA X (e::es) t)(hn:x ≠ "__name__":=by decide)(hdb:(x == ("__debug__":Str))=false:=by decide)
  (he:starEach (e::es) X.env=(false,eval e X.env)::starEach es X.env:=by rfl) (hpl:(backTo pos (starEach es X.env)).any (·.1)=false:=by rfl):PE X (.Call (.Name x p) (e::es) [] pos) (HU r t):=by
 walk_at "7";refine Wo (fQ I hg hm hv ?_ hn hdb);exact PyProof.Rows.callWith_builtin1 (IK (ha pos pins s σ H _ I h) λus s1 ⟨vs,H1,I1,r1,q1⟩=>hc pins s1 σ H1 vs us Q I1 r1 q1) he hpl
def v6(hc:eR X (.type T) r)(hg:Gl X x)(hm:X.mg x=none)(hv:bootBuiltins x=some (.type T))(ha:PA X (e::es) t)(hn:x ≠ "__name__":=by decide)(hdb:(x == ("__debug__":Str))=false:=by decide)
  (he:starEach (e::es) X.env=(false,eval e X.env)::starEach es X.env:=by rfl) (hpl:(backTo pos (starEach es X.env)).any (·.1)=false:=by rfl):PE X (.Call (.Name x p) (e::es) [] pos) (HU r t):=by
 walk_at "7";refine Wo (fQ I hg hm hv ?_ hn hdb);exact Vc (IK (ha pos pins s σ H _ I h) λus s1 ⟨vs,H1,I1,r1,q1⟩=>hc pins s1 σ H1 vs us Q I1 r1 q1) he hpl
end
end L2
namespace HT
open PySem PyProof.Rows
section
open PySem.SeqAt
open PySem.AutoSeq1 (wpAny_loadPart')
open PySem.MeetsSeq PySem.MeetsSeq2 PySem.MeetsSeq3
end
section
variable {prog:Program}{w:World}{A:Around}{E:Vq}{s:Shared}
def Aj{t b:Addr}{vs ws:Vv}{Q:Vq}(ht:IsTup s.heap t vs.toArray)(hb:IsTup s.heap b ws.toArray)(hv:vs≠[])
  (h1:ws=[]->Q (.ref t) s) (h2:ws≠[]->Q (.ref s.heap.objs.size) { s with heap:=s.heap.push { cls:=.type "tuple",data:=.seq (vs++ws).toArray } })
  (hsz:vs.length+ws.length<=sizeLine):wpAny (model prog w) A (binaryOp .Add (.ref t) (.ref b)) Q E s:=by
 obtain⟨⟨cls,dd,data,sl⟩,ho,hc,n,hd⟩:=id ht;obtain⟨⟨Rb,dd2,data2,sl2⟩,ho2,hc2,n2,hd2⟩:=id hb;simp only at hc hd hc2 hd2;subst hc hd hc2 hd2;have e:vs.toArray++ws.toArray=(vs++ws).toArray:=by simp
 by_cases hw:ws=[]
 .exact concat_meets ⟨_,ho,rfl⟩ ⟨_,ho2,rfl⟩ noFill_tuple_add seq_tuple_add Xo Xh (W6 _ _)
   (tuple_addW1 t b vs.toArray ws.toArray n n2 dd dd2 sl sl2 (by simpa using hv) (by simp[hw])) ⟨ho,ho2,h1 hw⟩
 .refine concat_meets ⟨_,ho,rfl⟩ ⟨_,ho2,rfl⟩ noFill_tuple_add seq_tuple_add Xo Xh (W6 _ _)
   (tuple_addW2 t b vs.toArray ws.toArray n n2 dd dd2 sl sl2 (by simpa using hv) (by simpa using hw) (by rw[Uw,Uw];exact hsz)) ⟨ho,ho2,?_⟩
  rw[e];exact h2 hw
noncomputable def Jq(n d:Nat):Option Int->Nat
 |none=>d
 |some v=>if v < 0 then (v+(n:Int)).toNat else min v.toNat n
def xM(n d:Nat):Jq n d none=d:=rfl
def Ak(n d k:Nat):Jq n d (some (k:Int))=min k n:=by
 show(if (k:Int) < 0 then ((k:Int)+(n:Int)).toNat else min (k:Int).toNat n)=min k n;rw[if_neg (by omega),Vk]
def Dd(n d:Nat)(hd:d<=n)(o:Option Int):Jq n d o<=n:=by
 cases o with
 |none=>exact hd
 |some v=>
  show(if v < 0 then (v+(n:Int)).toNat else min v.toNat n)<=n;by_cases hv:v < 0
  .rw[if_pos hv];omega
  .rw[if_neg hv];exact Nat.min_le_right _ _
def u6(v:Int)(n d:Nat):(if v < 0 then max (v+(n:Int)) 0 else min v (n:Int))=((Jq n d (some v):Nat):Int):=by
 show(if v < 0 then max (v+(n:Int)) 0 else min v (n:Int))=(((if v < 0 then (v+(n:Int)).toNat else min v.toNat n):Nat):Int)
 by_cases hv:v < 0
 .simp only[if_pos hv];omega
 .simp only[if_neg hv];omega
def tY(lo hi:Option Int)(n:Nat):Builtin.Slice.sliceAdjust lo hi 1 (n:Int)=(((Jq n 0 lo:Nat):Int),((Jq n n hi:Nat):Int)):=by
 have h1:¬((1:Int) < 0):=by omega
 unfold Builtin.Slice.sliceAdjust;simp only[h1,UZ];refine Yu ?_ ?_
 .cases lo with
  |none=>rfl
  |some v=>exact u6 v n 0
 .cases hi with
  |none=>rfl
  |some v=>exact u6 v n n
def tZ(i j:Nat):Builtin.Slice.slicePlaces (i:Int) (j:Int) 1=j - i:=by
 unfold Builtin.Slice.slicePlaces;have h1:(1:Int) > 0:=by omega
 simp only[h1,U6,Int.ediv_one]
 split<;>omega
def nu{v:Value}{o:Option Int}{Q:Option Int->Shared->Prop}(p:IsPart v o)(h:Q o s):wpAny (model prog w) A (Builtin.Slice.slicePartIndex v) Q E s:=by
 cases p with
 |none=>exact slicePart_none h
 |int i t=>exact slicePart_int h
def gj{sl:Addr}{vl vu:Value}{lo hi:Option Int}{n:Nat}{Q:Int×Int×Nat->Shared->Prop}(hs:s.heap.IsSliceOf sl vl vu .none)(pl:IsPart vl lo)(pu:IsPart vu hi)
  (h:Q (((Jq n 0 lo:Nat):Int),1,Jq n n hi - Jq n 0 lo) s):wpAny (model prog w) A (Builtin.Slice.sliceApplied (.ref sl) (pure (n:Int))) Q E s:=by
 obtain⟨os,hos,hcs,hds⟩:=id hs;unfold Builtin.Slice.sliceApplied Builtin.Slice.sliceFields;refine Uk (Uk (Vb hos hds (x:=vl) rfl (Uk (Vb hos hds (x:=vu) rfl (Uk (Vb hos hds (x:=.none) rfl (Uz ?_)))))));refine Uk (slicePart_none ?_);show wpAny _ _ (if ((1:Int) == 0)=true then _ else _) _ _ s;rw[if_neg (by decide)];refine Uk (nu pl (Uk (nu pu (Uk (Uz ?_)))));show wpAny _ _ (match Builtin.Slice.sliceAdjust lo hi 1 (n:Int)with|(lo,hi)=>pure (lo,(1:Int),Builtin.Slice.slicePlaces lo hi 1)) _ _ s;rw[tY lo hi n];show wpAny _ _ (pure (((Jq n 0 lo:Nat):Int),(1:Int),Builtin.Slice.slicePlaces ((Jq n 0 lo:Nat):Int) ((Jq n n hi:Nat):Int) 1)) _ _ s;rw[tZ];exact Uz h
def xN(xs:Vw)(i k:Nat):((List.range k).filterMap λ(m:Nat)=>xs[((i:Int)+(m:Int) * 1).toNat]?).toArray=((xs.toList.drop i).take k).toArray:=by
 have e:(λ(m:Nat)=>xs[((i:Int)+(m:Int) * 1).toNat]?)=λm=>xs[i+m]?:=by
  funext m
  have:((i:Int)+(m:Int) * 1).toNat=i+m:=by omega
  rw[this]
 rw[e];have:=pick_run xs i k;rw[List.filterMap_map]at this;have e2:((λx=>xs[x]?) ∘ λx=>i+x)=λm=>xs[i+m]?:=rfl;rw[e2]at this;rw[this]
def kG{t sl:Addr}{items:Vw}{vl vu:Value}{lo hi:Option Int}{Q:Vq}(ht:IsTup s.heap t items)(hs:s.heap.IsSliceOf sl vl vu .none)(pl:IsPart vl lo)(pu:IsPart vu hi)
  (hw:¬(Jq items.size 0 lo=0/\Jq items.size items.size hi=items.size))
  (h:Q (.ref s.heap.objs.size) { s with heap:=s.heap.push { cls:=.type "tuple",data:=.seq ((items.toList.drop (Jq items.size 0 lo)).take (Jq items.size items.size hi - Jq items.size 0 lo)).toArray } })
  (hsz:items.size<=sizeLine):wpAny (model prog w) A (getItem (.ref t) (.ref sl)) Q E s:=by
 have NY:sizeOk (.seq ((items.toList.drop (Jq items.size 0 lo)).take (Jq items.size items.size hi - Jq items.size 0 lo)).toArray):=by
  show((items.toList.drop (Jq items.size 0 lo)).take (Jq items.size items.size hi - Jq items.size 0 lo)).toArray.size<=sizeLine;rw[Uw,Vi,VM,V1];omega
 have hj:Jq items.size items.size hi<=items.size:=Dd _ _ (Uo _) hi;obtain⟨os,hos,hcs,hds⟩:=id hs;have Rc:s.TypeIs (.ref sl) "slice":=⟨os,hos,hcs⟩
 unfold getItem
 try with_reducible refine W4 ?_
 first|refine Uk (Uz ?_)|skip
 refine Uk (wpAny_sequenceKey ht.typeIs (by decide) ?_);refine Uk (Vy (name:=Str.ofString "__getitem__") ht.typeIs Vn
  (V5 Vn ht.typeIs entry_tuple_getitem ?_ (args_tuple_getitem _ _)))
 show wpAny _ _ (Builtin.Tuple.tupleItemsOf (.ref t) >>= _) _ _ s;refine Uk (tupleItemsOf_ ht ?_);refine Uk (wpAny_typeOf Rc ?_);rw[if_pos (by decide)];refine Uk (gj hs pl pu ?_);have hno:¬((((Jq items.size 0 lo:Nat):Int) == 0&&(1:Int) == 1&&(Jq items.size items.size hi - Jq items.size 0 lo) == items.size)=true):=by
  intro q;rw[V6,V6]at q;have q1:((Jq items.size 0 lo:Nat):Int)=0:=eq_of_beq q.1.1;have q2:Jq items.size items.size hi - Jq items.size 0 lo=items.size:=eq_of_beq q.2;exact hw ⟨by omega,by omega⟩
 show wpAny _ _ (if (((Jq items.size 0 lo:Nat):Int) == 0&&(1:Int) == 1&&(Jq items.size items.size hi - Jq items.size 0 lo) == items.size)=true then _ else _) _ _ s;rw[if_neg hno,xN]
 first
  |exact Uk (m:=Builtin.Tuple.tupleExact _) (VU (Uz ⟨_,rfl,Uz h⟩) NY)
  |exact Uk (m:=Builtin.Tuple.tupleExact _) (VU (Uk (Uz (Uz ⟨_,rfl,Uz h⟩))) NY)
  |exact Uk (Uk (m:=Builtin.Tuple.tupleExact _) (VU (Uz (Uz ⟨_,rfl,Uz h⟩)) NY))
  |exact Uk (Uk (m:=Builtin.Tuple.tupleExact _) (VU (Uz ⟨_,rfl,Uz h⟩) NY))
end
end HT
namespace L2
open PySem PySem.Spec PyProof.Rows
abbrev TO:=St->Hp->(Option Int->Hp->Prop)->Prop
def PO(X:Cx)(e:Option Expr)(t:TO):Prop:=
 ∀(pins:Va)(s:Shared)(σ:St)(H:Hp)(Q:Option Int->Hp->Prop),Inv X pins σ H s->t σ H Q->
  wpAny (model X.prog X.w) X.A (evalPart e X.env) (λu s'=>∃o H',Inv X pins σ H' s'/\IsPart u o/\Q o H') X.xe s
noncomputable def Al:TO:=λ_ H Q=>Q none H
noncomputable def Fr(t:TE):TO:=λσ H Q=>t σ H λx H1=>∃i,x = .int i/\Q (some i) H1
def t4{ns:Vu}:∀{us:Vv},Vals (ns.map V.int) us->IntsAre us ns:=by
 induction ns with
 |nil=>intro us r;rw[U4]at r;cases r;exact .nil
 |cons n ns ih=>
  intro us r;rw[UA]at r;cases r with
  |cons r1 r2=>
   obtain⟨t,e⟩:=r1;subst e;exact .cons n t (ih r2)
section
variable {X:Cx}{e:Expr}{te:TE}{lo hi:Option Expr}{tl th:TO}{pos p2:Pos}
def Am:PO X none Al:=by
 walk_at "7";rw[evalPart_none];exact Uz ⟨none,H,I,.none,h⟩
def An(h:PE X e te):PO X (some e) (Fr te):=by
 intro pins s σ H Q I hw;rw[evalPart_some];refine IK (h pins s σ H _ I hw) λu s1 ⟨x,H1,I1,r1,q1⟩=>?_;obtain⟨i,rfl,q⟩:=q1;obtain⟨t,rfl⟩:=r1;exact⟨some i,H1,I1,.int i t,q⟩
def EK(X:Cx)(r:V->Option Int->Option Int->Hp->VK->Prop):Prop:=
 ∀(pins:Va)(s:Shared)(σ:St)(H:Hp)(x:V)(v vl vu:Value)(lo hi:Option Int)(sl:Addr)(Q:VK),Inv X pins σ H s->RelV x v->s.heap.IsSliceOf sl vl vu .none->IsPart vl lo->IsPart vu hi->r x lo hi H Q->
  ∃T id,typeLookup (.type T) "__getitem__" = pure (some (.builtin id))/\s.TypeIs v T/\wpAny (model X.prog X.w) X.A (getItem v (.ref sl)) (EP X pins σ Q) X.xe s
def Ij(r:V->Option Int->Option Int->Hp->VK->Prop)(te:TE)(tl th:TO):TE:=λσ H Q=>te σ H λx H1=>tl σ H1 λl H2=>th σ H2 λu H3=>r x l u H3 Q
def xO{r:V->Option Int->Option Int->Hp->VK->Prop}(hr:EK X r)(he:PE X e te)(hl:PO X lo tl)(hu:PO X hi th):PE X (.Subscript e (.Slice lo hi none p2) pos) (Ij r te tl th):=by
 walk_at "7";refine Subscript_ (IK (he pins s σ H _ I h) λv s1 ⟨x,H1,I1,r1,q1⟩=>?_);refine wpAny_Slice (IK (hl pins s1 σ H1 _ I1 q1) λvl s2 ⟨l,H2,I2,pl,q2⟩=>IK (hu pins s2 σ H2 _ I2 q2) λvu s3 ⟨u,H3,I3,pu,q3⟩=>?_);rw[evalPart_none];refine Uz ?_;have I4:Inv X pins σ H3 { s3 with heap:=s3.heap.push { cls:=.type "slice",data:=.fields #[vl,vu,.none] } }:=I3.kept (t':=s3.toks) λb ob q=>Up _ q;obtain⟨T,id,hT,ht,hg⟩:=hr pins { s3 with heap:=s3.heap.push { cls:=.type "slice",data:=.fields #[vl,vu,.none] } } σ H3 x v vl vu l u s3.heap.objs.size Q I4 r1 (Heap.IsSliceOf.new ..) pl pu q3;show wpAny (model X.prog X.w) X.A (subscriptTail e (.Slice lo hi none p2) v (.ref s3.heap.objs.size)) (EP X pins σ Q) X.xe { s3 with heap:=s3.heap.push { cls:=.type "slice",data:=.fields #[vl,vu,.none] } };exact tail_any (ops:=[.ref s3.heap.objs.size,v]) ht hT hg (by with_unfolding_all rfl)
noncomputable def nv(xs:List V)(lo hi:Option Int):List V:=(xs.drop (HT.Jq xs.length 0 lo)).take (HT.Jq xs.length xs.length hi - HT.Jq xs.length 0 lo)
def mF(xs:List V)(lo hi:Option Int):(nv xs lo hi).length<=xs.length:=by
 unfold nv;rw[Vi,VM];omega
noncomputable def G5(K:Vo):V->Option Int->Option Int->Hp->VK->Prop:=λx lo hi H Q=>∃a xs,x = .ref a/\SqT K H a xs/\
 ¬(HT.Jq xs.length 0 lo=0/\HT.Jq xs.length xs.length hi=xs.length)/\∀p,H p=none->Q (.ref p) (upd H p (.tup (nv xs lo hi)))
def De:EK X (G5 X.K):=by
 intro pins s σ H x v vl vu lo hi sl Q I rx hs pl pu h;obtain⟨a,xs,rfl,hx,hw,q⟩:=h;cases rx;obtain⟨its,r,ht,hz⟩:=I.tuple hx;have hlen:its.toArray.size=xs.length:=by rw[Uw];exact r.length.symm
 refine⟨"tuple",_,Vn.lookup,ht.typeIs,?_⟩;refine HT.kG ht hs pl pu (by rw[hlen];exact hw) ?_ (by rw[hlen];exact hz);rw[hlen];refine⟨.ref s.heap.objs.size,_,I.laid (t':=s.toks) (o:=.tup (nv xs lo hi)) (λb ob q=>Up _ q) (Uo _) ?_,rfl,q _ (I.hok.fresh (Uo _))⟩;exact⟨UJ (mF xs lo hi) hz,_,(r.drop (HT.Jq xs.length 0 lo)).take (HT.Jq xs.length xs.length hi - HT.Jq xs.length 0 lo),JG.new _ _⟩
def Ft(K:Vo):R2:=λx y H Q=>∃a b xs ys,x = .ref a/\y = .ref b/\SqT K H a xs/\SqT K H b ys/\xs≠[]/\xs.length+ys.length<=sizeLine/\
 (ys=[]->Q (.ref a) H)/\(ys≠[]->∀p,H p=none->Q (.ref p) (upd H p (.tup (xs++ys))))
def Vals.M1{xs:List V}{us:Vv}(r:Vals xs us):us=[]↔xs=[]:=by
 cases r with
 |nil=>simp
 |cons _ _=>simp
def Ao:jD X (binaryOp .Add) (Ft X.K):=by
 walk_at "4";obtain⟨a,b,xs,ys,rfl,rfl,ha,hb,hx,hz,q1,q2⟩:=h;cases rx;cases ry;obtain⟨its,r1,p1,_⟩:=I.tuple ha;obtain⟨its2,r2,p2,_⟩:=I.tuple hb;refine HT.Aj p1 p2 (λz=>hx (r1.M1.mp z)) (λz=>⟨.ref a,H,I,rfl,q1 (r2.M1.mp z)⟩) (λz=>?_) (by rw[<-r1.length,<-r2.length];exact hz);refine⟨.ref s.heap.objs.size,_,I.laid (t':=s.toks) (o:=.tup (xs++ys)) (λb ob q=>Up _ q) (Uo _) ?_,rfl,q2 (λw=>z (r2.M1.mpr w)) _ (I.hok.fresh (Uo _))⟩;exact⟨by rw[Um];exact hz,_,r1.append r2,JG.new _ _⟩
end
noncomputable def qi(n:Nat)(i:Int):Option Nat:=if 0<=i then (if i < n then some i.toNat else none) else if -(n:Int)<=i then some (i+n).toNat else none
noncomputable def JU{α:Type}(xs:List α)(i:Int):Option α:=(qi xs.length i).bind λj=>xs[j]?
def u7{n:Nat}{i:Int}{j:Nat}(h:qi n i=some j):seqIndex? i n=some j/\j < n/\-(n:Int)<=i/\i < n:=by
 unfold qi at h;by_cases h0:0<=i
 .rw[if_pos h0]at h;by_cases h1:i < n
  .rw[if_pos h1]at h;have e:i.toNat=j:=Vx h;exact⟨by rw[seqIndex_of h0 h1,e],by omega,by omega,h1⟩
  .rw[if_neg h1]at h;cases h
 .rw[if_neg h0]at h;by_cases h1:-(n:Int)<=i
  .rw[if_pos h1]at h;have e:(i+n).toNat=j:=Vx h;exact⟨by rw[seqIndex_neg (by omega) h1,e],by omega,h1,by omega⟩
  .rw[if_neg h1]at h;cases h
def qj{α:Type}{xs:List α}{i:Int}{v:α}(h:JU xs i=some v):∃j,seqIndex? i xs.length=some j/\xs[j]?=some v/\j < xs.length/\-(xs.length:Int)<=i/\i < xs.length:=by
 unfold JU at h;cases e:qi xs.length i with
 |none=>rw[e]at h;cases h
 |some j=>
  rw[e]at h;obtain⟨h1,h2,h3,h4⟩:=u7 e;exact⟨j,h1,h,h2,h3,h4⟩
def bj{α:Type}{xs:List α}{j:Nat}{v:α}(h:xs[j]?=some v):JU xs (j:Int)=some v:=by
 have hj:j < xs.length:=(UH.mp h).1;have e:qi xs.length (j:Int)=some j:=by
  unfold qi;rw[if_pos (by omega),if_pos (by omega)];simp
 unfold JU;rw[e];exact h
def mX(b:Expr):Prop:=∀o i,subscripted b false o i=operate [o,i] (getItem o i)
def EL(X:Cx)(r:R2):Prop:=
 ∀(value slice:Expr)(pins:Va)(s:Shared)(σ:St)(H:Hp)(x y:V)(v u:Value)(Q:VK),Inv X pins σ H s->RelV x v->RelV y u->r x y H Q->
  subscripted slice false v u=operate [v,u] (getItem v u)->wpAny (model X.prog X.w) X.A (subscriptTail value slice v u) (EP X pins σ Q) X.xe s
def Df(X:Cx)(id:String)(r:V->List V->Hp->VK->Prop):Prop:=
 ∀(pins:Va)(s:Shared)(σ:St)(H:Hp)(x:V)(xs:List V)(v:Value)(us:Vv)(Q:VK),Inv X pins σ H s->RelV x v->Vals xs us->r x xs H Q->
  wpAny (model X.prog X.w) X.A (call (.builtin id) (v::us)) (EP X pins σ Q) X.xe s
section
variable {X:Cx}{a b:Expr}{ta tb:TE}{pos:Pos}
def Fu{r:R2}(hr:EL X r)(ha:PE X a ta)(hb:PE X b tb)(hs:mX b):PE X (.Subscript a b pos) (Fg r ta tb):=by
 walk_at "7";exact Subscript_ (C2 ha hb I h λv u s2 x y H2 I2 rx ry q=>hr a b pins s2 σ H2 x y v u Q I2 rx ry q (hs _ _))
def G6(K:Vo):R2:=λx y H Q=>∃p xs i v,x = .ref p/\y = .int i/\SqL K H p xs/\JU xs i=some v/\Q v H
def G7(K:Vo):R2:=λx y H Q=>∃p xs i v,x = .ref p/\y = .int i/\SqT K H p xs/\JU xs i=some v/\Q v H
def G8:R2:=λx y H Q=>∃z i c,x = .str z/\y = .int i/\z.length<=sizeLine/\JU z.cps.toList i=some c/\Q (.str ⟨#[c]⟩) H
def u8:EL X (G6 X.K):=by
 intro value slice pins s σ H x y v u Q I rx ry h hs;obtain⟨p,xs,i,z,rfl,rfl,hq,he,q⟩:=h;cases rx;obtain⟨t,rfl⟩:=ry;obtain⟨its,r,pl,hz⟩:=I.list hq;obtain⟨j,h1,h2,h3,h4,h5⟩:=qj he;obtain⟨w,ew,rw'⟩:=r.get h2;have hl:=r.length;have hn:=lC;have fin:EP X pins σ Q w s:=⟨z,H,I,rw',q⟩
 by_cases h0:0<=i
 .have hj:i.toNat=j:=by
   rw[seqIndex_of h0 h5]at h1;exact Vx h1
  exact item_listR pl.isList h0 (by omega) (by rw[hj];simpa using ew) fin hs
 .have hj:(i+(its.toArray.size:Int)).toNat=j:=by
   rw[seqIndex_neg (by omega) h4]at h1;rw[Uw,<-hl];exact Vx h1
  exact subscriptTail_builtinR (x:=w) pl.isList.typeIs slot_list_getitem.lookup
   (wpAny_getItem_list_neg (Q:=λr s'=>r=w/\EP X pins σ Q r s') pl.isList (by omega) (by rw[Uw]<;>omega) (by omega) (by rw[hj];simpa using ew) ⟨rfl,fin⟩) hs
def Dg:EL X (G7 X.K):=by
 intro value slice pins s σ H x y v u Q I rx ry h hs;obtain⟨p,xs,i,z,rfl,rfl,hq,he,q⟩:=h;cases rx;obtain⟨t,rfl⟩:=ry;obtain⟨its,r,pl,hz⟩:=I.tuple hq;obtain⟨j,h1,h2,h3,h4,h5⟩:=qj he;obtain⟨w,ew,rw'⟩:=r.get h2;have hl:=r.length;have hn:=lC;have fin:EP X pins σ Q w s:=⟨z,H,I,rw',q⟩
 exact subscriptTail_builtinR (x:=w) pl.typeIs slot_tuple_getitem.lookup
  (getItem_tuple (j:=j) (Q:=λr s'=>r=w/\EP X pins σ Q r s') pl (by omega) (by omega) (by rw[Uw,<-hl];exact h1) (by simpa using ew) ⟨rfl,fin⟩) hs
def Dh:EL X G8:=by
 intro value slice pins s σ H x y v u Q I rx ry h hs;obtain⟨z,i,c,rfl,rfl,hz,he,q⟩:=h;obtain⟨t,rfl⟩:=rx;obtain⟨t',rfl⟩:=ry;obtain⟨j,h1,h2,h3,h4,h5⟩:=qj he;have hl:z.cps.toList.length=z.length:=by simp[Str.length]
 rw[hl]at h1 h4 h5;have hn:=lC;exact tail_any (typeIs_str s z t) slot_str_getitem.lookup (getItem_str (c:=c) (by
  have e1:decide (i < -(2 ^ 63:Int))=false:=UG (by omega);have e2:decide (i>=2 ^ 63)=false:=UG (by omega);rw[e1,e2,Bool.or_false]) (by rw[h1];simpa using h2) ⟨.str ⟨#[c]⟩,H,I.tok _,⟨_,rfl⟩,q⟩) hs
def t5(its:Vv)(n j:Nat)(u:Value):Obj.mapSeq (·.setIfInBounds j u) { cls:=.type "list",data:=.seq its.toArray n }={ cls:=.type "list",data:=.seq (its.set j u).toArray n }:=by
 simp[Obj.mapSeq]
theorem Inv.lst{pins:Va}{σ:St}{H:Hp}{s:Shared}{p:Addr}{xs:List V}(I:Inv X pins σ H s)(h:H p=some (.lst xs)) :
  ∃(its:Vv) (n:Nat),Vals xs its/\s.heap.get? p=some { cls:=.type "list",data:=.seq its.toArray n }/\xs.length<=sizeLine:=by
 obtain⟨z,its,n,r,e⟩:=I.hok p _ h;exact⟨its,n,r,e,z⟩
def Inv.PC{pins:Va}{σ:St}{H:Hp}{s:Shared}{p:Addr}{xs ys:List V}{its its':Vv}{n n':Nat}{f:Obj->Obj}(I:Inv X pins σ H s)(h:H p=some (.lst xs))
  (ho:s.heap.get? p=some { cls:=.type "list",data:=.seq its.toArray n }) (hf:f { cls:=.type "list",data:=.seq its.toArray n }={ cls:=.type "list",data:=.seq its'.toArray n' }) (r:Vals ys its') (hz:ys.length<=sizeLine) (t:Nat) :
  Inv X pins σ (upd H p (.lst ys)) { s with heap:=s.heap.update p f,toks:=t }:=by
 have e:(s.heap.update p f).get? p=some { cls:=.type "list",data:=.seq its'.toArray n' }:=by
  rw[WN f ho (by rw[hf]<;>rfl),hf]
 refine I.write (x:=p) (e:=p) (by rw[h];trivial) (.inl rfl) (λb u hb q=>(Xp _ _ (Ww hb)).trans q) ⟨_,e⟩ ?_;exact⟨hz,its',n',r,e⟩
noncomputable def Fv:V->V->V->Hp->(Hp->Prop)->Prop:=λo i v H Q=>∃p xs k j,o = .ref p/\i = .int k/\H p=some (.lst xs)/\qi xs.length k=some j/\Q (upd H p (.lst (xs.set j v)))
def xP:zZ X Fv:=by
 intro pins s σ H o i v ov iv u Q I ro ri rv h;obtain⟨p,xs,k,j,rfl,rfl,hp,hj,q⟩:=h;cases ro;obtain⟨t,rfl⟩:=ri;obtain⟨its,n,r,ho,hz⟩:=I.lst hp;obtain⟨h1,h2,h3,h4⟩:=u7 hj;have hl:=r.length;have hn:=lC;have I':Inv X pins σ (upd H p (.lst (xs.set j v))) { s with heap:=s.heap.update p (Obj.mapSeq (·.setIfInBounds j u)) }:=
  I.PC hp ho (t5 its n j u) (r.set rv j) (by rw[V2];exact hz) s.toks
 by_cases h0:0<=k
 .have hk:k.toNat=j:=by
   rw[seqIndex_of h0 h4]at h1;exact Vx h1
  exact PySem.W.ki_setAt ho h0 (by omega) (by rw[Uw,<-hl];exact h4) (by rw[hk];exact⟨_,I',q⟩)
 .have hk:(k+(its.toArray.size:Int)).toNat=j:=by
   rw[seqIndex_neg (by omega) h3]at h1;rw[Uw,<-hl];exact Vx h1
  exact PySem.W.ki_setBack ho (by omega) (by rw[Uw,<-hl];exact h3) (by omega) (by rw[hk];exact⟨_,I',q⟩)
def qk(lo hi:Option Int)(n:Nat):(sliceBounds lo hi none n).1=((HT.Jq n 0 lo:Nat):Int)/\(sliceBounds lo hi none n).2.1=((HT.Jq n n hi:Nat):Int)/\(sliceBounds lo hi none n).2.2=1:=by
 refine⟨?_,?_,rfl⟩
 .cases lo with
  |none=>simp[sliceBounds,HT.Jq]
  |some i=>
   simp only[sliceBounds,HT.Jq,Option.getD_none,show(1:Int) > 0 by decide,U6];by_cases h:i < 0
   .simp only[h,U6]<;>omega
   .simp only[h,UZ]<;>omega
 .cases hi with
  |none=>simp[sliceBounds,HT.Jq]
  |some i=>
   simp only[sliceBounds,HT.Jq,Option.getD_none,show(1:Int) > 0 by decide,U6];by_cases h:i < 0
   .simp only[h,U6]<;>omega
   .simp only[h,UZ]<;>omega
def oO(its:Vv)(lo hi:Option Int):slicePick its.toArray lo hi none=((its.drop (HT.Jq its.length 0 lo)).take (HT.Jq its.length its.length hi - HT.Jq its.length 0 lo)).toArray:=by
 obtain⟨h1,h2,h3⟩:=qk lo hi its.toArray.size;unfold slicePick;rw[h1,h2,h3];simp only[sliceRange_one,pick_run,Uw]<;>rfl
noncomputable def G9(K:Vo):V->Option Int->Option Int->Hp->VK->Prop:=λx lo hi H Q=>∃a xs,x = .ref a/\SqL K H a xs/\∀p,H p=none->Q (.ref p) (upd H p (.lst (nv xs lo hi)))
def u9:EK X (G9 X.K):=by
 intro pins s σ H x v vl vu lo hi sl Q I rx hs pl pu h;obtain⟨a,xs,rfl,hx,q⟩:=h;cases rx;obtain⟨its,r,ht,hz⟩:=I.list hx;have hlen:=r.length;refine⟨"list",_,slot_list_getitem.lookup,ht.isList.typeIs,?_⟩;refine wpAny_getItem_list_slice ht.isList hs pl pu .none (by simp) ?_ (by rw[Uw]<;>omega);rw[oO,<-hlen];refine⟨.ref s.heap.objs.size,_,I.laid (t':=s.toks) (o:=.lst (nv xs lo hi)) (λb ob q=>Up _ q) (Uo _) ?_,rfl,q _ (I.hok.fresh (Uo _))⟩;exact⟨UJ (mF xs lo hi) hz,_,0,(r.drop (HT.Jq xs.length 0 lo)).take (HT.Jq xs.length xs.length hi - HT.Jq xs.length 0 lo),UC _ rfl⟩
def qm:jD X (compareOp .NotIn) (λx y H Q=>∃i j,x = .str i/\y = .str j/\Q (.bl (!(!(Builtin.Str.occurrences j i 0 j.length 1).isEmpty))) H):=by
 walk_at "4";obtain⟨i,j,rfl,rfl,q⟩:=h;obtain⟨t,rfl⟩:=rx;obtain⟨t',rfl⟩:=ry;exact notIn_str ⟨.bl _,H,I,rfl,q⟩
def gN:eR X (.builtin "len") (λxs H Q=>∃p ys,xs=[.ref p]/\(SqL X.K H p ys\/SqT X.K H p ys)/\Q (.int ys.length) H):=by
 intro pins s σ H xs us Q I r h;obtain⟨p,ys,rfl,hq,q⟩:=h;obtain⟨u,rfl,rx⟩:=eA r;cases rx;have hn:=lC;rcases hq with hq|hq
 .obtain⟨its,r',pl,hz⟩:=I.list hq;have hlen:=r'.length;exact Calls.call_len_list pl.isList (by simp only[Uw]<;>omega) ⟨.int ys.length,H,I.tok _,⟨s.toks+1,by rw[Uw,hlen]⟩,q⟩
 .obtain⟨its,r',pl,hz⟩:=I.tuple hq;have hlen:=r'.length;exact len_tuple pl (by simp only[Uw]<;>omega) ⟨.int ys.length,H,I.tok _,⟨s.toks+1,by rw[Uw,hlen]⟩,q⟩
def qo:eR X (.builtin "len") (λxs H Q=>∃z,xs=[.str z]/\z.length<=sizeLine/\Q (.int z.length) H):=by
 intro pins s σ H xs us Q I r h;obtain⟨z,rfl,hz,q⟩:=h;obtain⟨u,rfl,t,rfl⟩:=eA r;have hn:=lC;exact len_str (by omega) ⟨.int z.length,H,I.tok _,⟨_,rfl⟩,q⟩
def qp:eR X (.type "list") (λxs H Q=>∃p ys,xs=[.ref p]/\(SqL X.K H p ys\/SqT X.K H p ys)/\∀l,H l=none->Q (.ref l) (upd H l (.lst ys))):=by
 intro pins s σ H xs us Q I r h;obtain⟨p,ys,rfl,hq,q⟩:=h;obtain⟨u,rfl,rx⟩:=eA r;cases rx;have fin:∀(its:Vv),Vals ys its->ys.length<=sizeLine->∀(h':Heap) (c':Nat),(∀b o',s.heap.get? b=some o'->h'.get? b=some o')->
   h'.get? s.heap.objs.size=some { cls:=.type "list",dict:=none,data:=.seq its.toArray c',slots:=#[] }->EP X pins σ Q (.ref s.heap.objs.size) { s with heap:=h' }:=λits r' hz h' c' kp e=>
  ⟨.ref s.heap.objs.size,_,I.laid (t':=s.toks) kp (Uo _) (show Jl X.prog X.w _ h' _ (.lst ys)from ⟨hz,its,c',r',e⟩),rfl,q _ (I.hok.fresh (Uo _))⟩
 rcases hq with hq|hq
 .obtain⟨its,r',pl,hz⟩:=I.list hq;have hlen:=r'.length;obtain⟨o,ho,hc,n,hd⟩:=pl.isList;exact call_list_seq p (.inl rfl) ho hc hd (λh' c' kp e=>fin its r' hz h' c' kp e) (by simp only[Uw]<;>omega)
 .obtain⟨its,r',pl,hz⟩:=I.tuple hq;have hlen:=r'.length;obtain⟨o,ho,hc,n,hd⟩:=pl;exact call_list_seq p (.inr rfl) ho hc hd (λh' c' kp e=>fin its r' hz h' c' kp e) (by simp only[Uw]<;>omega)
def jI:eR X (.type "tuple") (λxs H Q=>∃p ys,xs=[.ref p]/\((SqL X.K H p ys/\∀l,H l=none->Q (.ref l) (upd H l (.tup ys)))\/(SqT X.K H p ys/\Q (.ref p) H))):=by
 intro pins s σ H xs us Q I r h;obtain⟨p,ys,rfl,h⟩:=h;obtain⟨u,rfl,rx⟩:=eA r;cases rx;rcases h with⟨hq,q⟩|⟨hq,q⟩
 .obtain⟨its,r',pl,hz⟩:=I.list hq;have hlen:=r'.length;refine call_tuple_list pl.isList (λh' kp=>?_) (by simp only[Uw]<;>omega);have I1:Inv X pins σ H { s with heap:=h' }:=I.kept (t':=s.toks) kp;have I2:Inv X pins σ (upd H h'.objs.size (.tup ys)) { s with heap:=h'.push { cls:=.type "tuple",data:=.seq its.toArray } }:=
   I1.laid (t':=s.toks) (λb o e=>Up _ e) (Uo _) (show Jl X.prog X.w _ _ _ (.tup ys)from ⟨hz,its,r',JG.new _ _⟩)
  exact⟨.ref h'.objs.size,_,I2,rfl,q _ (I1.hok.fresh (Uo _))⟩
 .obtain⟨its,r',pl,hz⟩:=I.tuple hq;exact call_tuple_same pl ⟨.ref p,H,I,rfl,q⟩
def GG(K:Vo)(T:String)(x:V)(H:Hp):Prop:=match x with
 | .str _=>T = "str"
 | .int _=>T = "int"
 | .ref p=>(T = "list"/\∃xs,SqL K H p xs)\/(T = "tuple"/\∃o,K.lookup p=some o/\o.cls = .type "tuple"/\o.dict=none) \/
   (T = "dict"/\((∃kvs,H p=some (.dK kvs))\/∃kvs,H p=some (.dT kvs)))\/(T = "set"/\∃S n,H p=some (.set S n))
 |_=>False
def xQ{pins:Va}{σ:St}{H:Hp}{s:Shared}{T:String}{x:V}{v:Value}(I:Inv X pins σ H s)(r:RelV x v)(ty:GG X.K T x H) :
  s.TypeIs v T/\∀a,v = .ref a->∃ob,s.heap.get? a=some ob/\ob.dict=none:=by
 cases x with
 |str z=>
  obtain⟨t,rfl⟩:=r;cases (show T = "str" from ty);exact⟨typeIs_str s z t,λ_ e=>nomatch e⟩
 |int i=>
  obtain⟨t,rfl⟩:=r;cases (show T = "int" from ty);exact⟨typeIs_int s i t,λ_ e=>nomatch e⟩
 |ref p=>
  cases r;rcases ty with⟨rfl,xs,hq⟩|⟨rfl,o,hk,hc,hd⟩|⟨rfl,hk⟩|⟨rfl,S,n,hk⟩
  .obtain⟨its,_,pl,_⟩:=I.list hq;refine⟨pl.isList.typeIs,λa e=>?_⟩;cases e;obtain⟨o,n,e,c,hd,_⟩:=pl;exact⟨o,e,hd⟩
  .refine⟨⟨o,I.Ov p o hk,hc⟩,λa e=>?_⟩;cases e;exact⟨o,I.Ov _ o hk,hd⟩
  .have z:∃o,s.heap.get? p=some o/\o.ExactDict:=by
    rcases hk with⟨kvs,hk⟩|⟨kvs,hk⟩
    .obtain⟨_,_,_,_,o,_,_,e,ex,_⟩:=I.hok p _ hk;exact⟨o,e,ex⟩
    .obtain⟨_,_,_,_,o,_,_,e,ex,_⟩:=I.hok p _ hk;exact⟨o,e,ex⟩
   obtain⟨o,e,ex⟩:=z;refine⟨⟨o,e,ex.1⟩,λa e2=>?_⟩;cases e2;exact⟨o,e,ex.2.1⟩
  .obtain⟨o,_,_,_,e,ex,_⟩:=I.hok p _ hk;refine⟨⟨o,e,ex.1⟩,λa e2=>?_⟩;cases e2;exact⟨o,e,ex.2.1⟩
 |_=>exact False.elim ty
def G_(K:Vo)(T:String)(r:V->List V->Hp->VK->Prop)(to:TE):TE:=λσ H Q=>to σ H λx H1=>GG K T x H1/\r x [] H1 Q
def Ik(K:Vo)(T:String)(r:V->List V->Hp->VK->Prop)(to:TE)(t:TA):TE:=λσ H Q=>to σ H λx H1=>GG K T x H1/\t σ H1 λxs H2=>r x xs H2 Q
variable {o e:Expr}{es:List Expr}{to:TE}{t:TA}{name:Str}{apos cpos:Pos}{T id:String}{r:V->List V->Hp->VK->Prop}
def Di(pa:PlainAttrs T)(slot:Slot T name id)(hty:typeOf (.builtin id)=pure (.type "method_descriptor"))(hm:Df X id r)(ho:PE X o to)
  (hbase:attributeBase o name X.env (eval o X.env)=eval o X.env:=by rfl) (hline:(apos.endLine == cpos.line)=true:=by rfl):PE X (.Call (.Attribute o name apos) [] [] cpos) (G_ X.K T r to):=by
 walk_at "7";refine wpAny_Call_method0_late hbase hline (IK (ho pins s σ H _ I h) λv s1 ⟨x,H1,I1,r1,ty,q1⟩=>?_);obtain⟨h1,h2⟩:=xQ I1 r1 ty;exact⟨T,id,pa,slot,hty,h1,h2,WI rfl (PySem.evalArgs_none (hm pins s1 σ H1 x [] v [] Q I1 r1 .nil q1))⟩
def Fw(pa:PlainAttrs T)(slot:Slot T name id)(hty:typeOf (.builtin id)=pure (.type "method_descriptor"))(hm:Df X id r)(ho:PE X o to)(ha:PA X (e::es) t)
  (hbase:attributeBase o name X.env (eval o X.env)=eval o X.env:=by rfl)
  (hfew:((backTo cpos (starEach (e::es) X.env)).all (λx=>!x.1)&&(backToKw cpos (keywordEach [] X.env)).all (λx=>x.1.isSome)
   && decide ((e::es).length+([]:List Keyword).length+(if ([]:List Keyword).isEmpty then 0 else 1) < 30))=true:=by rfl)
  (hline:(apos.endLine == cpos.line)=true:=by rfl) (hs:starEach (e::es) X.env=(false,eval e X.env)::starEach es X.env:=by rfl) (hplain:(backTo cpos (starEach es X.env)).any (·.1)=false:=by rfl) :
  PE X (.Call (.Attribute o name apos) (e::es) [] cpos) (Ik X.K T r to t):=by
 walk_at "7";refine wpAny_Call_method_late hbase hfew hline rfl (IK (ho pins s σ H _ I h) λv s1 ⟨x,H1,I1,r1,ty,q1⟩=>?_);obtain⟨h1,h2⟩:=xQ I1 r1 ty;refine⟨T,id,pa,slot,hty,h1,h2,?_⟩;have hA:=ha cpos pins s1 σ H1 _ I1 q1;rw[hs]at hA ⊢;refine WI (by show(false || (backTo cpos (starEach es X.env)).any (·.1))=false;rw[hplain]<;>rfl) (XU ?_);exact IK hA λus s2 ⟨vs,H2,I2,r2,q2⟩=>hm pins s2 σ H2 x vs v us Q I2 r1 r2 q2
end
def Fx(X:Cx)(id:String)(r:V->List V->Hp->VK->Prop):Prop:=
 ∀(pins:Va)(s:Shared)(σ:St)(H:Hp)(x:V)(xs:List V)(v:Value)(us:Vv)(Q:VK),Inv X pins σ H s->RelV x v->Vals xs us->r x xs H Q->
  wpAny (model X.prog X.w) X.A (call (.builtin id) (v::us)) (EP X pins σ Q) X.xe s
theorem Vals.one:∀{x:V}{us:Vv},Vals [x] us->∃u,us=[u]/\RelV x u
 |_,_,.cons r .nil=>⟨_,rfl,r⟩
theorem Vals.zero:∀{us:Vv},Vals [] us->us=[]
 |_,.nil=>rfl
theorem Vals.dropLast{xs:List V}{us:Vv}(h:Vals xs us):Vals xs.dropLast us.dropLast:=by
 induction h with
 |nil=>exact .nil
 |cons r t ih=>
  cases t with
  |nil=>exact .nil
  |cons q t'=>exact .cons r ih
theorem Vals.eraseIdx:∀{xs:List V}{us:Vv}(i:Nat),Vals xs us->Vals (xs.eraseIdx i) (us.eraseIdx i)
 |_,_,_,.nil=>.nil
 |_,_,0,.cons _ t=>t
 |_,_,i+1,.cons r t=>.cons r (Vals.eraseIdx i t)
theorem Vals.reverse{xs:List V}{us:Vv}(h:Vals xs us):Vals xs.reverse us.reverse:=by
 induction h with
 |nil=>exact .nil
 |cons r t ih=>rw[Xq,Xq];exact Vals.append ih (.cons r .nil)
theorem Vals.rep{xs:List V}{us:Vv}(h:Vals xs us):∀k:Nat,Vals (List.replicate k xs).flatten (List.replicate k us).flatten
 |0=>.nil
 |k+1=>by
  rw[U1,U1,VW,VW];exact Vals.append h (Vals.rep h k)
def t6{α:Type}(l:List α):l.eraseIdx (l.length - 1)=l.dropLast:=by
 induction l with
 |nil=>rfl
 |cons a r ih=>
  cases r with
  |nil=>rfl
  |cons b r=>
   have e:(a::b::r).length - 1=((b::r).length - 1)+1:=by
    have h1:(a::b::r).length=r.length+2:=rfl;have h2:(b::r).length=r.length+1:=rfl;omega
   rw[e,List.eraseIdx_cons_succ,ih]
   all_goals rfl
theorem pB{α:Type}:∀(l:List α)(i:Nat),(l.eraseIdx i).length<=l.length
 |[],_=>Uo _
 |_::_,0=>XW _
 |_::r,i+1=>Nat.succ_le_succ (pB r i)
theorem lD(its:Vv):∀(k:Nat)(acc:Vv),
  List.foldl (λx1 x2=>x1++x2) acc.toArray (List.replicate k its.toArray)=(acc++(List.replicate k its).flatten).toArray
 |0,acc=>by simp
 |k+1,acc=>by
  have e:acc.toArray++its.toArray=(acc++its).toArray:=by simp
  have e2:(acc++its)++(List.replicate k its).flatten=acc++(List.replicate (k+1) its).flatten:=by
   rw[U1,VW,VX]
  rw[<-e2,<-lD its k (acc++its),<-e,U1,VJ]
section
variable {X:Cx}{pins:Va}{σ:St}{H:Hp}{s:Shared}{l b:Addr}{xs ys zs:List V}
def Inv.Ow{its its':Vv}{n:Nat}{f:Array Value->Array Value}{t':Nat}(I:Inv X pins σ H s)(hH:H l=some (.lst xs))
  (e:s.heap.get? l=some { cls:=.type "list",data:=.seq its.toArray n }) (hf:f its.toArray=its'.toArray) (hv:Vals ys its') (hz:ys.length<=sizeLine) :
  Inv X pins σ (upd H l (.lst ys)) { s with heap:=s.heap.update l (Obj.mapSeq f),toks:=t' }:=by
 have q:=PySem.IsL.update e f;rw[hf]at q;refine I.write (x:=l) (e:=l) (by rw[hH];exact trivial) (.inl rfl) (λb' u hb hu=>(Xp s.heap (Obj.mapSeq f) (Ww hb)).trans hu) ⟨_,q⟩ ?_;exact⟨hz,its',_,hv,q⟩
def Inv.Qf{its:Vv}{t':Nat}(I:Inv X pins σ H s)(hv:Vals ys its)(hz:ys.length<=sizeLine) :
  Inv X pins σ (upd H s.heap.objs.size (.lst ys)) { s with heap:=s.heap.push { cls:=.type "list",data:=.seq its.toArray },toks:=t' }:=
 I.laid (λ_ _ q=>Up _ q) (Uo _) ⟨hz,its,0,hv,UC _ rfl⟩
theorem Inv.fresh(I:Inv X pins σ H s):H s.heap.objs.size=none:=I.hok.fresh (Uo _)
def Inv.M4(I:Inv X pins σ H s)(hH:H l=some (.lst xs)):xs.length<=sizeLine/\∃(its:Vv)(n:Nat),Vals xs its/\xs.length=its.length/\s.heap.get? l=some { cls:=.type "list",data:=.seq its.toArray n }:=by
 obtain⟨z,its,n,r,e⟩:=I.hok l _ hH;exact⟨z,its,n,r,r.length,e⟩
def sg{n:Nat}(h:n<=sizeLine):Builtin.List.listTooLong n=false:=by
 unfold Builtin.List.listTooLong;exact UG (by omega)
end
section
variable {X:Cx}
noncomputable def Ap:V->List V->Hp->VK->Prop:=λx vs H Q=>∃l xs y,x = .ref l/\vs=[y]/\H l=some (.lst xs)/\xs.length < sizeLine/\Q .non (upd H l (.lst (xs++[y])))
def v7:Fx X "list.append" Ap:=by
 intro pins s σ H x vs v us Q I rx rv h;obtain⟨l,xs,y,rfl,rfl,hH,hz,q⟩:=h;cases rx;obtain⟨u,rfl,ru⟩:=rv.one;obtain⟨z,its,n,r,hl,e⟩:=I.M4 hH;refine Wq F.slot_list_append ⟨_,e,rfl⟩ F.entry_list_append (F.args_list_append_2 _ _) (PySem.list_append l its.toArray n u (by rw[Uw];omega)) ⟨e,?_⟩;refine⟨.non,_,I.Ow (its':=its++[u]) hH e (by simp) (r.append (.cons ru .nil)) ?_,rfl,q⟩;rw[Um,UM];omega
noncomputable def Aq:V->List V->Hp->VK->Prop:=λx vs H Q=>∃l b xs zs,x = .ref l/\vs=[.ref b]/\H l=some (.lst xs)/\H b=some (.lst zs)/\xs.length+zs.length<=sizeLine/\Q .non (upd H l (.lst (xs++zs)))
def v8:Fx X "list.extend" Aq:=by
 intro pins s σ H x vs v us Q I rx rv h;obtain⟨l,b,xs,zs,rfl,rfl,hH,hB,hz,q⟩:=h;cases rx;obtain⟨u,rfl,ru⟩:=rv.one;cases ru;obtain⟨z,its,n,r,hl,e⟩:=I.M4 hH;obtain⟨z2,its2,n2,r2,hl2,e2⟩:=I.M4 hB;have hsz:its.toArray.size+its2.toArray.size<=sizeLine:=by rw[Uw,Uw];omega
 have Ox:¬(!its.toArray.isEmpty&&Builtin.List.listTooLong (its.toArray.size+its2.toArray.size))=true:=by
  rw[sg hsz,Bool.and_false];exact UR
 refine Wq F.slot_list_extend ⟨_,e,rfl⟩ F.entry_list_extend (F.args_list_extend_2 _ _)
  (AutoSeq1.list_extend_list_list_0 l its.toArray n b its2.toArray n2 Ox (by rw[Uw];omega) (by omega)) ⟨e,e2,?_⟩
 refine⟨.non,_,I.Ow (its':=its++its2) hH e (by simp) (r.append r2) ?_,rfl,q⟩;rw[Um];omega
noncomputable def Ha:V->List V->Hp->VK->Prop:=λx vs H Q=>∃l xs y,x = .ref l/\vs=[]/\H l=some (.lst xs)/\xs[xs.length - 1]?=some y/\Q y (upd H l (.lst xs.dropLast))
def Dj:Fx X "list.pop" Ha:=by
 intro pins s σ H x vs v us Q I rx rv h;obtain⟨l,xs,y,rfl,rfl,hH,hy,q⟩:=h;cases rx;have SZ:=rv.zero;subst SZ;obtain⟨z,its,n,r,hl,e⟩:=I.M4 hH;obtain⟨u,hu,ru⟩:=r.get hy;have hy':its.toArray[its.toArray.size - 1]?=some u:=by
  show its.toArray[its.length - 1]?=some u;rw[<-Array.getElem?_toList,<-hl];exact hu
 refine Wq F.slot_list_pop ⟨_,e,rfl⟩ F.entry_list_pop (F.args_list_pop_1 _) (MeetsSeq.list_pop_last l its.toArray n u hy' (by rw[Uw];omega)) ⟨e,?_⟩;refine⟨y,_,I.Ow (its':=its.dropLast) hH e ?_ r.dropLast ?_,ru,q⟩
 .show its.toArray.eraseIdxIfInBounds (its.toArray.size - 1)=its.dropLast.toArray;rw[Uw,XF,t6]
 .rw[List.length_dropLast];omega
noncomputable def Dk:V->List V->Hp->VK->Prop:=λx vs H Q=>∃l xs i k y,x = .ref l/\vs=[.int i]/\H l=some (.lst xs)/\-(2 ^ 63)<=i/\i < 2 ^ 63/\seqIndex? i xs.length=some k/\xs[k]?=some y/\Q y (upd H l (.lst (xs.eraseIdx k)))
def xR:Fx X "list.pop" Dk:=by
 intro pins s σ H x vs v us Q I rx rv h;obtain⟨l,xs,i,k,y,rfl,rfl,hH,h1,h2,hk,hy,q⟩:=h;cases rx;obtain⟨u,rfl,ru⟩:=rv.one;obtain⟨t,rfl⟩:=ru;obtain⟨z,its,n,r,hl,e⟩:=I.M4 hH;obtain⟨w,hw,rw'⟩:=r.get hy;refine Wq F.slot_list_pop ⟨_,e,rfl⟩ F.entry_list_pop (F.args_list_pop_2 _ _)
  (MeetsSeq.list_pop_at l its.toArray n i t k w (fitsIndex_both h1 h2) (by rw[Uw,<-hl];exact hk) (by rw[<-Array.getElem?_toList];exact hw) (by rw[Uw];omega)) ⟨e,?_⟩
 refine⟨y,_,I.Ow (its':=its.eraseIdx k) hH e ?_ (r.eraseIdx k) ?_,rw',q⟩
 .show its.toArray.eraseIdxIfInBounds k=(its.eraseIdx k).toArray;rw[XF]
 .have:=pB xs k;omega
def Hb:R2:=λx y H Q=>∃l b xs zs,x = .ref l/\y = .ref b/\H l=some (.lst xs)/\H b=some (.lst zs)/\xs.length+zs.length<=sizeLine/\∀p,H p=none->Q (.ref p) (upd H p (.lst (xs++zs)))
def Dl:jD X (binaryOp .Add) Hb:=by
 walk_at "4";obtain⟨l,b,xs,zs,rfl,rfl,hH,hB,hz,q⟩:=h;cases rx;cases ry;obtain⟨z,its,n,r,hl,e⟩:=I.M4 hH;obtain⟨z2,its2,n2,r2,hl2,e2⟩:=I.M4 hB;refine PySem.P.add_list e e2 ?_ (by rw[Uw,Uw];omega);have ea:its.toArray++its2.toArray=(its++its2).toArray:=by simp
 rw[ea];exact⟨.ref _,_,I.Qf (t':=s.toks) (r.append r2) (by rw[Um];omega),rfl,q _ I.fresh⟩
def Hc:R2:=λx y H Q=>∃l k xs,x = .ref l/\y = .int k/\H l=some (.lst xs)/\-(2 ^ 63)<=k/\k < 2 ^ 63/\xs.length * k.toNat<=sizeLine/\
 ∀p,H p=none->Q (.ref p) (upd H p (.lst (List.replicate k.toNat xs).flatten))
def Ar{α:Type}(xs:List α)(k:Nat):(List.replicate k xs).flatten.length=k * xs.length:=by
 induction k with
 |zero=>simp
 |succ k ih=>rw[U1,VW,Um,ih,Nat.succ_mul,Nat.add_comm]
def Dm:jD X (binaryOp .Mult) Hc:=by
 walk_at "4";obtain⟨l,k,xs,rfl,rfl,hH,h1,h2,hz,q⟩:=h;cases rx;obtain⟨t,rfl⟩:=ry;obtain⟨z,its,n,r,hl,e⟩:=I.M4 hH;have hlen:its.toArray.size * k.toNat<=sizeLine:=by rw[Uw,<-hl];exact hz
 have hcap:¬its.toArray.size * k.toNat > (2 ^ 63 - 1) / 8:=by
  have:(sizeLine:Nat)<=(2 ^ 63 - 1) / 8:=by decide
  omega
 have hfit:¬(!Builtin.List.listFitsIndex k)=true:=by
  rw[fitsIndex_both h1 h2];exact UR
 have Ox:¬Builtin.List.listTooLong (its.toArray.size * k.toNat)=true:=by
  rw[sg hlen];exact UR
 have hnew:List.foldl (λx1 x2=>x1++x2) #[] (List.replicate (if its.toArray.isEmpty=true then 0 else k.toNat) its.toArray)=(List.replicate k.toNat its).flatten.toArray:=by
  have f0:∀m:Nat,List.foldl (λx1 x2=>x1++x2) #[] (List.replicate m its.toArray)=(List.replicate m its).flatten.toArray:=λm=>by
   have:=lD its m [];rw[UX]at this;exact this
  rw[f0];cases its with
  |nil=>simp
  |cons a r'=>rw[if_neg (by simp)]
 refine wpAny_binaryOp_repeat_ref (T:="list") (U:="int") (by decide) ⟨_,e,rfl⟩ (λs'=>typeIs_int s' k t) noFill_list_mul F.fills_int_mul Yc repeat_list F.slot_int_index.lookup
  (Wq Yc (typeIs_int s k t) F.entry_int_rmul (F.args_int_rmul_2 _ _) (int___rmul___int_list k t l its.toArray n)
   ⟨e,rfl,⟨_,e,rfl⟩,Wq F.slot_list_mul ⟨_,e,rfl⟩ F.entry_list_mul (F.args_list_mul_2 _ _) (AutoListH.list___mul___list_int_3 l its.toArray n k t hfit hcap Ox) ⟨e,?_⟩⟩)
 rw[hnew];exact⟨.ref _,_,I.Qf (t':=s.toks) (r.rep k.toNat) (by rw[Ar,Nat.mul_comm];exact hz),rfl,q _ I.fresh⟩
end
section
variable {κ:Type} [DecidableEq κ]
noncomputable def jV(kvs:List (κ×V))(k:κ):Option V:=(kvs.find? λkv=>decide (kv.1=k)).map (·.2)
noncomputable def iJ(kvs:List (κ×V))(k:κ)(v:V):List (κ×V):=
 if (kvs.any λkv=>decide (kv.1=k))=true then kvs.map (λkv=>if kv.1=k then (kv.1,v) else kv) else kvs++[(k,v)]
def KL{p:κ×V}{r:List (κ×V)}{k:κ}(e:p.1=k):jV (p::r) k=some p.2:=by simp[jV,List.find?_cons,e]
def KM{p:κ×V}{r:List (κ×V)}{k:κ}(e:¬p.1=k):jV (p::r) k=jV r k:=by simp[jV,List.find?_cons,e]
theorem nw(k:κ):∀kvs:List (κ×V),(kvs.any λkv=>decide (kv.1=k))=(jV kvs k).isSome
 |[]=>rfl
 |p::r=>by
  rw[XQ];by_cases e:p.1=k
  .simp only[KL e,UO e,Bool.true_or,Option.isSome_some]
  .rw[KM e,UG e,Bool.false_or];exact nw k r
def iK(kvs:List (κ×V))(k:κ)(v:V):(iJ kvs k v).length<=kvs.length+1:=by
 unfold iJ
 split
 .rw[Ul];omega
 .rw[Um,UE,UN];omega
def RelO.KN{o:Option V}{u:Option Value}(r:RelO o u):o.isSome=u.isSome:=by
 cases o with
 |none=>cases u with
  |none=>rfl
  |some _=>exact(show False from r).elim
 |some _=>cases u with
  |none=>exact(show False from r).elim
  |some _=>rfl
theorem RelO.getD{o:Option V}{u:Option Value}{d:V}{d':Value}(r:RelO o u)(rd:RelV d d'):RelV (o.getD d) (u.getD d'):=by
 cases o with
 |none=>cases u with
  |none=>exact rd
  |some _=>exact(show False from r).elim
 |some _=>cases u with
  |none=>exact(show False from r).elim
  |some _=>exact r
def KV.val{kvs:List (κ×V)}{vs:List (κ×Value)}(r:KV kvs vs)(k:κ):RelO (jV kvs k) (valueAt vs k):=by
 unfold KV at r
 induction r with
 |nil=>exact True.intro
 |@cons p q ps qs h t ih=>
  obtain⟨h1,h2⟩:=h;by_cases e:p.1=k
  .have e':q.1=k:=h1.symm.trans e;have b:valueAt (q::qs) k=some q.2:=by simp[valueAt,List.find?_cons,e']
   rw[KL e,b];exact h2
  .have e':¬q.1=k:=λz=>e (h1.trans z);have b:valueAt (q::qs) k=valueAt qs k:=by simp[valueAt,List.find?_cons,e']
   rw[KM e,b];exact ih
theorem KV.any{kvs:List (κ×V)}{vs:List (κ×Value)}(r:KV kvs vs)(k:κ):(kvs.any λkv=>decide (kv.1=k))=vs.any λkv=>decide (kv.1=k):=by
 unfold KV at r
 induction r with
 |nil=>rfl
 |cons h t ih=>rw[XQ,XQ,ih,h.1]
def KV.repl{kvs:List (κ×V)}{vs:List (κ×Value)}(r:KV kvs vs)(k:κ){y:V}{u:Value}(ry:RelV y u) :
  KV (kvs.map λkv=>if kv.1=k then (kv.1,y) else kv) (vs.map λkv=>if kv.1=k then (kv.1,u) else kv):=by
 unfold KV at r ⊢
 induction r with
 |nil=>exact .nil
 |@cons p q ps qs h t ih=>
  rw[UA,UA];refine .cons ?_ ih;obtain⟨h1,h2⟩:=h;by_cases e:p.1=k
  .rw[if_pos e,if_pos (h1.symm.trans e)];exact⟨h1,ry⟩
  .rw[if_neg e,if_neg (λz=>e (h1.trans z))];exact⟨h1,h2⟩
def KV.put{kvs:List (κ×V)}{vs:List (κ×Value)}(r:KV kvs vs)(k:κ){y:V}{u:Value}(ry:RelV y u):KV (iJ kvs k y) (stored vs k u):=by
 unfold iJ stored;rw[r.any k];by_cases e:(vs.any λkv=>decide (kv.1=k))=true
 .rw[if_pos e,if_pos e];exact r.repl k ry
 .rw[if_neg e,if_neg e];exact Paired.snoc r ⟨rfl,ry⟩
theorem KV.length{kvs:List (κ×V)}{vs:List (κ×Value)}(r:KV kvs vs):kvs.length=vs.length:=Paired.length r
end
def ny{P:Program}{w:World}{k:bN}{u:Value}(r:RelV (kV k) u):(bi P w).is k u=true:=by
 cases k with
 |inl i=>obtain⟨t,e⟩:=(show ∃t,u=Value.int i t from r);subst e;exact rZ P w i t
 |inr x=>obtain⟨t,e⟩:=(show ∃t,u=Value.str x t from r);subst e;exact r_ P w x t
theorem pC{P:Program}{w:World}:∀{ks:List bN}{us:Vv},Vals (ks.map kV) us->ItemsAre (bi P w) ks us
 |[],_,r=>by rw[U4]at r;cases r;exact .nil
 |k::ks,_,r=>by
  rw[UA]at r;cases r with
  |cons h t=>exact .cons (ny h) (pC t)
noncomputable abbrev KT(H:Hp):List (List bN×V)->List (List bN×Addr×Value)->Prop:=Paired λp q=>p.1=q.1/\H q.2.1=some (.tup (p.1.map kV))/\RelV p.2 q.2.2
def KT.val{H:Hp}{kvs:List (List bN×V)}{xs:List (List bN×Addr×Value)}(r:KT H kvs xs)(k:List bN):RelO (jV kvs k) ((atKey xs k).map (·.2)):=by
 induction r with
 |nil=>exact True.intro
 |@cons p q ps qs h t ih=>
  obtain⟨h1,_,h2⟩:=h;by_cases e:p.1=k
  .have e':q.1=k:=h1.symm.trans e;have b:atKey (q::qs) k=some q.2:=by simp[atKey,List.find?_cons,e']
   rw[KL e,b];exact h2
  .have e':¬q.1=k:=λz=>e (h1.trans z);have b:atKey (q::qs) k=atKey qs k:=by simp[atKey,List.find?_cons,e']
   rw[KM e,b];exact ih
def KT.repl{H:Hp}{kvs:List (List bN×V)}{xs:List (List bN×Addr×Value)}(r:KT H kvs xs)(k:List bN){y:V}{u:Value}(ry:RelV y u) :
  KT H (kvs.map λkv=>if kv.1=k then (kv.1,y) else kv) (xs.map (putAt k u)):=by
 induction r with
 |nil=>exact .nil
 |@cons p q ps qs h t ih=>
  rw[UA,UA];refine .cons ?_ ih;obtain⟨h1,h2,h3⟩:=h;unfold putAt;by_cases e:p.1=k
  .rw[if_pos e,if_pos (h1.symm.trans e)];exact⟨h1,h2,ry⟩
  .rw[if_neg e,if_neg (λz=>e (h1.trans z))];exact⟨h1,h2,h3⟩
def KT.put{H:Hp}{kvs:List (List bN×V)}{xs:List (List bN×Addr×Value)}(r:KT H kvs xs)(k:List bN){b:Addr}{y:V}{u:Value}(hb:H b=some (.tup (k.map kV)))(ry:RelV y u) :
  KT H (iJ kvs k y) (storedH xs k b u):=by
 have e:(kvs.any λkv=>decide (kv.1=k))=(atKey xs k).isSome:=by
  rw[nw,(r.val k).KN,Ym]
 unfold iJ storedH;rw[e];by_cases q:(atKey xs k).isSome=true
 .rw[if_pos q,if_pos q];exact r.repl k ry
 .rw[if_neg q,if_neg q];exact Paired.snoc r ⟨rfl,hb,ry⟩
def KT.keeps{H H':Hp}{kvs:List (List bN×V)}{xs:List (List bN×Addr×Value)}(r:KT H kvs xs)(ht:∀b ys,H b=some (.tup ys)->H' b=some (.tup ys)):KT H' kvs xs:=
 Paired.Pu r λ_ _ z=>⟨z.1,ht _ _ z.2.1,z.2.2⟩
section
variable {P:Program}{w:World}{H:Hp}{h:Heap}{a:Addr}
def BP{u:HO}(ok:Lz P w H h)(e:Rd H a u):Jl P w H h a u:=e.ok ok
def pD{kvs:List (bN×V)}(ok:Lz P w H h)(e:Rd H a (.dK kvs)):kvs.length<=sizeLine/\(a == sysModules)=false/\∃vs,KV kvs vs/\h.DictOf (bi P w) a vs:=
 show Jl P w H h a (.dK kvs)from BP ok e
def BQ{kvs:List (bN×V)}(ok:Lz P w H h)(e:H a=some (.dK kvs)):kvs.length<=sizeLine/\(a == sysModules)=false/\∃vs,KV kvs vs/\h.DictOf (bi P w) a vs:=pD ok (.inl e)
def fR{ks:List bN}(ok:Lz P w H h)(e:H a=some (.tup (ks.map kV))):(tupleKind (bi P w)).is h ks a:=by
 obtain⟨_,its,r,o,h1,_,h2,n,h3⟩:=(show Jl P w H h a (.tup (ks.map kV))from ok a _ e)
 exact⟨o,its.toArray,n,h1,h2,h3,by simpa using pC r⟩
def sh{kvs:List (List bN×V)}(ok:Lz P w H h)(e:Rd H a (.dT kvs)):kvs.length<=sizeLine/\(a == sysModules)=false/\
  ∃xs,KT H kvs xs/\h.DictOfH (tupleKind (bi P w)) a xs:=by
 obtain⟨z,y,xs,r,o,es,ep,h1,h2,h3,h4,h5⟩:=(show Jl P w H h a (.dT kvs)from BP ok e)
 refine⟨z,y,xs,r,o,es,ep,h1,h2,h3,h4,λx hx=>?_,h5⟩;have all:∀{l:List (List bN×V)}{m:List (List bN×Addr×Value)},KT H l m->∀x∈m,(tupleKind (bi P w)).is h x.1 x.2.1:=by
  intro l m q
  induction q with
  |nil=>intro x hx;exact nomatch hx
  |@cons p q ps qs hq t ih=>
   intro x hx;rcases Uv.mp hx with e|hx
   .subst e;exact fR ok (by rw[<-hq.1];exact hq.2.1)
   .exact ih x hx
 exact all r x hx
def Fy{kvs:List (List bN×V)}(ok:Lz P w H h)(e:H a=some (.dT kvs)):kvs.length<=sizeLine/\(a == sysModules)=false/\
  ∃xs,KT H kvs xs/\h.DictOfH (tupleKind (bi P w)) a xs:=sh ok (.inl e)
end
def DGet(H:Hp)(a:Addr)(y:V)(r:Option V):Prop:=
 (∃kvs k,Rd H a (.dK kvs)/\y=kV k/\r=jV kvs k)\/∃kvs k b,Rd H a (.dT kvs)/\y = .ref b/\H b=some (.tup (k.map kV))/\r=jV kvs k
def Oy(H:Hp)(a:Addr)(y v:V)(H':Hp):Prop:=
 (∃kvs k,H a=some (.dK kvs)/\y=kV k/\kvs.length < sizeLine/\H'=upd H a (.dK (iJ kvs k v))) \/
 ∃kvs k b,H a=some (.dT kvs)/\y = .ref b/\H b=some (.tup (k.map kV))/\kvs.length < sizeLine/\H'=upd H a (.dT (iJ kvs k v))
theorem DGet.k{H:Hp}{a:Addr}{kvs:List (bN×V)}{k:bN}(e:H a=some (.dK kvs)):DGet H a (kV k) (jV kvs k):=.inl ⟨kvs,k,.inl e,rfl,rfl⟩
theorem Oy.k{H:Hp}{a:Addr}{kvs:List (bN×V)}{k:bN}{v:V}(e:H a=some (.dK kvs))(hl:kvs.length < sizeLine):Oy H a (kV k) v (upd H a (.dK (iJ kvs k v))):=.inl ⟨kvs,k,e,rfl,hl,rfl⟩
section
variable {X:Cx}{pins:Va}{σ:St}{H:Hp}{s:Shared}{a:Addr}{y v:V}{u r:Value}{o:Option V}{A:Around}{E:Vq}
def Inv.big(I:Inv X pins σ H s):sysModules < s.heap.objs.size:=by
 have h:mainGlobals < s.heap.objs.size:=(I.mod.glob.keeps I.bk).lt;exact Yq (by decide) h
def v9{Q:Vq}(hu:A.units+1 < cLine)(I:Inv X pins σ H s)(g:DGet H a y (some v))(ry:RelV y u)(h:∀w' s',Inv X pins σ H s'->RelV v w'->Q w' s') :
  wpAny (model X.prog X.w) A (getItem (.ref a) u) Q E s:=by
 rcases g with⟨kvs,k,e,ey,l⟩|⟨kvs,k,b,e,ey,eb,l⟩
 .subst ey;obtain⟨z,hd,vs,rel,dd⟩:=pD I.hok e;obtain⟨w',hw,rw'⟩:=RelO.some_of (v:=v) (o:=valueAt vs k) (by rw[l];exact rel.val k);exact wpAny_getItem_of (ny ry) dd.mapOf hw (h w' _ (I.tok _) rw')
 .subst ey;cases (show u=Value.ref b from ry);obtain⟨z,hd,xs,rel,dd⟩:=sh I.hok e;obtain⟨w',hw,rw'⟩:=RelO.some_of (v:=v) (o:=(atKey xs k).map (·.2)) (by rw[l];exact rel.val k);obtain⟨p,hp,hp2⟩:=VC.mp hw;refine wpAny_getItem_heap (Xg hu) (fR I.hok eb) dd hp ?_;rw[hp2];exact h w' _ (I.tok _) rw'
def Fz{Q:Vq}(hu:A.units+1 < cLine)(I:Inv X pins σ H s)(g:DGet H a y o)(ry:RelV y u)(h:∀s',Inv X pins σ H s'->Q (.bool o.isSome) s') :
  wpAny (model X.prog X.w) A (compareOp .In u (.ref a)) Q E s:=by
 rcases g with⟨kvs,k,e,ey,l⟩|⟨kvs,k,b,e,ey,eb,l⟩
 .subst ey;obtain⟨z,hd,vs,rel,dd⟩:=pD I.hok e;refine wpAny_in_of (ny ry) hd dd.mapOf ?_;rw[<-(rel.val k).KN,<-l];exact h _ (I.tok _)
 .subst ey;cases (show u=Value.ref b from ry);obtain⟨z,hd,xs,rel,dd⟩:=sh I.hok e;refine wpAny_in_heap (Xg hu) (fR I.hok eb) hd dd ?_;have q:=(rel.val k).KN;rw[Ym]at q;rw[<-q,<-l];exact h _ (I.tok _)
def u_{Q:Vq}(hu:A.units+1 < cLine)(I:Inv X pins σ H s)(g:DGet H a y o)(ry:RelV y u)(h:∀s',Inv X pins σ H s'->Q (.bool (!o.isSome)) s') :
  wpAny (model X.prog X.w) A (compareOp .NotIn u (.ref a)) Q E s:=by
 rcases g with⟨kvs,k,e,ey,l⟩|⟨kvs,k,b,e,ey,eb,l⟩
 .subst ey;obtain⟨z,hd,vs,rel,dd⟩:=pD I.hok e;refine wpAny_notIn_of (ny ry) hd dd.mapOf ?_;rw[<-(rel.val k).KN,<-l];exact h _ (I.tok _)
 .subst ey;cases (show u=Value.ref b from ry);obtain⟨z,hd,xs,rel,dd⟩:=sh I.hok e;refine wpAny_notIn_heap (Xg hu) (fR I.hok eb) hd dd ?_;have q:=(rel.val k).KN;rw[Ym]at q;rw[<-q,<-l];exact h _ (I.tok _)
def qq{h':Heap}{t':Nat}{ob:HO}(I:Inv X pins σ H s)(mu:EZ (H a))(hs:Heap.SameBut a s.heap h')(he:∃q,h'.get? a=some q)(new:Jl X.prog X.w (upd H a ob) h' a ob) :
  Inv X pins σ (upd H a ob) { s with heap:=h',toks:=t' }:=
 I.write (x:=a) (e:=a) mu (.inl rfl) (λb q hb z=>(hs.2 b hb).trans z) he new
def xS{P:Program}{w:World}{H':Hp}{h':Heap}{kvs:List (bN×V)}{vs:List (bN×Value)}(z:kvs.length<=sizeLine)(hd:(a == sysModules)=false)(rel:KV kvs vs)(dd:h'.DictOf (bi P w) a vs) :
  Jl P w H' h' a (.dK kvs):=⟨z,hd,vs,rel,dd⟩
def v_{H':Hp}{Q:Unit->Shared->Prop}(hu:A.units+1 < cLine)(I:Inv X pins σ H s)(g:Oy H a y v H')(ry:RelV y u)(rv:RelV v r)(h:∀s',Inv X pins σ H' s'->Q () s') :
  wpAny (model X.prog X.w) A (setItem (.ref a) u r) Q E s:=by
 rcases g with⟨kvs,k,e,ey,l,eH⟩|⟨kvs,k,b,e,ey,eb,l,eH⟩
 .subst ey eH;obtain⟨z,hd,vs,rel,dd⟩:=BQ I.hok e;have hz:vs.length<=sizeLine:=by rw[<-rel.length];exact z
  have hl:(iJ kvs k v).length<=sizeLine:=by have:=iK kvs k v;omega
  refine wpAny_setItem_pairs (hsz:=hz) (ny ry) dd λh' PD hs=>h _ ?_;have he:∃q,h'.get? a=some q:=let ⟨q,_,_,hq,_⟩:=PD;⟨q,hq⟩
  exact qq I (by rw[e];exact True.intro) hs he (xS hl hd (rel.put k rv) PD)
 .subst ey eH;cases (show u=Value.ref b from ry);obtain⟨z,hd,xs,rel,dd⟩:=Fy I.hok e;have hz:xs.length<=sizeLine:=by rw[<-Paired.length rel];exact z
  have hl:(iJ kvs k v).length<=sizeLine:=by have:=iK kvs k v;omega
  refine wpAny_setItem_heap (hsz:=hz) (Xg hu) (fR I.hok eb) dd λh' PD hs=>h _ ?_;obtain⟨q,es,ep,hq,h2,h3,h4,_,h5⟩:=PD;refine qq I (by rw[e];exact True.intro) hs ⟨q,hq⟩ ⟨hl,hd,_,(rel.put k eb rv).keeps λc ys ec=>?_,q,es,ep,hq,h2,h3,h4,h5⟩;rw[aM (EY ec e (λz=>nomatch z))];exact ec
end
section
variable {X:Cx}{pins:Va}{σ:St}{H:Hp}{s:Shared}{a:Addr}{kvs:List (bN×V)}{k:bN}{u:Value}{A:Around}{E:Vq}
def FA{Q:Vq}(I:Inv X pins σ H s)(e:Rd H a (.dK kvs))(h:∀t s',Inv X pins σ H s'->Q (.int kvs.length t) s'):wpAny (model X.prog X.w) A (call (.builtin "len") [.ref a]) Q E s:=by
 obtain⟨z,hd,vs,rel,dd⟩:=pD I.hok e;refine call_len_dict hd dd (by rw[<-rel.length];rw[sizeLine_eq]at z;omega) ?_;rw[<-rel.length];exact h _ _ (I.tok _)
end
def si{X:Cx}{pins:Va}{σ:St}{H:Hp}{s:Shared}{a:Addr}{y:V}{o:Option V}(I:Inv X pins σ H s)(g:DGet H a y o):s.TypeIs (.ref a) "dict":=by
 rcases g with⟨kvs,k,e,_,_⟩|⟨kvs,k,b,e,_,_,_⟩
 .obtain⟨_,_,vs,_,dd⟩:=pD I.hok e;exact dd.typeIs
 .obtain⟨_,_,xs,_,dd⟩:=sh I.hok e;exact dd.typeIs
def xT{P:Program}{w:World}{H:Hp}(h:Heap)(hb:sysModules < h.objs.size):Jl P w H (h.push { cls:=.type "dict",data:=.dict #[] }) h.objs.size (.dK []):=
 ⟨UT _,Yd.mpr (Ww (US hb)),[],.nil,Heap.DictOf.new h⟩
noncomputable def qr:List (TE×TE)->St->Hp->(List (V×V)->Hp->Prop)->Prop
 |[],_,H,Q=>Q [] H
 |(tk,tv)::r,σ,H,Q=>tk σ H λx H1=>tv σ H1 λy H2=>qr r σ H2 λps H3=>Q ((x,y)::ps) H3
noncomputable abbrev VV:List (V×V)->List (Value×Value)->Prop:=Paired λp q=>RelV p.1 q.1/\RelV p.2 q.2
def FB(X:Cx)(pos:Pos)(keys:List (Option Expr))(values:List Expr)(MC:List (TE×TE)):Prop:=
 ∀(pins:Va)(s:Shared)(σ:St)(H:Hp)(Q:List (V×V)->Hp->Prop),Inv X pins σ H s->qr MC σ H Q->
  wpAny (model X.prog X.w) X.A (evalPairs (pairTrees keys values X.env pos)) (λvs s'=>∃ps H',Inv X pins σ H' s'/\VV ps vs/\Q ps H') X.xe s
def As{X:Cx}{pos:Pos}:FB X pos [] [] []:=λpins s σ H Q I h=>pairTrees_nil_walk ⟨[],H,I,.nil,h⟩
def xU{X:Cx}{pos:Pos}{k v:Expr}{ks:List (Option Expr)}{vs:List Expr}{tk tv:TE}{MC:List (TE×TE)}(hk:PE X k tk)(hv:PE X v tv)(hr:FB X pos ks vs MC) :
  FB X pos (some k::ks) (v::vs) ((tk,tv)::MC):=λpins s σ H Q I h=>
 pairTrees_cons_walk (IK (hk pins s σ H _ I h) λu s1 ⟨x,H1,I1,rx,q1⟩=>IK (hv pins s1 σ H1 _ I1 q1) λw2 s2 ⟨y,H2,I2,ry,q2⟩=>
  IK (hr pins s2 σ H2 _ I2 q2) λws s3 ⟨ps,H3,I3,rel,q3⟩=>⟨(x,y)::ps,H3,I3,.cons ⟨rx,ry⟩ rel,q3⟩)
noncomputable def lE(kvs more:List (bN×V)):List (bN×V):=more.foldl (λacc kv=>iJ acc kv.1 kv.2) kvs
def KV.merge:∀{more:List (bN×V)}{rs:List (bN×Value)}{kvs:List (bN×V)}{vs:List (bN×Value)},KV more rs->KV kvs vs->KV (lE kvs more) (merged vs rs):=by
 intro more rs kvs vs r;unfold KV at r
 induction r generalizing kvs vs with
 |nil=>intro q;exact q
 |@cons p q ps qs h t ih=>
  intro r0;have e:KV (iJ kvs p.1 p.2) (stored vs q.1 q.2):=by
   have:=r0.put p.1 h.2;rw[<-h.1];exact this
  exact ih e
theorem jJ:∀(more kvs:List (bN×V)),(lE kvs more).length<=kvs.length+more.length
 |[],kvs=>by show kvs.length<=kvs.length+0;omega
 |p::r,kvs=>by
  have h1:=jJ r (iJ kvs p.1 p.2);have h2:=iK kvs p.1 p.2;show(lE (iJ kvs p.1 p.2) r).length<=_;rw[UE];omega
theorem nA{P:Program}{w:World}:∀{kvs:List (bN×V)}{ws:List (Value×Value)},VV (kvs.map λkv=>(kV kv.1,kv.2)) ws->∃rs,Carries (bi P w) ws rs/\KV kvs rs
 |[],_,r=>by rw[U4]at r;cases r;exact⟨[],True.intro,.nil⟩
 |p::kvs,_,r=>by
  rw[UA]at r;cases r with
  |@cons a b as bs h t=>
   obtain⟨rs,c,q⟩:=nA (P:=P) (w:=w) t;obtain⟨b1,b2⟩:=b;exact⟨(p.1,b2)::rs,⟨ny h.1,rfl,c⟩,.cons ⟨rfl,h.2⟩ q⟩
def FC(MC:List (TE×TE)):TE:=λσ H Q=>∀p,H p=none->qr MC σ (upd H p (.dK [])) λps H2=>H2 p=some (.dK [])/\∃kvs:List (bN×V),ps=kvs.map (λkv=>(kV kv.1,kv.2))/\kvs.length<=15/\Q (.ref p) (upd H2 p (.dK (lE [] kvs)))
def At{X:Cx}{pos:Pos}{keys:List (Option Expr)}{values:List Expr}{MC:List (TE×TE)}(h:FB X pos keys values MC)(hall:keys.all (·.isSome)=true)(hl:keys.length=values.length)(h0:keys≠[])
  (Re:keys.length<=15):PE X (.Dict keys values pos) (FC MC):=by
 intro pins s σ H Q I q;have hn:=I.hok.fresh (Uo s.heap.objs.size);have I1:=I.laid (a:=s.heap.objs.size) (o:=.dK []) (h':=s.heap.push { cls:=.type "dict",data:=.dict #[] }) (t':=s.toks) (λ_ _ q=>Up _ q) (Uo _) (xT s.heap I.big);refine wpAny_Dict_walk (knd:=bi X.prog X.w) hall hl h0 Re (IK (h pins _ σ _ _ I1 (q _ hn)) λws s2 ⟨ps,H2,I2,rel,e,kvs,ep,lk,q2⟩=>?_);subst ep;obtain⟨rs,c,rk⟩:=nA (P:=X.prog) (w:=X.w) rel;obtain⟨z,hd,vs0,r0,dd⟩:=BQ I2.hok e;cases r0;refine⟨rs,c,dd,λh' PD hs=>⟨.ref s.heap.objs.size,_,?_,rfl,q2⟩⟩;have hz:(lE [] kvs).length<=sizeLine:=by
  have h1:=jJ kvs [];rw[UN]at h1;rw[sizeLine_eq];omega
 have he:∃q,h'.get? s.heap.objs.size=some q:=let ⟨q,_,_,hq,_⟩:=PD;⟨q,hq⟩
 exact qq I2 (by rw[e];exact True.intro) hs he (xS hz hd (rk.merge .nil) PD)
structure M2(X:Cx)(o:Expr)(m:Str)(apos:Pos)(e f:Expr)(cpos:Pos):Prop where
 base:attributeBase o m X.env (eval o X.env)=eval o X.env
 few:((backTo cpos (starEach [e,f] X.env)).all (λx=>!x.1)&&(backToKw cpos (keywordEach [] X.env)).all (λx=>x.1.isSome)
  && decide (([e,f]:List Expr).length+([]:List Keyword).length+(if ([]:List Keyword).isEmpty then 0 else 1) < 30))=true
 line:(apos.endLine == cpos.line)=true
 trees:backTo cpos (starEach [e,f] X.env)=[(false,eval e X.env),(false,eval f X.env)]
end L2
namespace Att
open PySem PySem.W PySem.Calls PyProof.Rows
def mP{P:Params}{h:Heap}:∀(ns:Vu)(vs:Vv),WellAll P h vs (ns.map WData.int)->IntsAre vs ns:=by
 intro ns
 induction ns with
 |nil=>
  intro vs w;rw[U4]at w;cases w;exact .nil
 |cons n ns ih=>
  intro vs w;rw[UA]at w;cases w with
  |cons a b=>
   cases a;exact .cons _ _ (ih _ b)
def wa{l:OpenLaw}{n:Nat}(hn:l.most=some n){P:Params}{h:Heap}{args:List WData}{vals:Vv}
  (hpre:l.row.toRowW.claim.pre args=true) (hwl:WellAll P h vals args) :
  ∃a vs ns,vals=[Value.ref a]/\args=[WData.list (ns.map WData.int)]/\h.get? a=some { cls:=.type "list",data:=.seq vs.toArray }/\IntsAre vs ns/\ns.length<=n:=by
 have hsh:WShape.hasAll [] args [.list .int]=true:=(pre_splitW hpre).1;have hc:l.pre.holds [] { args:=args }=true:=(pre_splitW hpre).2;obtain⟨d,r,rfl,h1,h2⟩:=hasAllW_cons hsh;obtain rfl:=hasAllW_nil h2;obtain⟨xs,rfl,h3⟩:=hasW_list h1;obtain⟨ns,rfl⟩:=items_int h3;have hlen:ns.length<=n:=by
  unfold OpenLaw.pre at hc;have h4:(WTm.not (.lt (.lit (.int (n:Int))) (.len (.arg 0)))).holds [] { args:=[.list (ns.map .int)] }=true:=by
   have h4:=(holds_andW hc).1;rw[hn]at h4;exact h4
  have h5:=condW_of h4 (w_not (w_lt w_lit (w_len_list (w_arg rfl))));rw[Ul]at h5;refine Nat.le_of_not_lt λq=>?_;have q':(n:Int) < ((ns.length:Nat):Int):=by omega
  first
   |(rw[UO q']at h5;exact absurd h5 (by decide))
   |(simp at h5;omega)
 cases hwl with
 |cons w1 w2=>
  cases w2;cases w1 with
  |list ho hall=>exact⟨_,_,ns,rfl,rfl,ho,mP ns _ hall,hlen⟩
def wb(l:OpenLaw)(args:List WData):l.row.toRowW.claim.post args (.bool true) args=true:=
 postW_of (r:=l.row.toRowW) (X:=(true == true))
  (show WShape.has [] (.bool true) .bool=true by first|rfl|decide|simp[WShape.has,WShape.arms,WShape.armsAll])
  (show(WTm.eq .res (.lit (.bool true))).value [] { args:=args,res:=some (.bool true),after:=args }=some (.bool (true == true))from w_eq_bool (w_res rfl) w_lit) rfl
def sj{l:OpenLaw}{n:Nat}{q:Program}{loose:Vs}{XP:(Vr)->Heap->Prop}{YP:World->Heap->Prop}{d:DefRec}
  (hn:l.most=some n) (hdf:d.params.defaults=[])
  (call:∀(w:World)(s₀ s₁:Shared)(mg mb:Vr)(fa:Addr)(o:Obj)(pm cd doc:Value)(a:Addr)(vs:Vv)(ns:Vu),
   Ground q loose [] XP w s₀ mg mb s₁.heap->YP w s₁.heap->
   s₁.heap.get? fa=some o->o.data = .func (docDef d.name d.params d.body d.scope pm cd doc)->s₁.heap.CodeRec cd d.name->mg d.name=some (.ref fa)->
   s₁.heap.get? a=some { cls:=.type "list",data:=.seq vs.toArray }->IntsAre vs ns->ns.length<=n->s₁.gens=#[]->
   codeAny (model l.prog w) callerA (.call (.ref fa) ⟨[.ref a],[]⟩) (λr s'=>r = .ok (.ret (.bool true))/\OldK s₁.heap s'.heap/\s'.os=s₁.os/\AllBare s'.gens) s₁) :
  WalkO q loose XP YP l.row.toRowW d [] (λf vs=>PySem.call f vs):=by
 intro w s₀ s₁ mg mb G Y fa o pm cd doc dV kV ho hd hcd hD hmg hg args vals as hpre hlay hrd hwl hlo;obtain rfl:dV = .none:=Dflts.none hD hdf;obtain rfl:kV = .none:=Dflts.noKw hD;obtain⟨a,vs,ns,rfl,rfl,hobj,hints,hlen⟩:=wa hn hpre hwl;refine enter_call (codeAny_mono (call w s₀ s₁ mg mb fa o pm cd doc a vs ns G Y ho (fd_plain hd) hcd hmg hobj hints hlen hg) λr s' hq=>?_);obtain⟨rfl,h2,h3,h4⟩:=hq;exact⟨.inl ⟨.bool true,.bool true,[],rfl,λ_=>rfl,.bool true,wb l _,λ_=>⟨List.Pairwise.nil,λ_ hm=>(nomatch hm)⟩⟩,h2,h3,h4⟩
end Att
namespace L2
open PySem PySem.Spec PyProof.Rows
theorem pE:∀{vs:Vv}{ns:Vu},IntsAre vs ns->Vals (ns.map V.int) vs
 |_,_,.nil=>.nil
 |_,_,.cons n t h=>.cons ⟨t,rfl⟩ (pE h)
def Au(H:Hp):Prop:=∀b,H b=none\/∃o xs,H b=some (.frz o (.lst xs))
def xV{P:Program}{w:World}{K:Vo}{mg mb:Vr}{CX:zP}{k:Nat}{fa a:Addr}{fd:FuncData}{x:Str}{sp:Sp}{s₁:Shared}{vs:Vv}{ns:Vu}
  (KX:K.In s₁.heap) (hns:s₁.heap.Ns mainGlobals mg) (hb:s₁.heap.Ns builtinsNs mb) (S_:∀x:Str,x ≠ "__name__"->mb x=bootBuiltins x) (hlim:s₁.heap.NoLimit) (hg:s₁.gens=#[])
  (ha:s₁.heap.get? a=some { cls:=.type "list",data:=.seq vs.toArray }) (hi:IntsAre vs ns) (hl:ns.length<=sizeLine) (hr:Room k callerA)
  (F:∀base:Heap,K.In base->base.Ns mainGlobals mg->oN P w K mg base CX k fa fd [x] sp) (hbind:∀(s:Shared)(u:Value),BindsTo s fd ⟨[u],[]⟩ [(x,u)])
  (OL:∀H:Hp,Au H->SqL K H a (ns.map V.int)->sp [.ref a] H (λv _=>v = .bl true) λ_ _ _=>False)
  (Rf:∀H e s',CX [] H s₁ (λ_ _ _=>False) e s'->False) :
  codeAny (model P w) callerA (.call (.ref fa) ⟨[.ref a],[]⟩) (λr s'=>r = .ok (.ret (.bool true))/\OldK s₁.heap s'.heap/\s'.os=s₁.os/\AllBare s'.gens) s₁:=by
 have rv:=pE hi;have Rg:=hi.length
 -- from an abstract heap in which nothing but the script may be tracked
 have core:∀H:Hp,Au H->SqL K H a (ns.map V.int)->Lz P w H s₁.heap->(∀b,H b≠none->b=a)->(H a≠none->K.lookup a=none)->
   codeAny (model P w) callerA (.call (.ref fa) ⟨[.ref a],[]⟩) (λr s'=>r = .ok (.ret (.bool true))/\OldK s₁.heap s'.heap/\s'.os=s₁.os/\AllBare s'.gens) s₁:=by
  intro H hO hS hok hA hK;have NZ:∀{b:Addr}{o:Obj},s₁.heap.get? b=some o->H b=none->(qh s₁.heap H).get? b=some o:=λe n=>xu e n;have Qe:∀{b:Addr}{o:Obj}{es:Array DictEntry}{ep:Nat},s₁.heap.get? b=some o->o.data = .dict es ep->H b=none:=λ{b o es ep} e d=>by
   cases q:H b with
   |none=>rfl
   |some u=>
    have e':b=a:=hA b (by rw[q];simp);subst e';rw[ha]at e;cases e;have d':Data.seq vs.toArray _=Data.dict es ep:=d;cases d'
  have QH:∀{b:Addr}{m:Vr},s₁.heap.Ns b m->(qh s₁.heap H).Ns b m:=λ{b m} ⟨o,es,ep,e,d,r⟩=>⟨o,es,ep,NZ e (Qe e d),d,r⟩
  have Sc:K.In (qh s₁.heap H):=λb o e=>NZ (KX b o e) (by
   cases q:H b with
   |none=>rfl
   |some u=>
    have e':b=a:=hA b (by rw[q];simp);subst e';rw[hK (by rw[q];simp)]at e;cases e)
  have hM:Mod K mg (qh s₁.heap H):=⟨Sc,QH hns,⟨mb,QH hb,S_⟩,let ⟨mc,h1,h2⟩:=hlim;⟨mc,QH h1,h2⟩⟩
  have e0:Ai P w K mg (qh s₁.heap H) callerA [] s₁ H:=⟨rfl,hM,λb o e=>zS e,Yr (vU _ _),trivial,λb hb=>absurd (show b∈([]:List Addr)from hb) (by simp),hok,.of_eq hg⟩
  refine codeAny_mono ((F _ Sc (QH hns)).run callerA [] s₁ H ⟨[.ref a],[]⟩ [.ref a] [.ref a] _ _ hr e0 (hbind s₁ (.ref a)) (.cons rfl .nil) (OL H hO hS)) λr s' h=>?_;cases r with
  |error e=>exact(Rf H e s' h).elim
  |ok fl=>
   cases fl with
   |next=>exact False.elim h
   |brk=>exact False.elim h
   |cont=>exact False.elim h
   |ret u=>
    obtain⟨v,H',os,bare,un,Rh,r',q⟩:=h;have q':v = .bl true:=q;subst q';obtain rfl:u=Value.bool true:=r';refine⟨rfl,OldK.of_keep λb o e=>?_,os,bare⟩;cases q:H b with
    |none=>exact un.keep b o e q (by intro z;exact absurd (show b∈([]:List Addr)from z) (by simp)) (by simp)
    |some u=>
     rcases hO b with z|⟨ob,xs,z⟩
     .rw[q]at z;cases z
     .have z2:=un.M0 b ob _ z;obtain⟨e1,_⟩:=hok b _ z;obtain⟨e2,_⟩:=Rh b _ z2;rw[e]at e1;cases e1;exact e2
 cases hk:K.lookup a with
 |some o=>
  -- the script is one of the module's own objects
  have e:=KX a o hk;rw[ha]at e;cases e;refine core (λ_=>none) (λ_=>.inl rfl) (.inr ⟨_,vs.toArray,_,hk,rfl,rfl,rfl,by rw[Uw,Rg];exact hl,by simpa using rv⟩) (λb u z=>by have z':(none:Option HO)=some u:=z;cases z') (λb z=>absurd rfl z) λz=>absurd rfl z
 |none=>
  refine core (λb=>if b=a then some (.frz { cls:=.type "list",data:=.seq vs.toArray } (.lst (ns.map V.int))) else none) (λb=>?_) (.inl (.inr ⟨{ cls:=.type "list",data:=.seq vs.toArray },if_pos rfl⟩)) (λb u z=>?_) (λb z=>?_) λ_=>hk
  .by_cases hb:b=a
   .exact .inr ⟨_,_,if_pos hb⟩
   .exact .inl (if_neg hb)
  .by_cases hb:b=a
   .have z':=(if_pos hb).symm.trans z;cases z';subst hb;exact⟨ha,by rw[Ul];exact hl,vs,_,rv,ha⟩
   .have z':=(if_neg hb).symm.trans z;cases z'
  .by_cases hb:b=a
   .exact hb
   .exact absurd (if_neg hb) z
def Av{l:PySem.W.OpenLaw}{n k:Nat}{q:Program}{loose:Vs}{XP:(Vr)->Heap->Prop}{YP:World->Heap->Prop}{d:DefRec}{K:Params->PySem.W.Frag}{CX:World->zP}{sp:World->Sp}{x:Str}
  (hn:l.most=some n) (hn2:n<=sizeLine) (hdf:d.params.defaults=[]) (hr:Room k callerA)
  (hY:∀(w:World)(h:Heap),YP w h->(K w.params).In h)
  (F:∀(w:World)(mg:Vr)(fa:Addr)(h:Heap),(K w.params).In h->h.Ns mainGlobals mg->mg d.name=some (.ref fa)->
   ∃fd:FuncData,(∀(s:Shared)(u:Value),BindsTo s fd ⟨[u],[]⟩ [(x,u)])/\
    ∀base:Heap,(K w.params).In base->base.Ns mainGlobals mg->oN l.prog w (K w.params) mg base (CX w) k fa fd [x] (sp w))
  (OL:∀(w:World)(H:Hp)(a:Addr)(ns:Vu),ns.length<=n->Au H->SqL (K w.params) H a (ns.map V.int)->sp w [.ref a] H (λv _=>v = .bl true) λ_ _ _=>False)
  (Rf:∀(w:World) (H:Hp) (s:Shared) (e:Value) (s':Shared),CX w [] H s (λ_ _ _=>False) e s'->False) :
  PySem.W.WalkO q loose XP YP l.row.toRowW d [] (λf vs=>PySem.call f vs):=by
 refine Att.sj hn hdf λw s₀ s₁ mg mb fa o pm cd doc a vs ns G Y ho hd hcd hmg hobj hints hlen hg=>?_;have KX:=hY w _ Y;obtain⟨fd,hb,hF⟩:=F w mg fa _ KX G.T.g hmg;exact xV KX G.T.g G.T.b G.T.builtins G.T.nolimit hg hobj hints (UJ hlen hn2) hr hF hb (λH hO hS=>OL w H a ns hlen hO hS) λH e s'=>Rf w H s₁ e s'
noncomputable def cy(s:Stmt):Arguments:=match s with
 | .FunctionDef _ a _ _ _ _ _ _ _ _=>a
 |_=>{ posonlyargs:=[],args:=[],vararg:=none,kwonlyargs:=[],kw_defaults:=[],kwarg:=none,defaults:=[] }
noncomputable def bq(s:Stmt):List Stmt:=match s with
 | .FunctionDef _ _ b _ _ _ _ _ _ _=>b
 |_=>[]
noncomputable def aK(s:Stmt):Scope:=match s with
 | .FunctionDef _ _ _ _ _ _ sc _ _ _=>sc
 |_=>{ kind:=.function,names:=[],isGenerator:=false,isCoroutine:=false }
noncomputable abbrev zQ:zP:=λ_ _ _ _ _ _=>False
noncomputable abbrev E0:XK:=λ_ _ _=>False
def BR{X:Cx}:tX zQ X E0:=λ_ _ _ _ _ _ _ h=>h.elim
structure Pj(K:Vo)(x qual:Str)(st:Stmt)(f:Addr)(fd:FuncData):Prop where
 ex:∃(oc:Value)(od:Option Addr)(kV doc pm:Value)(an:Option Addr)(cdv ct:Value)(osl:Array (Option Value)),
  fd=PySem.W.fnOf x qual (cy st) (bq st) (aK st) .none kV doc pm an cdv ct/\K.lookup f=some ⟨oc,od,.func fd,osl⟩/\PySem.W.codeIn K cdv qual=true
 kp:PySem.W.keepIn K (.ref f)=true
section
variable {P:Program}{w:World}{K:Vo}{mg:Vr}{base:Heap}
def Pj.ok{x qual:Str}{st:Stmt}{f:Addr}{fd:FuncData}{N ps:Vs}{k:Nat}{sp:Sp}(F:Pj K x qual st f fd)(S:eE N ps (aK st))(len:∀vs H Q E,sp vs H Q E->vs.length=ps.length)
  (hbody:∀(cdv:Value)(A:Around)(outer:List Env)(s:Shared)(H:Hp)(vs:List V)(Q:VK)(E:XK),Room k (A.deeper (envOfC qual (aK st) s.heap.objs.size f cdv))->sp vs H Q E->
   ∃t,Nu (se zQ P w K mg base N qual (aK st) f cdv A outer s H E).Py (bq st) t/\t { nx:=λ_ H'=>Q .non H',rt:=Q } (start N vs) H):oN P w K mg base zQ (k+1) f fd ps sp:=by
 obtain⟨oc,od,kV,doc,pm,an,cdv,ct,osl,rfl,lk,hcd⟩:=F.ex;refine BO lk hcd S len λA outer s H vs Q E hr OL=>?_;obtain⟨t,h,q⟩:=hbody cdv A outer s H vs Q E hr OL;exact⟨t,h.Py,q⟩
def Pj.binds{x qual:Str}{st:Stmt}{f:Addr}{fd:FuncData}{ps:Vs}(F:Pj K x qual st f fd)
  (h:∀(kV doc pm:Value)(an:Option Addr)(cdv ct:Value)(us:Vv),us.length=ps.length->bindArgs (PySem.W.fnOf x qual (cy st) (bq st) (aK st) .none kV doc pm an cdv ct) ⟨us,[]⟩=pure (ps.zip us)):Binds K fd ps []:=by
 obtain⟨oc,od,kV,doc,pm,an,cdv,ct,osl,rfl,lk,hcd⟩:=F.ex;exact .all (h kV doc pm an cdv ct)
def qu{x qual:Str}{st:Stmt}{f:Addr}{oc:Value}{od an:Option Addr}{osl:Array (Option Value)}{kV doc pm cdv ct:Value}(l:K.lookup f=some ⟨oc,od,.func (PySem.W.fnOf x qual (cy st) (bq st) (aK st) .none kV doc pm an cdv ct),osl⟩)
  (c:PySem.W.codeIn K cdv qual=true) (k:PySem.W.keepIn K (.ref f)=true):Pj K x qual st f (PySem.W.fnOf x qual (cy st) (bq st) (aK st) .none kV doc pm an cdv ct):=⟨⟨oc,od,kV,doc,pm,an,cdv,ct,osl,rfl,l,c⟩,k⟩
end
def gq{n:Nat}(h:n<=1000):n < sizeLine:=WJ h (by decide)
section
variable {X:Cx}
def we:eR X (.builtin "len") (λxs H Q=>∃a kvs,xs=[V.ref a]/\H a=some (.dK kvs)/\Q (.int kvs.length) H):=by
 intro pins s σ H xs us Q I r h;obtain⟨a,kvs,rfl,ha,q⟩:=h;obtain⟨u,rfl,ru⟩:=eA r;cases ru;exact FA I (.inl ha) λt s' I'=>⟨.int kvs.length,H,I',⟨t,rfl⟩,q⟩
end
end L2
set_option maxHeartbeats 4000000
namespace L2
open PySem PySem.Spec PyProof.Rows
def qv{prog:Program}{w:World}{A:Around}{R:Result->Shared->Prop}{s:Shared}{elt target iter:Expr}{ifs:List Expr}{scope:Scope}{pos:Pos}{it acc:Value}{env:Env}(I:Nat->Shared->Prop)
  (turn:∀n s,I n s->wpAny (model prog w) A (pyNext it) (λr s₁=>match r with
   |none=>R (.ok .next) s₁
   |some v=>wpAny (model prog w) A (letOwnedTupleGo target it v) (λ_ s₁'=>wpAny (model prog w) A (assign target env v) (λ_ s₂=>
     wpAny (model prog w) A (forIn ifs true λc r=>if r=true then do let ok <-isTrue c env (eval c env);pure (ForInStep.yield ok) else pure (ForInStep.yield r)) (λok s₃=>
      if ok=true then wpAny (model prog w) A (eval elt env) (λx s₄=>
       wpAny (model prog w) A (call (.builtin "list.append") [acc,x]) (λ_ s₅=>∃m,m < n/\I m s₅) (λ_ _=>False) s₄) (λ_ _=>False) s₃
      else ∃m,m < n/\I m s₃) (λ_ _=>False) s₂) (λ_ _=>False) s₁') (λ_ _=>False) s₁) (λ_ _=>False) s)
  (n:Nat) (h:I n s) :
  codeAny (model prog w) A (.compLoop (.ListComp elt [⟨target,iter,ifs,0⟩] scope pos) 0 it acc env) R s:=by
 refine codeAny_loop rfl I (λn s hI=>?_) n h;show wpAny _ A ((compTurn (.ListComp elt [⟨target,iter,ifs,0⟩] scope pos) 0 it acc env).onRaise (λx=>do noteFrame x env;theTreesLotGoes x)) _ _ s;refine wpAny_noted ?_;rw[compTurn_list];refine Uk (wpAny_standAt (Uk (WH (turn n s hI) (λr s₁ h₁=>?_) λ_ _ h'=>h'.elim)));cases r with
 |none=>exact Uz h₁
 |some v=>
  refine Uk (WH h₁ (λ_ s₁' h₁'=>?_) λ_ _ h'=>h'.elim);refine Uk (WH h₁' (λ_ s₂ h₂=>Uk (WH h₂ (λok s₃ h₃=>?_) λ_ _ h'=>h'.elim)) λ_ _ h'=>h'.elim);cases ok with
  |false=>exact Uz ⟨rfl,h₃⟩
  |true=>
   exact Uk (Uk (WH h₃ (λx s₄ h₄=>Uk (WH h₄ (λ_ s₅ h₅=>Uz (Uz ⟨rfl,h₅⟩)) λ_ _ h'=>h'.elim)) λ_ _ h'=>h'.elim))
structure Bk where
 C:Addr
 s:Shared
 H:Hp
 fp:List Addr
 pn:Va
noncomputable def dG(env:Env)(fs:Vs):List (Str×Addr):=fs.map λx=>(x,(env.cells.lookup x).getD 0)
noncomputable abbrev Cx.Lu(X:Cx)(N:Vs)(scope:Scope)(fs:Vs)(B:Bk):Cx:=
 { X with N:=N,s₀:=B.s,H₀:=B.H,env:=compEnvC scope (dG X.env fs) B.C X.env,outer:=X.stack,ex:=B.fp,fn:=λ_=>false,pn:=B.pn,xe:=λ_ _=>False }
noncomputable def du(env:Env):List Str->Prop
 |[]=>True
 |x::r=>(∃c,env.cells.lookup x=some c)/\du env r
theorem mG{env:Env}:∀{fs:Vs},du env fs->∀{x:Str}{c:Addr},(dG env fs).lookup x=some c->env.cells.lookup x=some c
 |[],_,x,c,h=>by cases h
 |y::r,k,x,c,h=>by
  obtain⟨⟨d,hd⟩,k⟩:=k;have h':List.lookup x ((y,(env.cells.lookup y).getD 0)::dG env r)=some c:=h;rw[List.lookup_cons]at h';cases e:x == y with
  |true=>
   rw[e]at h';have e':x=y:=by simpa using e
   subst e';rw[hd]at h';rw[hd];exact h'
  |false=>
   rw[e]at h';exact mG k h'
noncomputable def qw(names:List (Str×NameKind))(cl:List (Str×Addr)):Bool:=names.all λy=>(y.2 != .cell&&y.2 != .free) || (cl.lookup y.1).isSome
def xW{names:List (Str×NameKind)}{cl:List (Str×Addr)}{x:Str}{k:NameKind}(h:qw names cl=true)(e:names.lookup x=some k)(hk:k = .cell\/k = .free):∃c,cl.lookup x=some c:=by
 have hm:(x,k)∈names:=Wf e;have q:=UW.mp h _ hm;have z:(cl.lookup x).isSome=true:=by
  rcases hk with rfl|rfl
  .simpa using q
  .simpa using q
 exact W5.mp z
noncomputable def JW(env:Env)(scope:Scope)(cl:List (Str×Addr)):List Str->Prop
 |[]=>True
 |x::r=>((env.scope.names.lookup x=some .cell\/env.scope.names.lookup x=some .free)/\((relabel scope env).names.lookup x=some .cell\/(relabel scope env).names.lookup x=some .free)/\cl.lookup x=env.cells.lookup x)/\JW env scope cl r
theorem JW.mem{env:Env}{scope:Scope}{cl:List (Str×Addr)}:∀{l:Vs},JW env scope cl l->∀x∈l,
  (env.scope.names.lookup x=some .cell\/env.scope.names.lookup x=some .free)/\((relabel scope env).names.lookup x=some .cell\/(relabel scope env).names.lookup x=some .free)/\cl.lookup x=env.cells.lookup x
 |[],_,x,h=>nomatch h
 |y::r,k,x,h=>by
  rcases Uv.mp h with rfl|h
  .exact k.1
  .exact JW.mem k.2 x h
noncomputable def gu(own:Nat)(fr:List Nat)(σ:St):St:=List.replicate own none++fr.map λj=>(σ[j]?).getD none
noncomputable abbrev lF(us:Vv):Obj:={ cls:=.type "list",data:=.seq us.toArray us.length }
def wf(us:Vv)(u:Value):({ cls:=.type "list",data:=.seq (us.toArray.push u) (us.length+1) }:Obj)=lF (us++[u]):=by
 show({ cls:=.type "list",data:=.seq (us.toArray.push u) (us.length+1) }:Obj)={ cls:=.type "list",data:=.seq (us++[u]).toArray (us++[u]).length }
 rw[Um,UM,List.push_toArray]
section
variable {X:Cx}{pins:Va}{σ:St}{H:Hp}{s:Shared}
def Inv.Qg{D:Addr}{us:Vv}{n:Nat}{ys:List V}(I:Inv X pins σ H s)(f:gM X pins H D)(e:s.heap.get? D=some { cls:=.type "list",data:=.seq us.toArray n })(r:Vals ys us)(hz:ys.length<=sizeLine) :
  Inv X pins σ (upd H D (.lst ys)) s:=by
 obtain⟨f0,f1,f2,f3,f4,f5⟩:=f;have nD:∀b u,H b=some u->b≠D:=λb u q=>bu q f0;have hok:Lz X.prog X.w (upd H D (.lst ys)) s.heap:=λb u q=>by
  by_cases hb:b=D
  .subst hb;rw[aI]at q;cases q;exact⟨hz,us,n,r,e⟩
  .rw[aM hb]at q;exact(I.hok b u q).stay (λ_ _ _ z=>z) (λc z=>by rw[aM (nD c _ z)];exact z) λc xs z=>by rw[aM (nD c _ z)];exact z
 exact I.step (H':=upd H D (.lst ys)) (h':=s.heap) (g':=s.gens) (t':=s.toks) (d':=s.drawn) (ch:=[D])
  (λb hb=>by
   have z:b=D:=by simpa using hb
   subst z;exact⟨f3,f1,f4,f5⟩)
  (λ_ _ _ _ _ q _=>q) (λ_ o _ _ _ q _=>⟨o.slots,q⟩)
  (λb o hb _ n=>by rw[aM (λz=>hb (by simp[z]))];exact n)
  (λ_ o _ q=>⟨o,q⟩) (λb xs q=>by rw[aM (nD b _ q)];exact q) (λb o u q=>by rw[aM (nD b _ q)];exact q)
  (λb ps q=>⟨#[],by rw[aM (nD b _ q),q];simp⟩) (λ_ q=>q) hok I.bare
def Dn{N:Vs}{scope:Scope}{fs:Vs}{C:Addr}{fp:List Addr}(I:Inv X pins σ H s)(hkind:scope.kind = .function)(hC:s.heap.objs.size<=C)(hcl:du X.env fs)
  (hhas:qw (relabel scope X.env).names (dG X.env fs)=true) (hf:∀b∈fp,gM X pins H b) (hlt:∀b∈fp,b < s.heap.objs.size):(X.Lu N scope fs ⟨C,s,H,fp,X.pn++pins⟩).Ok where
 mod:=I.ok.mod
 kind:=hkind
 glob:=I.ok.glob
 blt:=I.ok.blt
 above:=hC
 inj:=λx y c h1 h2=>I.ok.inj x y c (mG hcl h1) (mG hcl h2)
 has:=λx hx=>by
  rcases hx with e|e
  .exact xW hhas e (.inl rfl)
  .exact xW hhas e (.inr rfl)
 P6:=λx c h=>by cases h
 hd:=I.ok.hd
 frames:=I.ok.frames
 stk:=.inl rfl
 Q5:=λb hb=>⟨US (UL (hlt b hb) hC),λx c e=>(hf b hb).2.2.2.2.1 x c (mG hcl e)⟩
 bs:=I.bs
 OU:=UJ I.ok.OU I.sz
 Of:=λb o e hb=>(hf b hb).2.2.2.1.elim (λz=>I.ok.Of b o e z) λz=>absurd (UL (Ux e) (UJ I.ok.OU z)) (VS _)
 Ou:=λb hb z=>(Uv.mp (I.Mc b z)).elim (hf b hb).2.1 (hf b hb).2.2.1
 My:=I.stack
 Pw:=I.NX
def Aw{N:Vs}{scope:Scope}{fs:Vs}{C D:Addr}{fp:List Addr}{own:Nat}{fr:List Nat}{h₁:Heap}{m0:Vr}{t':Nat}(I:Inv X pins σ H s)
  (ok:(X.Lu N scope fs ⟨C,s,H,fp,X.pn++pins⟩).Ok) (hC:s.heap.objs.size<=C) (hD:s.heap.objs.size<=D) (hDC:D≠C) (hcl:du X.env fs)
  (old:∀b o,s.heap.get? b=some o->h₁.get? b=some o) (hns:h₁.Ns C m0) (hacc:h₁.get? D=some (lF [])) (hlen:N.length=own+fr.length) (hN:(N.drop own).map some=fr.map λj=>X.N[j]?)
  (hF:JW X.env scope (dG X.env fs) (N.drop own)) :
  Inv (X.Lu N scope fs ⟨C,s,H,fp,X.pn++pins⟩) [(D,lF [])] (gu own fr σ) H { s with heap:=h₁,toks:=t' }:=by
 refine⟨ok,rfl,I.bare,Un.kept old,⟨m0,hns,λi x v e1 e2 e3=>?_⟩,λx c e=>?_,I.hok.fresh hC,λx c e=>I.Ld x c (mG hcl e),λp hp=>?_,I.hok.kept old,?_⟩
 .have e1:N[i]?=some x:=e1;by_cases hi:i < own
  .unfold gu at e2;rw[U9 (by rw[U7];exact hi),Wc,if_pos hi]at e2;cases e2
  .obtain⟨k,rfl⟩:∃k,i=own+k:=⟨i - own,by omega⟩
   have e1':(N.drop own)[k]?=some x:=by rw[Yj];exact e1
   have q:=Vf (λl=>l[k]?) hN;simp only[Ut,e1',Option.map_some]at q;unfold gu at e2;rw[Vg (by rw[U7];omega),U7,Nat.add_sub_cancel_left,Ut]at e2;cases hj:fr[k]? with
   |none=>rw[hj]at e2;cases e2
   |some j=>
    rw[hj]at e2 q;simp only[Option.map_some,Xr]at e2 q;have hσ:σ[j]?=some (some v):=by
     cases z:σ[j]? with
     |none=>rw[z]at e2;cases e2
     |some w=>rw[z]at e2;simp only[Option.getD_some]at e2;rw[e2]
    obtain⟨k1,k2,k3⟩:=hF.mem x (UD e1');obtain⟨m,hn,hl⟩:=I.loc;have vis:GB X.env.scope x:=by
     rcases k1 with z|z
     .exact .inr (.inl z)
     .exact .inr (.inr z)
    obtain⟨u,ru,l⟩:=hl j x v q.symm hσ vis;rcases l with⟨hk,_⟩|⟨_,c,hc,o,ho,hd⟩
    .have hk':X.env.scope.names.lookup x=some .local:=hk;rcases k1 with z|z
     .rw[z]at hk';cases hk'
     .rw[z]at hk';cases hk'
    .exact⟨u,ru,.inr ⟨k2,c,k3.trans hc,o,old _ _ ho,hd⟩⟩
 .obtain⟨v,o,ho,hd⟩:=I.cell x c (mG hcl e);exact⟨v,o,old _ _ ho,hd⟩
 .rcases Ur.mp hp with z|z
  .obtain⟨e,n,ne,nf,d⟩:=I.pin p z;exact⟨old _ _ e,n,US (UL (Ux e) hC),λq=>(Uv.mp (I.Mc _ q)).elim ne nf,d⟩
  .have z':p=(D,lF []):=by simpa using z
   subst z';exact⟨hacc,I.hok.fresh hD,hDC,λq=>(Uv.mp (I.Mc _ q)).elim (λe=>absurd e (Wj (UL I.lt hD))) (I.Qa hD),λv z=>by cases z⟩
 .show(gu own fr σ).length=N.length;unfold gu;rw[Um,U7,Ul,hlen]
end
def PF(X:Cx)(ifs:List Expr)(t:TT):Prop:=
 ∀(pins:Va)(s:Shared)(σ:St)(H:Hp)(Q:Bool->Hp->Prop),Inv X pins σ H s->t σ H Q->
  wpAny (model X.prog X.w) X.A (forIn ifs true λc r=>if r=true then do let ok <-isTrue c X.env (eval c X.env);pure (ForInStep.yield ok) else pure (ForInStep.yield r)) (TP X pins σ Q) X.xe s
def Hd:TT:=λ_ H Q=>Q true H
def Do{X:Cx}:PF X [] Hd:=λ_ _ _ H _ I h=>wpAny_tests_nil ⟨H,I,h⟩
def Dp{X:Cx}{c:Expr}{t:TT}(h:PT X c t):PF X [c] t:=λpins s σ H Q I q=>wpAny_tests_one (h pins s σ H Q I q)
def BS(J:It)(g:TG)(tc:TT)(te:TE)(own:Nat)(σ':St)(fin:List V->Hp->Prop)(H1:Hp):Prop:=
 ∃W:Nat->Nat->List V->Hp->Prop,(∃m,W 0 m [] H1)/\∀i m ys H,W i m ys H->
  (J.stop i H/\ys.length<=sizeLine/\fin ys H) \/
  (J.go i H/\ys.length<=sizeLine/\∃Nx:List V->Hp->Prop,(∀ys' H',Nx ys' H'->∃m',m' < m/\W (i+1) m' ys' H')/\∀x H',J.QG i H x H'->g x σ' H' λσ2 H2=>σ2.drop own=σ'.drop own/\tc σ2 H2 λb H3=>
   if b=true then te σ2 H3 λy H4=>Nx (ys++[y]) H4 else Nx ys H3)
section
variable {X:Cx}{pins:Va}{σ:St}{H:Hp}{s:Shared}
variable {elt iter tg:Expr}{ifs:List Expr}{scope:Scope}{pos:Pos}{N:Vs}{own:Nat}{fr:List Nat}{fs:Vs}{g:TG}{tc:TT}{te:TE}
def nB{J:It}{fp:List Addr}{it:Addr}{tn:Nat->Heap->Prop}{fin:List V->Hp->Prop}{E:Vq}{RR:Value->Addr->Result->Shared->Prop}
  (hc:X.calm=true) (hcell:∀y∈scope.names,y.2 ≠ .cell) (hkind:scope.kind = .function) (hcl:du X.env fs) (hhas:qw (relabel scope X.env).names (dG X.env fs)=true)
  (hlen:N.length=own+fr.length) (hN:(N.drop own).map some=fr.map λj=>X.N[j]?) (hF:JW X.env scope (dG X.env fs) (N.drop own))
  (hg:∀B,PG (X.Lu N scope fs B) tg g) (hf:∀B,PF (X.Lu N scope fs B) ifs tc) (he:∀B,PE (X.Lu N scope fs B) elt te)
  (I:Inv X pins σ H s) (T:nl X.prog X.w X.K tg J fp it tn) (st:tn 0 s.heap) (f:∀b∈fp,gM X pins H b) (W:BS J g tc te own (gu own fr σ) fin H)
  (hRR:∀D C s' ys H' m',Inv X pins σ (upd H' D (.lst ys)) s'->H' D=none->s'.heap.Ns C m'->gM X pins (upd H' D (.lst ys)) C->fin ys H'->RR (.ref D) C (.ok .next) s') :
  wpAny (model X.prog X.w) X.A (newList []) (λacc s₃=>wpAny (model X.prog X.w) X.A (newFunctionEnv scope X.env.globals (dG X.env fs) [] X.env.qual none .none (some X.env)) (λcenv s₄=>
   codeAny (model X.prog X.w) X.A (.compStart (.ListComp elt [⟨tg,iter,ifs,0⟩] scope pos) 0 (.ref it) acc { cenv with scope:=relabel scope X.env }) (RR acc cenv.locals) s₄) E s₃) E s:=by
 refine VU (wpAny_newFunctionEnv hcell (by intro y hy;simp at hy) (λh₁ PH OW=>?_) hkind);dsimp only at PH OW ⊢;generalize Ri:s.heap.push { cls:=.type "list",dict:=none,data:=.seq ([]:Vv).toArray }=H2 at PH OW ⊢;have hC:H2.objs.size=s.heap.objs.size+1:=by rw[<-Ri,VH]
 have PJ:s.heap.objs.size<=H2.objs.size:=by rw[hC];exact XW _
 have hDC:s.heap.objs.size≠H2.objs.size:=by rw[hC];exact US (Nat.lt_succ_self _)
 have below:∀b,b < s.heap.objs.size->b≠H2.objs.size/\b≠s.heap.objs.size:=λb hb=>⟨by rw[hC];exact US (Nat.lt_succ_of_lt hb),US hb⟩
 have old:∀b o,s.heap.get? b=some o->h₁.get? b=some o:=λb o e=>OW.extBut b o (below b (Ux e)).1 (Up _ (Ri▸Up _ e));have hacc:h₁.get? s.heap.objs.size=some (lF []):=OW.extBut _ _ hDC (Up _ (Ri▸UC _ rfl));have hlt:∀b∈fp,b < s.heap.objs.size:=λb hb=>by
  obtain⟨o,e,_⟩:=T.obj 0 _ st b hb;exact Ux e
 obtain⟨Wv,⟨m0,w0⟩,turn⟩:=W;have ok:=Dn (N:=N) I hkind PJ hcl hhas f hlt;have loop:∀s₃:Shared,s₃={ s with heap:=h₁,toks:=s.toks+([]:List (Str×Value)).length }->
   codeAny (model X.prog X.w) X.A (.compLoop (.ListComp elt [⟨tg,iter,ifs,0⟩] scope pos) 0 (.ref it) (.ref s.heap.objs.size) (compEnvC scope (dG X.env fs) H2.objs.size X.env))
    (RR (.ref s.heap.objs.size) H2.objs.size) s₃:=by
  rintro s₃ rfl;have I0:=Aw (own:=own) (fr:=fr) (t':=s.toks+([]:List (Str×Value)).length) I ok PJ (Uo _) hDC hcl old PH hacc hlen hN hF;have Ta:tn 0 h₁:=T.keep 0 _ _ st λb _ o e=>old b o e;have stat:∀{us:Vv} {H':Hp},(∀b∈fp,H' b=none)->∀b∈fp,gM (X.Lu N scope fs ⟨H2.objs.size,s,H,fp,X.pn++pins⟩) [(s.heap.objs.size,lF us)] H' b:=λ{us H'} hn b hb=>by
   obtain⟨f0,f1,f2,f3,f4,f5⟩:=f b hb;refine⟨hn b hb,(below b (hlt b hb)).1,λz=>(Uv.mp (I.Mc b z)).elim f1 f2,.inl hb,λx c e=>f4 x c (mG hcl e),λp hp=>?_⟩;rcases Ur.mp hp with z|z
   .exact f5 p z
   .have z':p=(s.heap.objs.size,lF us):=by simpa using z
    subst z';exact Ww (below b (hlt b hb)).2
  have Rj:∀p∈X.pn++pins,p.1 < s.heap.objs.size:=λp hp=>Ux (I.pin p hp).1;refine qv (λk s'=>∃i ys us H',Inv (X.Lu N scope fs ⟨H2.objs.size,s,H,fp,X.pn++pins⟩) [(s.heap.objs.size,lF us)] (gu own fr σ) H' s'/\Vals ys us/\tn i s'.heap/\(∀b∈fp,H' b=none)/\Wv i k ys H') ?_ m0
   ⟨0,[],[],H,I0,.nil,Ta,λb hb=>(f b hb).1,w0⟩
  rintro n s' ⟨i,ys,us,H',I',rv,st',Sd,w'⟩;rcases turn i n ys H' w' with⟨stop,hz,Rk⟩|⟨go,hz,Nx,Se,step⟩
  .refine IK (T.done (X.Lu N scope fs ⟨H2.objs.size,s,H,fp,X.pn++pins⟩) rfl rfl rfl hc i _ s' _ H' (λ_ _=>False) I' (stat Sd) st' stop) (λr s1 ⟨hr,I1⟩=>?_);subst hr;show RR _ _ (.ok .next) s1;have IX:Inv X pins σ H' s1:=I.Qd I1.os I1.base I1.hok I1.bare λb hb=>by
    obtain⟨f0,f1,f2,f3,f4,f5⟩:=f b hb;exact⟨f3,f1,f4,f5⟩
   obtain⟨eD,nD,_⟩:=I1.pin (s.heap.objs.size,lF us) (by simp);have IT:=IX.Qg (I.LB (H':=H') (Uo _) nD) eD rv hz;obtain⟨m',hn',_⟩:=I1.loc;exact hRR _ _ s1 ys H' m' IT nD hn' (I.LB PJ (by rw[aM (Ww hDC)];exact I1.free)) Rk
  .refine IK (T.item (X.Lu N scope fs ⟨H2.objs.size,s,H,fp,X.pn++pins⟩) rfl rfl rfl hc i _ s' _ H' (λ_ _=>False) I' (stat Sd) st' go) (λr s1 ⟨u,hr,h1⟩=>?_);subst hr;show wpAny _ _ (letOwnedTupleGo tg (.ref it) u) _ _ s1;refine IK h1 (λ_ s5 ⟨x,H5,I5,r5,y5,OV,Q9⟩=>?_);have Q_:=I5.pinned (stat Q9) (T.obj _ _ OV);refine IK (hg _ _ s5 _ H5 x u _ Q_ r5 (step x H5 y5)) (λ_ s6 ⟨σ6,H6,I6,Tb,q6⟩=>?_);refine IK (hf _ _ s6 σ6 H6 _ I6 q6) (λb s7 ⟨H7,I7,q7⟩=>?_)
   -- PK the turn's own names
   have forget:∀{H8:Hp}{s8:Shared}{pl:Va},Inv (X.Lu N scope fs ⟨H2.objs.size,s,H,fp,X.pn++pins⟩) pl σ6 H8 s8->Inv (X.Lu N scope fs ⟨H2.objs.size,s,H,fp,X.pn++pins⟩) pl (gu own fr σ) H8 s8:=λ{H8 s8 pl} I8=>by
    refine I8.weak (I0.len.trans I8.len.symm) λj v e=>?_;by_cases hj:j < own
    .unfold gu at e;rw[U9 (by rw[U7];exact hj),Wc,if_pos hj]at e;cases e
    .obtain⟨k,rfl⟩:∃k,j=own+k:=⟨j - own,by omega⟩
     rw[<-Yj]at e ⊢;rw[Tb];exact e
   have QI:∀{H8:Hp}{s8:Shared},Inv (X.Lu N scope fs ⟨H2.objs.size,s,H,fp,X.pn++pins⟩) ([(s.heap.objs.size,lF us)]++nq fp s5.heap) σ6 H8 s8->∀b∈fp,∀o,s5.heap.get? b=some o->s8.heap.get? b=some o/\H8 b=none:=λI8 b hb o e=>
    let z:=I8.pin (b,o) (UI _ (UI _ (jU hb e)))
    ⟨z.1,z.2.1⟩
   cases b with
   |false=>
    show ∃m,m < n/\_;obtain⟨m',hm,w7⟩:=Se _ _ (show Nx ys H7 from q7);refine⟨m',hm,i+1,ys,us,H7,(forget I7).LY,rv,T.keep _ _ _ OV λb hb o e=>(QI I7 b hb o e).1,λb hb=>?_,w7⟩;obtain⟨o,e,_⟩:=T.obj _ _ OV b hb;exact(QI I7 b hb o e).2
   |true=>
    show wpAny _ _ (eval elt _) _ _ s7;have Tc:te σ6 H7 λy H4=>Nx (ys++[y]) H4:=q7;refine IK (he _ _ s7 σ6 H7 _ I7 Tc) (λv s8 ⟨y,H8,I8,r8,n8⟩=>?_);obtain⟨m',hm,w8⟩:=Se _ _ n8;obtain⟨eD,nD,Sf,Td,_⟩:=I8.pin (s.heap.objs.size,lF us) (UI _ (UY _ (by simp)));refine append_at (hsz:=by show us.toArray.size<=sizeLine;rw[Uw,<-rv.length];exact hz) eD λh9 Rl Te=>?_;have J0:Inv (X.Lu N scope fs ⟨H2.objs.size,s,H,fp,X.pn++pins⟩) [] σ6 H8 s8:=I8.MB λp hp=>nomatch hp;have J1:Inv (X.Lu N scope fs ⟨H2.objs.size,s,H,fp,X.pn++pins⟩) [] σ6 H8 { s8 with heap:=h9 }:=J0.turned (t':=s8.toks) (it:=s.heap.objs.size) (λb o hb e=>(Rl.2 b hb).trans e) nD Sf (.inr (Uo _))
     (λx c e z=>by
      obtain⟨v',q⟩:=I.cell x c (mG hcl e);exact absurd (UL q.lt (by rw[z];exact Uo _)) (VS _))
     (λp hp=>by
      rw[Vd]at hp;exact US (Rj p hp))
    have J2:Inv (X.Lu N scope fs ⟨H2.objs.size,s,H,fp,X.pn++pins⟩) [(s.heap.objs.size,lF (us++[v]))] σ6 H8 { s8 with heap:=h9 }:=J1.MB λp hp=>by
     have z':p=(s.heap.objs.size,lF (us++[v])):=by simpa using hp
     subst z';exact⟨Te.trans (Vf some (wf us v)),nD,Sf,Td,λv z=>by cases z⟩
    refine⟨m',hm,i+1,ys++[y],us++[v],H8,forget J2,Vals.append rv (.cons r8 .nil),T.keep _ _ _ OV λb hb o e=>(Rl.2 b (below b (hlt b hb)).2).trans (QI I8 b hb o e).1,λb hb=>?_,w8⟩;obtain⟨o,e,_⟩:=T.obj _ _ OV b hb;exact(QI I8 b hb o e).2
 exact codeAny_compStart_list (loop _ rfl) (T.self _ 0 _ _ _ (T.keep 0 _ _ st λb _ o e=>old b o e) (loop _ rfl))
def xX(wi:TI)(g:TG)(tc:TT)(te:TE)(own:Nat)(fr:List Nat):TE:=λσ H Q=>wi σ H λJ H1=>
 BS J g tc te own (gu own fr σ) (λys H2=>∀D,H2 D=none->Q (.ref D) (upd H2 D (.lst ys))) H1
def Ax(fs:Vs)(own:Nat)(fr:List Nat)(N:Vs){wi:TI}(hc:X.calm=true)(hclos:closureFor scope X.env=pure (dG X.env fs))(hcell:∀y∈scope.names,y.2 ≠ .cell)(hkind:scope.kind = .function)
  (hnames:∀x∈scope.names,x.2 = .local->scope.names.lookup x.1=some .local) (hcl:du X.env fs) (hhas:qw (relabel scope X.env).names (dG X.env fs)=true)
  (hlen:N.length=own+fr.length) (hN:(N.drop own).map some=fr.map λj=>X.N[j]?) (hF:JW X.env scope (dG X.env fs) (N.drop own))
  (hi:PI X tg iter wi) (hg:∀B,PG (X.Lu N scope fs B) tg g) (hf:∀B,PF (X.Lu N scope fs B) ifs tc) (he:∀B,PE (X.Lu N scope fs B) elt te)
  (hs:∀x,foldedSetIterable iter X.env x=pure x:=by intro _;rfl):PE X (.ListComp elt [⟨tg,iter,ifs,0⟩] scope pos) (xX wi g tc te own fr):=by
 walk_at "7";rw[eval_ListComp];refine wpAny_comprehension_free (use:=none) (g:=⟨tg,iter,ifs,0⟩) (gs:=[]) rfl hs hclos hkind hnames (IK (hi pins s σ H _ I h) λv s1 h1=>IK h1 λitv s2 h2=>?_);obtain⟨it,fp,tn,J,H2,e,I2,T,st2,f2,W⟩:=h2;subst e;refine nB (RR:=λacc C=>compPost (model X.prog X.w) X.A X.xe none (EP X pins σ Q) acc C) hc hcell hkind hcl hhas hlen hN hF hg hf he I2 T st2 f2 W ?_;intro D C s' ys H' m' I' nD hn fC fin;exact⟨m',hn,λh' hs'=>⟨.ref D,_,I'.turned (t':=s'.toks) (λb o hb e=>(hs'.2 b hb).trans e) fC.1 fC.2.1 fC.2.2.2.1 fC.2.2.2.2.1 fC.2.2.2.2.2,rfl,fin D nD⟩⟩
def Ay(fs:Vs)(own:Nat)(fr:List Nat)(N:Vs){wi:TI}{i:Nat}{y:Str}{py spos:Pos}(hX:X.N.Nodup)(hix:X.N[i]?=some y)(hy:X.env.scope.names.lookup y=some .local)
  (hsw:swapsWith (.ListComp elt [⟨tg,iter,ifs,0⟩] scope pos) (some (.Name y py)) spos.line X.env=pure true)
  (hc:X.calm=true) (hclos:closureFor scope X.env=pure (dG X.env fs)) (hcell:∀y∈scope.names,y.2 ≠ .cell) (hkind:scope.kind = .function)
  (hnames:∀x∈scope.names,x.2 = .local->scope.names.lookup x.1=some .local) (hcl:du X.env fs) (hhas:qw (relabel scope X.env).names (dG X.env fs)=true)
  (hlen:N.length=own+fr.length) (hN:(N.drop own).map some=fr.map λj=>X.N[j]?) (hF:JW X.env scope (dG X.env fs) (N.drop own))
  (hi:PI X tg iter wi) (hg:∀B,PG (X.Lu N scope fs B) tg g) (hf:∀B,PF (X.Lu N scope fs B) ifs tc) (he:∀B,PE (X.Lu N scope fs B) elt te)
  (hs:∀x,foldedSetIterable iter X.env x=pure x:=by intro _;rfl):PS X (.Assign [.Name y py] (.ListComp elt [⟨tg,iter,ifs,0⟩] scope pos) spos) (Ab (xX wi g tc te own fr) (sd i)):=by
 intro pins s σ H D I h;rw[exec_Assign_Name_used _ _ _ _ hsw];refine Uk (wpAny_standAt (Uk ?_));show wpAny _ X.A (do let _ <-comprehension (.ListComp elt [⟨tg,iter,ifs,0⟩] scope pos) scope X.env _ (newList []) false (eval iter X.env) (some (assign (.Name y py) X.env))) _ _ s;refine Uk (WH (wpAny_comprehension_free (use:=some (assign (.Name y py) X.env)) (Q:=λ_ s'=>SP X pins D .next s') (g:=⟨tg,iter,ifs,0⟩) (gs:=[]) rfl hs hclos hkind hnames
  (IK (hi pins s σ H _ I h) λv s1 h1=>IK h1 λitv s2 h2=>?_)) (λ_ s' hq=>Uz (Uz hq)) λ_ _ e=>e)
 obtain⟨it,fp,tn,J,H2,e,I2,T,st2,f2,W⟩:=h2;subst e;refine nB (RR:=λacc C=>compPost (model X.prog X.w) X.A X.xe (some (assign (.Name y py) X.env)) (λ_ s'=>SP X pins D .next s') acc C) hc hcell hkind hcl hhas hlen hN hF hg hf he I2 T st2 f2 W ?_;intro Da C s' ys H' m' I' nD hn fC fin;show wpAny _ X.A (assign (.Name y py) X.env (.ref Da)) _ _ s';refine wpAny_assign_Name (pg (v:=.ref Da) I' hX hix (.inl hy) rfl (λs2 I3 ⟨a,sb,ha⟩=>?_) (.inr hy));have ca:C≠a:=by
  rcases ha with z|z
  .rw[z];exact fC.2.1
  .exact Ww (fC.2.2.2.2.1 _ _ z)
 exact⟨m',hn.sameBut sb ca,λh' hs'=>⟨_,_,I3.turned (t':=s2.toks) (λb o hb e=>(hs'.2 b hb).trans e) fC.1 fC.2.1 fC.2.2.2.1 fC.2.2.2.2.1 fC.2.2.2.2.2,fin Da nD⟩⟩
end
end L2
namespace PySem
open Sem (wp)
namespace F
def wg:typeLookup (.type "list_reverseiterator") "__len__" = pure none:=by rw[typeLookup_type,builtinLookup_eq_fast];kernel_rfl
def xY:typeLookup (.type "list_reverseiterator") "__length_hint__" = pure (some (.builtin "list_reverseiterator.__length_hint__")):=by rw[typeLookup_type,builtinLookup_eq_fast];kernel_rfl
end F
section
variable {prog:Program}{w:World}{A:Around}{s:Shared}{R:Result->Shared->Prop}
variable {I:Addr}{fp wr:List Addr}{G:Array GenState->Array GenState->Prop}{n:Nat}{P:Nat->Value->Prop}{St:Nat->Shared->Prop}
def t7(W:WalksS prog w A.in1 I fp wr G n P St)(hT:∀i s,St i s->s.TypeIs (.ref I) "list_reverseiterator")(S:Addr)(res:Value)(c₀:Nat)(hst:St 0 s)(hSf:S ∉ fp)(hI:I∈fp)
  (hS:s.heap.get? S=some { cls:=.type "list",data:=.seq #[] c₀ })
  (hR:∀s' acc' c',Moved (S::wr) G s s'->s'.heap.get? S=some { cls:=.type "list",dict:=none,data:=.seq acc' c',slots:=#[] }->ItemsOf P acc' n->R (.ok (.ret res)) s') (hn:n<=sizeLine) :
  wpAny (model prog w) A.in1 (Builtin.List.listExtendWith (.ref S) (.ref I) res)
   (λfin s'=>match fin with | .done f=>R (.ok f) s' | .again c'=>c'.quiet=true/\codeAny (model prog w) A c' R s') (λe s'=>R (.error e) s') s:=by
 have hSI:S≠I:=λe=>hSf (e▸hI);have h1:Builtin.List.listSameRef (.ref S) (.ref I)=false:=by simp[Builtin.List.listSameRef,hSI]
 unfold Builtin.List.listExtendWith;refine Uk (wpAny_typeOf (hT 0 _ hst) ?_);rw[if_neg (by rw[h1];decide)];refine Uk (W.self 0 _ _ _ hst ?_);refine Uk (W4 ?_);unfold Builtin.List.listLengthHint;refine Uk (wpAny_specialOf (hT 0 _ hst) F.wg ?_);show wpAny _ A.in1 (specialOf (Value.ref I) (Str.ofString "__length_hint__") >>= _) _ _ _;refine Uk (wpAny_specialOf (hT 0 _ hst) F.xY ?_)
 (generalize hid:("list_reverseiterator.__length_hint__":String)=Tf;wp_delta;rw[show splitId Tf=some ("list_reverseiterator","__length_hint__")from by subst hid;decide +kernel];subst hid)
 refine Uk (wpAny_isInstance (b:=true) (hT 0 _ hst) (by rw[isSubtype_type];kernel_rfl) ?_);refine Uz ?_;rw[if_neg (by decide)];exact Uz ⟨plainId_quiet F.plain_extend_loop _,codeAny_extend_loopS W hn _ hSf _ n 0 _ _ _ rfl (UT _) hst hS (ItemsOf.nil P) λs' acc' c' hm hS' hacc=>hR s' acc' c' hm hS' hacc⟩
def oP(W:WalksS prog w A.in1 I fp wr G n P St)(hT:∀i s,St i s->s.TypeIs (.ref I) "list_reverseiterator")(S:Addr)(hst:St 0 s)(hSf:S ∉ fp)(hI:I∈fp)
  (hS:s.heap.get? S=some { cls:=.type "list",data:=.seq #[] })
  (hR:∀s' acc' c',Moved (S::wr) G s s'->s'.heap.get? S=some { cls:=.type "list",dict:=none,data:=.seq acc' c',slots:=#[] }->ItemsOf P acc' n->R (.ok (.ret .none)) s') (hn:n<=sizeLine) :
  wpAny (model prog w) A.in1 (Builtin.«list.__init__» ⟨[.ref S,.ref I],[]⟩)
   (λfin s'=>match fin with | .done f=>R (.ok f) s' | .again c'=>c'.quiet=true/\codeAny (model prog w) A c' R s') (λe s'=>R (.error e) s') s:=by
 show wpAny _ A.in1 (do let old <-Builtin.List.listItems (.ref S);Builtin.List.listUpdate (.ref S) (λ_=>#[]);letGo old.toList.reverse;Builtin.List.listExtendWith (.ref S) (.ref I) .none) _ _ s;refine Uk ?_;unfold Builtin.List.listItems;refine Uk (Vl hS rfl (Uz ?_));show wpAny _ A.in1 (updateSeq S (λ_=>#[]) >>= λ_=>letGo (#[]:Vw).toList.reverse >>= λ_=>Builtin.List.listExtendWith (.ref S) (.ref I) .none) _ _ s;refine Uk (wpAny_updateSeq hS rfl ?_);have Th:=WN (Obj.mapSeq (λ_=>(#[]:Vw))) hS rfl;have Op:∀b o,b≠S->s.heap.get? b=some o->(s.heap.update S (Obj.mapSeq (λ_=>(#[]:Vw)))).get? b=some o:=
  λb o hb e=>(Xp _ _ (Ww hb)).trans e
 refine Uk (Xi ?_);refine t7 (hn:=hn) W hT S .none _ (W.frame 0 s _ s.toks hst (Uo _) λb hb o e=>Op b o (λh=>hSf (h▸hb)) e) hSf hI Th λs' acc' c' hm hS' hacc=>?_;exact hR s' acc' c' (Moved.trans W.gtrans ((Moved.refl W.grefl).then_heap (Uo _) λb o hb e=>Op b o (λh=>hb (h▸V4)) e) hm) hS' hacc
end
section
variable {prog:Program}{w:World}{A:Around}{E:Vq}{s:Shared}
def oQ{I l:Addr}{items:Vw}{Q:Vq}(hh:A.handled=none)(hl:s.heap.IsList l items)(hit:s.heap.IsRevIter I l ((items.size:Int) - 1))(hne:l≠I)(hn:items.size<=sizeLine)
  (hQ:∀h' tk acc' c',(∀b o,b≠I->s.heap.get? b=some o->h'.get? b=some o)->h'.get? s.heap.objs.size=some { cls:=.type "list",dict:=none,data:=.seq acc' c',slots:=#[] }->
   acc'.toList=items.toList.reverse->Q (.ref s.heap.objs.size) { s with heap:=h',toks:=tk }) :
  wpAny (model prog w) A (call (.type "list") [.ref I]) Q E s:=by
 have W:=(Walks.listRev (prog:=prog) (w:=w) (A:=A.in1.in1) hh I l hne items).toS;have Rm:I < s.heap.objs.size:=by obtain⟨o,ho,_⟩:=hit;exact Ux ho
 have Rn:l < s.heap.objs.size:=by obtain⟨o,ho,_⟩:=hl;exact Ux ho
 have hfp:∀b∈[I,l],b < s.heap.objs.size:=λb hb=>by
  rcases Uv.mp hb with rfl|hb
  .exact Rm
  .rw[Uy.mp hb];exact Rn
 have hSf:s.heap.objs.size ∉ [I,l]:=λhm=>VS _ (hfp _ hm);have hst:(λi (s:Shared)=>i<=items.size/\s.heap.IsRevIter I l ((items.size:Int) - 1 - (i:Int))/\s.heap.IsList l items) 0 s:=⟨UT _,by simpa using hit,hl⟩
 refine callType_codes (Q₁:=λobj s₁=>obj = .ref s.heap.objs.size/\s₁={ s with heap:=s.heap.push { cls:=.type "list",data:=.seq #[] } }) F.called_list (F.typeCall_list_1 _) F.entry_list_init
  (code_list_new _ ⟨rfl,rfl⟩) λobj s₁ h₁=>?_
 obtain⟨rfl,rfl⟩:=h₁;have hS:(s.heap.push { cls:=.type "list",data:=.seq #[] }).get? s.heap.objs.size=some { cls:=.type "list",data:=.seq #[] }:=UC _ rfl;refine⟨⟨_,hS,rfl⟩,F.args_list_init_2 _ _,oP (hn:=hn) W (λi s st=>st.2.1.typeIs) _ (W.frame 0 s _ s.toks hst (Uo _) λb _ o e=>Up _ e) hSf (V4 ..) hS λs' acc' c' hm hS' hacc=>?_⟩;refine⟨rfl,?_⟩;rw[hm.eq_with];refine hQ s'.heap s'.toks acc' c' (λb o hb e=>hm.heap b o (λz=>?_) (Up _ e)) hS' ?_
 .rcases Uv.mp z with z|z
  .exact absurd (Ux e) (by rw[z];exact VS _)
  .exact hb (Uy.mp z)
 .obtain⟨hsz,hP⟩:=hacc;apply List.ext_getElem?;intro j;by_cases hj:j < items.size
  .have hj':j < acc'.size:=by rw[hsz];exact hj
   have q:=hP j acc'[j] (by simp[hj']);have e1:acc'.toList[j]?=some acc'[j]:=by simp[hj']
   rw[e1,XG (by simpa using hj)]
   simpa using q.symm
  .rw[V3 (by simpa [hsz]using hj),V3 (by simpa using hj)]
end
end PySem
namespace L2
open PySem PySem.Spec PyProof.Rows
section
variable {X:Cx}
def xZ(K:Vo)(te:TE):TE:=λσ H Q=>te σ H λx H1=>∃a xs,x = .ref a/\SqL K H1 a xs/\∀q,H1 q=none->Q (.ref q) (upd H1 q (.lst xs.reverse))
def t8{e:Expr}{te:TE}{p1 p2 q1 q2:Pos}(hc:X.calm=true)(he:PE X e te)(Ro:Gl X "list")(hm1:X.mg "list" = none)(Qh:Gl X "reversed")(hm2:X.mg "reversed" = none)
  (hs:starEach [e] X.env=[(false,eval e X.env)]:=by rfl) (hs2:starEach [.Call (.Name "reversed" p2) [e] [] q2] X.env=[(false,eval (.Call (.Name "reversed" p2) [e] [] q2) X.env)]:=by rfl) :
  PE X (.Call (.Name "list" p1) [.Call (.Name "reversed" p2) [e] [] q2] [] q1) (xZ X.K te):=by
 walk_at "7";refine Wo (fQ I Ro hm1 (u:=.type "list") (by decide +kernel) ?_);refine Vc ?_ hs2 rfl;rw[hs2];show wpAny _ _ (spliced ((false,eval (.Call (.Name "reversed" p2) [e] [] q2) X.env)::backTo q1 [])) _ _ s;refine Wn ?_;refine Wo (fQ I Qh hm2 (u:=.type "reversed") boot_reversed ?_);refine Vc ?_ hs rfl;rw[hs];show wpAny _ _ (spliced ((false,eval e X.env)::backTo q2 [])) _ _ s;refine Wn (IK (he pins s σ H _ I h) λu s1 ⟨x,H1,I1,r1,a,xs,ex,hx,q⟩=>?_);subst ex;cases r1;obtain⟨its,rv,p,hz⟩:=I1.list hx;have hl:=rv.length;have hal:a < s1.heap.objs.size:=by obtain⟨o,ho,_⟩:=p.isList;exact Ux ho
 refine WQ (call_reversed_list p.isList ?_);refine WQ ?_;refine oQ (I.ok.hd hc) (p.isList.push _) ⟨_,UC _ rfl,rfl,rfl⟩ (US hal) (by rw[Uw,<-hl];exact hz) λh' tk acc c hk hS ha=>?_;have hsz:(s1.heap.push (revObj a ((its.toArray.size:Int) - 1))).objs.size=s1.heap.objs.size+1:=VH _ _;have hle:s1.heap.objs.size<=(s1.heap.push (revObj a ((its.toArray.size:Int) - 1))).objs.size:=by rw[hsz];exact XW _
 refine⟨.ref _,_,I1.laid (a:=(s1.heap.push (revObj a ((its.toArray.size:Int) - 1))).objs.size) (o:=.lst xs.reverse) (h':=h') (t':=tk) (λb u e=>hk b u (US (Ux e)) (Up _ e)) hle ?_,rfl,q _ (I1.hok.fresh hle)⟩;refine⟨by rw[Wg];exact hz,its.reverse,c,Vals.reverse rv,?_⟩;rw[hS];have e:acc=its.reverse.toArray:=by
  apply Array.toList_inj.mp;rw[ha]
 rw[e]
end
section
variable {X:Cx}
noncomputable abbrev lG(c:Nat):Str:=⟨#[c]⟩
noncomputable def He(z:Str):It:=⟨λi _=>i < z.cps.size,λi H x H'=>H'=H/\∃c,z.cps[i]?=some c/\x = .str (lG c),λi _=>z.cps.size<=i⟩
def x_{P:Program}{w:World}{K:Vo}{tg:Expr}{ty:String}(hty:ty = "str_ascii_iterator" \/ ty = "str_iterator")(it:Addr)(z:Str)(t:Tok):nl P w K tg (He z) [it] it (λi h=>i<=z.cps.size/\h.IsStrIter it ty z t i):=by
 have W:∀A':Around,A'.handled=none->Walks P w A' it [it] [it] z.cps.size (SignAt z) (λi h=>h.IsStrIter it ty z t i):=λA' hA=>by
  rcases hty with rfl|rfl
  .exact Walks.strAscii hA it z t
  .exact Walks.strWide hA it z t
 have nt:(["enumerate","zip","dict_itemiterator","dict_reverseitemiterator","odict_iterator","itertools.zip_longest","itertools.pairwise"].contains ty)=false:=by
  rcases hty with rfl|rfl<;>decide
 refine⟨by simp,λi h st b hb=>?_,λi h h' st k=>?_,?_,?_,?_⟩
 .have e:b=it:=by simpa using hb
  subst e;obtain⟨_,o,e,c,d⟩:=st;exact⟨o,e,λv q=>by rw[d]at q;cases q⟩
 .obtain⟨hi,o,e,r⟩:=st;exact⟨hi,o,k it (by simp) o e,r⟩
 .walk_at "2";subst hP hw hK;walk_at "5";refine(W X.A (I.ok.hd hc)).item i s _ _ hg st.2 λv h' tk hv st' kk=>?_;obtain⟨c,u,hcp,rfl⟩:=hv;have I1:Inv X pins σ H { s with heap:=h',toks:=tk }:=I.turned (λb o hb e=>kk b o (by simpa using hb) e) f0 f1 f3 f4 f5;obtain⟨o,e,co,d⟩:=id st';exact⟨_,rfl,cJ (s:={ s with heap:=h',toks:=tk }) e co d nt ⟨.str (lG c),H,I1,⟨u,rfl⟩,⟨rfl,c,hcp,rfl⟩,⟨hg,st'⟩,λb hb=>(hf b hb).1⟩⟩
 .walk_at "2";subst hP hw hK;walk_at "5";have e:i=z.cps.size:=Nat.le_antisymm st.1 hg;subst e;exact(W X.A (I.ok.hd hc)).done s _ _ st.2 λh' tk kk=>⟨rfl,I.turned (λb o hb e=>kk b o (by simpa using hb) e) f0 f1 f3 f4 f5⟩
 .intro A i s Q E st h;rcases hty with rfl|rfl
  .exact wpAny_pyIter_striter_ascii st.2 h
  .exact wpAny_pyIter_striter_wide st.2 h
def Az{ys:Vs}:∀{us:Vv},Vals (ys.map V.str) us->StrsAre us ys:=by
 induction ys with
 |nil=>intro us r;rw[U4]at r;cases r;exact .nil
 |cons n ns ih=>
  intro us r;rw[UA]at r;cases r with
  |cons r1 r2=>
   obtain⟨t,e⟩:=r1;subst e;exact .cons n t (ih r2)
noncomputable def FD(K:Vo):V->List V->Hp->VK->Prop:=λx vs H Q=>∃sep p ys,x = .str sep/\vs=[.ref p]/\SqL K H p (ys.map V.str)/\(ys.map (·.length)).sum+ys.length * sep.length<=1000000/\Q (.str (Txt.join sep ys)) H
def AA:Df X "str.join" (FD X.K):=by
 intro pins s σ H x vs v us Q I rx rv h;obtain⟨sep,p,ys,rfl,rfl,hp,hz,q⟩:=h;obtain⟨t,rfl⟩:=rx;obtain⟨u,rfl,ru⟩:=eA rv;cases ru;obtain⟨its,r,pl,_⟩:=I.list hp;exact join_list pl.isList (by simpa using Az r) (by omega) λt' k=>⟨.str _,H,I.tok k,⟨t',rfl⟩,q⟩
def t9{z:Str}{acc:Vw}(h:ItemsOf (SignAt z) acc z.cps.size):Vals (z.cps.toList.map λc=>V.str (lG c)) acc.toList:=by
 obtain⟨hs,hP⟩:=h;have key:∀(cs:List Nat)(us:Vv),us.length=cs.length->(∀(j:Nat)(v:Value),us[j]?=some v->∃c u,cs[j]?=some c/\v = .str (lG c) u)->Vals (cs.map λc=>V.str (lG c)) us:=by
  intro cs
  induction cs with
  |nil=>
   intro us hl _;cases us with
   |nil=>exact .nil
   |cons u us=>cases hl
  |cons c cs ih=>
   intro us hl hu;cases us with
   |nil=>cases hl
   |cons u us=>
    obtain⟨c',t,e1,e2⟩:=hu 0 u rfl;have e1':c=c':=by simpa using e1
    subst e1';refine .cons ⟨t,e2⟩ (ih us (by simpa using hl) λj v e=>?_);exact hu (j+1) v (by simpa using e)
 refine key z.cps.toList acc.toList (by simp[hs]) λj v e=>?_;obtain⟨c,u,e1,e2⟩:=hP j v (by simpa using e);exact⟨c,u,by simpa using e1,e2⟩
def lH(hc:X.calm=true):eR X (.type "list") (λxs H Q=>∃z,xs=[.str z]/\z.length<=sizeLine/\∀l,H l=none->Q (.ref l) (upd H l (.lst (z.cps.toList.map λc=>V.str (lG c))))):=by
 intro pins s σ H xs us Q I r h;obtain⟨z,rfl,hz,q⟩:=h;obtain⟨u,rfl,t,rfl⟩:=eA r;refine call_list_str (I.ok.hd hc) z t (λh' tk acc c hk hS ha=>?_) hz;refine⟨.ref _,_,I.laid (a:=s.heap.objs.size) (o:=.lst (z.cps.toList.map λc=>V.str (lG c))) (h':=h') (t':=tk) hk (Uo _) ?_,rfl,q _ (I.hok.fresh (Uo _))⟩;exact⟨by rw[Ul,V1];exact hz,acc.toList,c,t9 ha,by rw[hS]⟩
def wj(hc:X.calm=true):eR X (.builtin "all") (λxs H Q=>∃(p:Addr)(bs:List Bool),xs=[.ref p]/\SqL X.K H p (bs.map V.bl)/\Q (.bl (bs.all id)) H):=by
 intro pins s σ H xs us Q I r h;obtain⟨p,bs,rfl,hp,q⟩:=h;obtain⟨u,rfl,rx⟩:=eA r;cases rx;obtain⟨its,rv,pl,hz⟩:=I.list hp;have hl:=rv.length;rw[Ul]at hl;have hlt:p < s.heap.objs.size:=by obtain⟨o,ho,_⟩:=pl.isList;exact Ux ho
 refine call_all_walk (Ve pl.isList ?_);have up:∀b o,s.heap.get? b=some o->(s.heap.push { cls:=.type "list_iterator",data:=.fields #[.ref p,.int 0 0] }).get? b=some o:=λb o e=>Up _ e;refine⟨s.heap.objs.size,_,_,_,_,_,λi=>(bs[i]?).getD true,rfl,Walks.list (A:=X.A.in1) (I.ok.hd hc) s.heap.objs.size p (US hlt) its.toArray,⟨⟨_,UC _ rfl,rfl,rfl⟩,pl.isList.push _⟩,?_,λh' tk hk=>?_⟩
 .intro i v s' Q' E' hv hq;have hi:i < its.length:=by
   by_cases z:i < its.length
   .exact z
   .rw[WK (by simpa using z)]at hv;cases hv
  obtain⟨u',e1,r1⟩:=rv.get (i:=i) (x:=.bl bs[i]) (by rw[Ut,Uq (by omega)];rfl);have e2:v=u':=by
   have z:its[i]?=some v:=by simpa using hv
   rw[z]at e1;exact Vx e1
  subst e2;cases (show v=Value.bool bs[i] from r1);refine VO ?_;have hq':Q' ((bs[i]?).getD true) s':=hq;rw[Uq (show i < bs.length by omega)]at hq';exact hq'
 .have e:(List.range its.toArray.size).all (λi=>(bs[i]?).getD true)=bs.all id:=by
   rw[Uw,<-hl,Wt,UW,UW]
   constructor
   .intro h1 x hx;obtain⟨j,hj,e⟩:=Wh hx;have q1:=h1 j (Wk.mpr hj);rw[Uq hj]at q1;rw[<-e];exact q1
   .intro h1 j hj;have hj':=Wk.mp hj;rw[Uq hj'];exact h1 _ (V7 hj')
  rw[e];exact⟨.bl _,H,(I.kept (t':=tk) (h':=h') λb o eo=>hk b o (by
   intro hm;have hb:b=s.heap.objs.size:=by simpa using hm
   exact absurd (Ux eo) (by rw[hb];exact VS _)) (up b o eo)),rfl,q⟩
end
section
variable {X:Cx}
noncomputable def Hf:V->Option Int->Option Int->Hp->VK->Prop:=λx lo hi H Q=>∃z,x = .str z/\z.length<=sizeLine/\Q (.str (Txt.slice z lo hi)) H
def Dq:EK X Hf:=by
 intro pins s σ H x v vl vu lo hi sl Q I rx hs pl pu h;obtain⟨z,rfl,hz,q⟩:=h;obtain⟨t,rfl⟩:=rx;refine⟨"str",_,F.slot_str_getitem.lookup,typeIs_str _ _ _,?_⟩;obtain⟨o,e,c,d⟩:=hs;have fin:∀l u:Option (Int×Tok),(vl=partValue l/\lo=l.map (·.1))->(vu=partValue u/\hi=u.map (·.1))->wpAny (model X.prog X.w) X.A (getItem (.str z t) (.ref sl)) (EP X pins σ Q) X.xe s:=by
  rintro l u ⟨rfl,rfl⟩ ⟨rfl,rfl⟩;exact wpAny_getItem_str_slice (l:=l) (u:=u) (st:=none) ⟨o,e,c,d⟩ rfl (post_val_or_str ⟨UJ (Txt.slice_le z _ _) hz,λt' k=>⟨.str _,H,I.tok k,⟨t',rfl⟩,q⟩⟩)
 cases pl with
 |none=>
  cases pu with
  |none=>exact fin none none ⟨rfl,rfl⟩ ⟨rfl,rfl⟩
  |int j uj=>exact fin none (some (j,uj)) ⟨rfl,rfl⟩ ⟨rfl,rfl⟩
 |int i ui=>
  cases pu with
  |none=>exact fin (some (i,ui)) none ⟨rfl,rfl⟩ ⟨rfl,rfl⟩
  |int j uj=>exact fin (some (i,ui)) (some (j,uj)) ⟨rfl,rfl⟩ ⟨rfl,rfl⟩
noncomputable def Dr:V->List V->Hp->VK->Prop:=λx vs H Q=>∃a b i rest,x = .str a/\vs=[.str b]/\Builtin.Str.occurrences a b 0 a.length 1=i::rest/\Q (.int i) H
def ya:Df X "str.index" Dr:=by
 intro pins s σ H x vs v us Q I rx rv h;obtain⟨a,b,i,rest,rfl,rfl,ho,q⟩:=h;obtain⟨t,rfl⟩:=rx;obtain⟨w,rfl,u,rfl⟩:=eA rv;exact call_gives F.slot_str_index (typeIs_str _ _ _) F.entry_str_index (F.args_str_index_2 _ _) (gives_str_index a b t u i rest ho) ⟨.int i,H,I.tok _,⟨_,rfl⟩,q⟩
def Ds(K:Vo)(i j k:Nat)(te:TE):TS:=λD σ H=>te σ H λx H1=>∃p v w u,x = .ref p/\SqT K H1 p [v,w,u]/\D.nx (((σ.set k (some u)).set j (some w)).set i (some v)) H1
def yb{i j k:Nat}{x y z:Str}{e:Expr}{te:TE}{px py pz pt:Pos}{kt:Nat}{pos:Pos}(hc:X.calm=true)(hN:X.N.Nodup)(hi:X.N[i]?=some x)(hj:X.N[j]?=some y)(hk:X.N[k]?=some z)
  (hx:X.env.scope.names.lookup x=some .local) (hy:X.env.scope.names.lookup y=some .local) (hz:X.env.scope.names.lookup z=some .local) (he:PE X e te)
  (hw:swappedStores [.Tuple [.Name x px,.Name y py,.Name z pz] kt pt] e X.env=pure (some [x,y,z]))
  (hs:swapsWithSole [.Tuple [.Name x px,.Name y py,.Name z pz] kt pt] e pos.line X.env=pure false) :
  PS X (.Assign [.Tuple [.Name x px,.Name y py,.Name z pz] kt pt] e pos) (Ds X.K i j k te):=by
 intro pins s σ H D I h;refine Assign_Tuple_swapped (names:=[x,y,z]) (IK (he pins s σ H _ I h) λr s1 ⟨xr,H1,I1,r1,p,v,w,u,ex,hp,q⟩=>?_) hs hw;subst ex;cases r1;obtain⟨its,rv,tp,_⟩:=I1.tuple hp;obtain⟨u1,u2,u3,ei,a1,a2,a3⟩:∃u1 u2 u3,its=[u1,u2,u3]/\RelV v u1/\RelV w u2/\RelV u u3:=by
  cases rv with
  |cons a1 rv=>
   cases rv with
   |cons a2 rv=>
    cases rv with
    |cons a3 rv=>
     cases rv;exact⟨_,_,_,rfl,a1,a2,a3⟩
 subst ei;refine unpackItems_tuple (items:=#[u1,u2,u3]) (I.ok.hd hc) tp λh' kp=>?_;have I2:=I1.kept (h':=h') (t':=s1.toks) λb o eb=>kp b o (US (Ux eb)) eb;refine Wm (Xn (eQ I2 hN hk (.inl hz) a3 (λs2 I3=>?_) (.inr hz)));refine Wm (Xn (eQ I3 hN hj (.inl hy) a2 (λs3 I4=>?_) (.inr hy)));exact Wm (Xn (eQ I4 hN hi (.inl hx) a1 (λs4 I5=>assignInOrder_nil ⟨_,H1,I5,q⟩) (.inr hx)))
end
end L2
namespace Zt
open PySem
open Sem (wp)
def Si(kd:Bool)(h:Heap)(a t:Addr)(i:Nat):Prop:=cond kd (h.IsListIter a t i) (h.IsTupleIter a t i)
def Sq(kd:Bool)(h:Heap)(a:Addr)(xs:Vw):Prop:=cond kd (h.IsList a xs) (h.IsTuple a xs)
theorem Si.at{kd:Bool}{h h':Heap}{a t:Addr}{i:Nat}(x:Si kd h a t i)(e:∀o,h.get? a=some o->h'.get? a=some o):Si kd h' a t i:=match kd,x with|true,x=>Heap.IsListIter.at x e|false,x=>Heap.IsTupleIter.at x e
theorem Sq.at{kd:Bool}{h h':Heap}{a:Addr}{xs:Vw}(x:Sq kd h a xs)(e:∀o,h.get? a=some o->h'.get? a=some o):Sq kd h' a xs:=match kd,x with|true,x=>Heap.IsList.at x e|false,x=>Heap.IsTuple.at x e
def Sq.lt{kd:Bool}{h:Heap}{a:Addr}{xs:Vw}(x:Sq kd h a xs):a < h.objs.size:=match kd,x with|true,⟨_,e,_⟩=>Ux e|false,⟨_,e,_⟩=>Ux e
def Si.ob{kd:Bool}{h:Heap}{a t:Addr}{i:Nat}(x:Si kd h a t i):∃o f,h.get? a=some o/\o.data = .fields f:=match kd,x with|true,⟨o,e,_,d⟩=>⟨o,_,e,d⟩|false,⟨o,e,_,d⟩=>⟨o,_,e,d⟩
def Si.extBut{kd:Bool}{h h':Heap}{a c t:Addr}{i:Nat}(x:Si kd h a t i)(e:Heap.ExtBut c h h')(n:a≠c):Si kd h' a t i:=x.at λ_ q=>e _ _ n q
def Sq.extBut{kd:Bool}{h h':Heap}{a c:Addr}{xs:Vw}(x:Sq kd h a xs)(e:Heap.ExtBut c h h')(n:a≠c):Sq kd h' a xs:=x.at λ_ q=>e _ _ n q
section
variable {prog:Program}{w:World}{A:Around}{E:Vq}{s:Shared}
def nx{j t:Addr}{i:Nat}{its:Vw}{x:Value}{Q:Vq}(hj:s.heap.IsTupleIter j t i)(ht:s.heap.IsTuple t its)(hx:its[i]?=some x)
  (k:∀g:Heap,g.IsTupleIter j t (i+1)->Heap.SameBut j s.heap g->Q x { s with heap:=g }):wpAny (model prog w) A (Builtin.SmallTypes.nextOf (.ref j)) Q E s:=by
 obtain⟨ob,eb,kb,db⟩:=id hj;obtain⟨oc,ec,_,nc,dc⟩:=ht;unfold Builtin.SmallTypes.nextOf;refine Uk (Vy (name:=Str.ofString "__next__") hj.typeIs Wr (V5 Wr hj.typeIs F.entry_tuple_iterator_next ?_ (F.args_tuple_iterator_next_1 _)));show wpAny _ _ (field (.ref j) 0 >>= _) _ _ s;refine Uk (Vb eb db (x:=.ref t) rfl ?_);show wpAny _ _ (if (Value.ref t == Value.none)=true then _ else _) _ _ s;rw[if_neg (show ¬((Value.ref t == Value.none)=true)from UR)];show wpAny _ _ (field (.ref j) 1 >>= _) _ _ s;refine Uk (Vb eb db (x:=.int i 0) rfl ?_);show wpAny _ _ (seqItems? (.ref t) >>= _) _ _ s;refine Uk (Vl ec dc ?_);simp only[Int.toNat_natCast,hx];refine Uk (wpAny_setField eb db (by simp) (Uz ⟨x,rfl,Uz (k _ ?_ (Yg ..))⟩));exact⟨_,WN _ eb (Obj.isFreed_of_fields (Obj.data_mapFields db _)),(Obj.cls_mapFields ..).trans kb,by rw[Obj.data_mapFields db];simp[rawInt]⟩
def HV{j t:Addr}{i:Nat}{its:Vw}{Q:Vq}(hh:A.handled=none)(hj:s.heap.IsTupleIter j t i)(ht:s.heap.IsTuple t its)(hx:its[i]?=none)
  (k:∀(g:Heap) (e:Addr),Heap.ExtBut j s.heap g->(∃o,g.get? e=some o/\o.cls = .type "StopIteration")->E (.ref e) { s with heap:=g }):wpAny (model prog w) A (Builtin.SmallTypes.nextOf (.ref j)) Q E s:=by
 obtain⟨ob,eb,kb,db⟩:=id hj;obtain⟨oc,ec,_,nc,dc⟩:=ht;unfold Builtin.SmallTypes.nextOf;refine Uk (Vy (name:=Str.ofString "__next__") hj.typeIs Wr (V5 Wr hj.typeIs F.entry_tuple_iterator_next ?_ (F.args_tuple_iterator_next_1 _)));show wpAny _ _ (field (.ref j) 0 >>= _) _ _ s;refine Uk (Vb eb db (x:=.ref t) rfl ?_);show wpAny _ _ (if (Value.ref t == Value.none)=true then _ else _) _ _ s;rw[if_neg (show ¬((Value.ref t == Value.none)=true)from UR)];show wpAny _ _ (field (.ref j) 1 >>= _) _ _ s;refine Uk (Vb eb db (x:=.int i 0) rfl ?_);show wpAny _ _ (seqItems? (.ref t) >>= _) _ _ s;refine Uk (Vl ec dc ?_);simp only[Int.toNat_natCast,hx];refine Uk (WW (Uk (wpAny_setField eb db (by simp) ?_)));show wpAny _ _ (newExc (.type "StopIteration") [] >>= _) _ _ _;refine Uk ?_;simp only[newExc,newTuple];refine Uk (VU ?_ (by size_fits));refine Uk (m:=firstArgMember _ _) (wpAny_of_eq (a:=Value.none) (by first|rfl|(simp only[firstArgMember];rfl)) ?_);refine VU ?_ (by size_fits);simp only[raiseNew];refine Uk (wpAny_handled ?_)
 first|(rw[hh])|(rw[show A.in1.handled=none from hh])
 exact Uk (Uz (wpAny_throw (k _ _ (((Yg ..).extBut.push _).push _) ⟨_,UC _ rfl,rfl⟩)))
def EM{kd:Bool}{j t:Addr}{i:Nat}{its:Vw}{x:Value}{Q:Vq}(hj:Si kd s.heap j t i)(ht:Sq kd s.heap t its)(hx:its[i]?=some x)
  (k:∀g:Heap,Si kd g j t (i+1)->Heap.SameBut j s.heap g->Q x { s with heap:=g }):wpAny (model prog w) A (Builtin.SmallTypes.nextOf (.ref j)) Q E s:=by
 cases kd with
 |true=>exact wpAny_nextOf_list_item hj ht hx k
 |false=>exact nx hj ht hx k
def Dt{kd:Bool}{j t:Addr}{i:Nat}{its:Vw}{Q:Vq}(hh:A.handled=none)(hj:Si kd s.heap j t i)(ht:Sq kd s.heap t its)(hx:its[i]?=none)
  (k:∀(g:Heap) (e:Addr),Heap.ExtBut j s.heap g->(∃o,g.get? e=some o/\o.cls = .type "StopIteration")->E (.ref e) { s with heap:=g }):wpAny (model prog w) A (Builtin.SmallTypes.nextOf (.ref j)) Q E s:=by
 cases kd with
 |true=>exact wpAny_nextOf_list_end hh hj ht hx k
 |false=>exact HV hh hj ht hx k
variable {ka kb:Bool}{z TI TO i1 i2 l1 l2:Addr}{k1 k2:Nat}{xs ys:Vw}{x y a b:Value}
def qx{Q:Vq}(D:ZipApart z TI TO i1 i2 l1 l2)(gz:IsZip s.heap z TI TO .none)(gI:IsPair s.heap TI (.ref i1) (.ref i2))(gO:IsPair s.heap TO a b)
  (g1:Si ka s.heap i1 l1 k1) (g2:Si kb s.heap i2 l2 k2) (t1:Sq ka s.heap l1 xs) (t2:Sq kb s.heap l2 ys) (hx:xs[k1]?=some x) (hy:ys[k2]?=some y)
  (k:∀g,IsZip g z TI TO (rawInt s.heap.objs.size)->IsPair g TO x y->Si ka g i1 l1 (k1+1)->Si kb g i2 l2 (k2+1)->IsPair g s.heap.objs.size x y->
   (∀c o,c≠z->c≠TO->c≠i1->c≠i2->s.heap.get? c=some o->g.get? c=some o)->Q (.ref s.heap.objs.size) { s with heap:=g }) :
  wpAny (model prog w) A (Builtin.«zip.__next__» ⟨[.ref z],[]⟩) (λfin s'=>∃v,fin = .done (.ret v)/\Q v s') E s:=by
 show wpAny _ _ (field (.ref z) 2 >>= _) _ _ _;refine Uk (Vb gz rfl (x:=.bool false) rfl ?_);show wpAny _ _ (field (.ref z) 3 >>= _) _ _ _;refine Uk (Vb gz rfl (x:=.ref TI) rfl (Uk (Vl gI rfl ?_)));show wpAny _ _ (Builtin.SmallTypes.ownedTupleIsFree (.ref z) >>= _) _ _ _;refine Uk ?_;unfold Builtin.SmallTypes.ownedTupleIsFree;refine Uk (Vb gz rfl (x:=.none) rfl (Uz ?_));simp only[U6];refine Uk (WW (Uk (Vb gz rfl (x:=.ref TO) rfl (Uk (Vm gz (by simp) λh₁ z1 q1=>?_)))))
 replace z1:IsZip h₁ z TI TO .ellipsis:=z1
 refine Uk ?_;simp only[List.zipIdx_cons,List.zipIdx_nil,Xd,List.forIn_nil];refine Uk (Uk (WA ?_));show wpAny _ _ (Builtin.SmallTypes.nextOf (.ref i1) >>= _) _ _ _;refine Uk (EM (g1.extBut q1.extBut D.i1z) (t1.extBut q1.extBut D.l1z) hx λh₂ n1 q2=>Uz ?_);have o2:IsPair h₂ TO a b:=q2.extBut _ _ D.TOi1 (q1.extBut _ _ D.TOz gO);refine Uk (Vl o2 rfl (Uk (XX o2 λh₃ o3 q3=>?_)))
 replace o3:IsPair h₃ TO x b:=o3
 refine Uk (Xi (Uz ?_));refine Uk (Uk (WA ?_));show wpAny _ _ (Builtin.SmallTypes.nextOf (.ref i2) >>= _) _ _ _;refine Uk (EM (((g2.extBut q1.extBut D.i2z).extBut q2.extBut D.i12.symm).extBut q3.extBut D.TOi2.symm) (((t2.extBut q1.extBut D.l2z).extBut q2.extBut D.l2i1).extBut q3.extBut D.l2TO) hy λh₄ n2 q4=>Uz ?_);have o4:IsPair h₄ TO x b:=q4.extBut _ _ D.TOi2 o3;refine Uk (Vl o4 rfl (Uk (XX o4 λh₅ o5 q5=>?_)))
 replace o5:IsPair h₅ TO x y:=o5
 refine Uk (Xi (Uz (Uz ?_)));refine Uk (Vl o5 rfl (Uk (wpAny_newTuple ?_)));have sz:h₅.objs.size=s.heap.objs.size:=by rw[q5.1,q4.1,q3.1,q2.1,q1.1]
 have z5:IsZip h₅ z TI TO .ellipsis:=q5.extBut _ _ D.TOz.symm (q4.extBut _ _ D.i2z.symm (q3.extBut _ _ D.TOz.symm (q2.extBut _ _ D.i1z.symm z1)));have kk:∀c o,c≠z->c≠TO->c≠i1->c≠i2->s.heap.get? c=some o->h₅.get? c=some o:=λc o c1 c2 c3 c4 e=>q5.extBut _ _ c2 (q4.extBut _ _ c4 (q3.extBut _ _ c2 (q2.extBut _ _ c3 (q1.extBut _ _ c1 e))));have m1:Si ka h₅ i1 l1 (k1+1):=((n1.extBut q3.extBut D.TOi1.symm).extBut q4.extBut D.i12).extBut q5.extBut D.TOi1.symm;have m2:Si kb h₅ i2 l2 (k2+1):=n2.extBut q5.extBut D.TOi2.symm;have zl:z < h₅.objs.size:=Ux z5;show wpAny _ _ (Builtin.SmallTypes.ownedTupleHandOut (.ref z) (.ref h₅.objs.size) >>= _) _ _ _;refine Uk ?_;unfold Builtin.SmallTypes.ownedTupleHandOut;have z6:IsZip (h₅.push { cls:=.type "tuple",data:=.seq #[x,y] }) z TI TO .ellipsis:=Up _ z5;refine Uk (Vm z6 (by simp) λh₇ z7 q7=>?_)
 replace z7:IsZip h₇ z TI TO (rawInt h₅.objs.size):=z7
 refine Vm z7 (by simp) λh₈ z8 q8=>?_
 replace z8:IsZip h₈ z TI TO (rawInt h₅.objs.size):=z8
 have up:∀c o,c≠z->h₅.get? c=some o->h₈.get? c=some o:=λc o c1 e=>q8.extBut _ _ c1 (q7.extBut _ _ c1 (Up _ e));have T8:IsPair h₈ h₅.objs.size x y:=q8.extBut _ _ (Wj zl) (q7.extBut _ _ (Wj zl) (UC _ rfl));rw[sz]at z8 T8;refine Uz ⟨_,rfl,?_⟩;show Q (.ref h₅.objs.size) _;rw[sz];exact k h₈ z8 (up _ _ D.TOz o5) (m1.at λo e=>up _ o D.i1z e) (m2.at λo e=>up _ o D.i2z e) T8 λc o c1 c2 c3 c4 e=>up c o c1 (kk c o c1 c2 c3 c4 e)
def t_{Q:Fin->Shared->Prop}(hh:A.handled=none)(D:ZipApart z TI TO i1 i2 l1 l2)(gz:IsZip s.heap z TI TO .none)(gI:IsPair s.heap TI (.ref i1) (.ref i2))(gO:IsPair s.heap TO a b)
  (g1:Si ka s.heap i1 l1 k1) (g2:Si kb s.heap i2 l2 k2) (t1:Sq ka s.heap l1 xs) (t2:Sq kb s.heap l2 ys) (he:xs[k1]?=none\/ys[k2]?=none)
  (k:∀(g:Heap) (e:Addr),(∀c o,c≠z->c≠TO->c≠i1->c≠i2->s.heap.get? c=some o->g.get? c=some o)->(∃o,g.get? e=some o/\o.cls = .type "StopIteration")->E (.ref e) { s with heap:=g }) :
  wpAny (model prog w) A (Builtin.«zip.__next__» ⟨[.ref z],[]⟩) Q E s:=by
 show wpAny _ _ (field (.ref z) 2 >>= _) _ _ _;refine Uk (Vb gz rfl (x:=.bool false) rfl ?_);show wpAny _ _ (field (.ref z) 3 >>= _) _ _ _;refine Uk (Vb gz rfl (x:=.ref TI) rfl (Uk (Vl gI rfl ?_)));show wpAny _ _ (Builtin.SmallTypes.ownedTupleIsFree (.ref z) >>= _) _ _ _;refine Uk ?_;unfold Builtin.SmallTypes.ownedTupleIsFree;refine Uk (Vb gz rfl (x:=.none) rfl (Uz ?_));simp only[U6];refine Uk (WW (Uk (Vb gz rfl (x:=.ref TO) rfl (Uk (Vm gz (by simp) λh₁ z1 q1=>?_)))))
 replace z1:IsZip h₁ z TI TO .ellipsis:=z1
 refine Uk ?_;simp only[List.zipIdx_cons,List.zipIdx_nil,Xd,List.forIn_nil];refine Uk (Uk (WA ?_));show wpAny _ _ (Builtin.SmallTypes.nextOf (.ref i1) >>= _) _ _ _;cases hx:xs[k1]? with
 |none=>
  refine Uk (Dt hh (g1.extBut q1.extBut D.i1z) (t1.extBut q1.extBut D.l1z) hx λh₂ e q2 ⟨oe,ge,ce⟩=>?_);have z2:IsZip h₂ z TI TO .ellipsis:=q2 _ _ D.i1z.symm z1;have ez:e≠z:=λu=>by subst u;rw[z2]at ge;cases ge;simp at ce
  exact Vm z2 (by simp) λh₃ _ q3=>k h₃ e (λc o c1 _ c3 _ u=>q3.extBut _ _ c1 (q2 _ _ c3 (q1.extBut _ _ c1 u))) ⟨oe,q3.extBut _ _ ez ge,ce⟩
 |some x=>
  have hy:ys[k2]?=none:=he.elim (λq=>by rw[hx]at q;cases q) id;refine Uk (EM (g1.extBut q1.extBut D.i1z) (t1.extBut q1.extBut D.l1z) hx λh₂ n1 q2=>Uz ?_);have o2:IsPair h₂ TO a b:=q2.extBut _ _ D.TOi1 (q1.extBut _ _ D.TOz gO);refine Uk (Vl o2 rfl (Uk (XX o2 λh₃ o3 q3=>?_)));refine Uk (Xi (Uz ?_));refine Uk (Uk (WA ?_));show wpAny _ _ (Builtin.SmallTypes.nextOf (.ref i2) >>= _) _ _ _;refine Uk (Dt hh (((g2.extBut q1.extBut D.i2z).extBut q2.extBut D.i12.symm).extBut q3.extBut D.TOi2.symm) (((t2.extBut q1.extBut D.l2z).extBut q2.extBut D.l2i1).extBut q3.extBut D.l2TO) hy λh₄ e q4 ⟨oe,ge,ce⟩=>?_);have z4:IsZip h₄ z TI TO .ellipsis:=q4 _ _ D.i2z.symm (q3.extBut _ _ D.TOz.symm (q2.extBut _ _ D.i1z.symm z1));have ez:e≠z:=λu=>by subst u;rw[z4]at ge;cases ge;simp at ce
  exact Vm z4 (by simp) λh₅ _ q5=>k h₅ e (λc o c1 c2 c3 c4 u=>q5.extBut _ _ c1 (q4 _ _ c4 (q3.extBut _ _ c2 (q2.extBut _ _ c3 (q1.extBut _ _ c1 u))))) ⟨oe,q5.extBut _ _ ez ge,ce⟩
def lI{Q:Option Value->Shared->Prop}(D:ZipApart z TI TO i1 i2 l1 l2)(gz:IsZip s.heap z TI TO .none)(gI:IsPair s.heap TI (.ref i1) (.ref i2))(gO:IsPair s.heap TO a b)
  (g1:Si ka s.heap i1 l1 k1) (g2:Si kb s.heap i2 l2 k2) (t1:Sq ka s.heap l1 xs) (t2:Sq kb s.heap l2 ys) (hx:xs[k1]?=some x) (hy:ys[k2]?=some y)
  (k:∀g,IsZip g z TI TO (rawInt s.heap.objs.size)->IsPair g TO x y->Si ka g i1 l1 (k1+1)->Si kb g i2 l2 (k2+1)->IsPair g s.heap.objs.size x y->
   (∀c o,c≠z->c≠TO->c≠i1->c≠i2->s.heap.get? c=some o->g.get? c=some o)->Q (some (.ref s.heap.objs.size)) { s with heap:=g }):wpAny (model prog w) A (pyNext (.ref z)) Q E s:=by
 have ty:s.TypeIs (.ref z) "zip":=⟨_,gz,rfl⟩
 unfold pyNext;exact Uk (wpAny_attempt (Vy (name:=Str.ofString "__next__") ty We (V5 We ty XJ
  (qx D gz gI gO g1 g2 t1 t2 hx hy λg a1 a2 a3 a4 a5 a6=>Uz (k g a1 a2 a3 a4 a5 a6)) (Xs _))))
def nC{Q:Option Value->Shared->Prop}(hh:A.handled=none)(D:ZipApart z TI TO i1 i2 l1 l2)(gz:IsZip s.heap z TI TO .none)(gI:IsPair s.heap TI (.ref i1) (.ref i2))(gO:IsPair s.heap TO a b)
  (g1:Si ka s.heap i1 l1 k1) (g2:Si kb s.heap i2 l2 k2) (t1:Sq ka s.heap l1 xs) (t2:Sq kb s.heap l2 ys) (he:xs[k1]?=none\/ys[k2]?=none)
  (k:∀g:Heap,(∀c o,c≠z->c≠TO->c≠i1->c≠i2->s.heap.get? c=some o->g.get? c=some o)->Q none { s with heap:=g }):wpAny (model prog w) A (pyNext (.ref z)) Q E s:=by
 have ty:s.TypeIs (.ref z) "zip":=⟨_,gz,rfl⟩
 unfold pyNext;refine Uk (wpAny_attempt (Vy (name:=Str.ofString "__next__") ty We (V5 We ty XJ (t_ hh D gz gI gO g1 g2 t1 t2 he λg e kk ⟨o,ho,hc⟩=>?_) (Xs _))));exact Uk (wpAny_isInstance (T:="StopIteration") (b:=true) ⟨o,ho,hc⟩ isSubtype_stop (Uz (k _ kk)))
end
noncomputable abbrev it(kd:Bool)(l:Addr):Obj:={ cls:=.type (cond kd "list_iterator" "tuple_iterator"),data:=.fields #[.ref l,.int 0 0] }
def Si.mk{kd:Bool}{h:Heap}{a l:Addr}(e:h.get? a=some (it kd l)):Si kd h a l 0:=match kd,e with|true,e=>⟨_,e,rfl,rfl⟩|false,e=>⟨_,e,rfl,rfl⟩
noncomputable abbrev H1(ka:Bool)(h:Heap)(l1:Addr):Heap:=h.push (it ka l1)
noncomputable abbrev H2(ka kb:Bool)(h:Heap)(l1 l2:Addr):Heap:=(H1 ka h l1).push (it kb l2)
noncomputable abbrev H3(ka kb:Bool)(h:Heap)(l1 l2:Addr):Heap:=(H2 ka kb h l1 l2).push { cls:=.type "tuple",data:=.seq #[.ref h.objs.size,.ref (H1 ka h l1).objs.size] }
noncomputable abbrev H4(ka kb:Bool)(h:Heap)(l1 l2:Addr):Heap:=(H3 ka kb h l1 l2).push { cls:=.type "tuple",data:=.seq #[.none,.none] }
noncomputable abbrev H5(ka kb:Bool)(h:Heap)(l1 l2:Addr):Heap:=(H4 ka kb h l1 l2).push { cls:=.type "zip",data:=.fields #[.none,.bool false,.bool false,.ref (H2 ka kb h l1 l2).objs.size,.ref (H3 ka kb h l1 l2).objs.size] }
def gv(ka kb:Bool)(l1 l2:Addr)(xs ys:Vw) :
  Meets (Builtin.«zip.__new__» ⟨[.type "zip",.ref l1,.ref l2],[]⟩) (λ_ R s=>Sq ka s.heap l1 xs/\Sq kb s.heap l2 ys/\R (.ok (.ret (.ref (H4 ka kb s.heap l1 l2).objs.size))) { s with heap:=H5 ka kb s.heap l1 l2 }):=
 .of_wp λprog w A R s h=>by
  obtain⟨hp,g,d,tk,os⟩:=s;obtain⟨e1,e2,h⟩:=h;have hsub:=sub_zip
  match ka,kb,e1,e2,h with
  |false,false,e1,e2,h=>
   have L1:Heap.IsTuple (Shared.heap ⟨hp,g,d,tk,os⟩) l1 xs:=e1;have L2:Heap.IsTuple (Shared.heap ⟨hp.push { cls:=.type "tuple_iterator",data:=.fields #[.ref l1,.int 0 0] },g,d,tk,os⟩) l2 ys:=VY e2 _
   wp_walk using U5 L1,U5 L2
   exact⟨_,rfl,h⟩
  |false,true,e1,e2,h=>
   have L1:Heap.IsTuple (Shared.heap ⟨hp,g,d,tk,os⟩) l1 xs:=e1;have L2:Heap.IsList (Shared.heap ⟨hp.push { cls:=.type "tuple_iterator",data:=.fields #[.ref l1,.int 0 0] },g,d,tk,os⟩) l2 ys:=V8 e2 _
   wp_walk using U5 L1,Ve L2
   exact⟨_,rfl,h⟩
  |true,false,e1,e2,h=>
   have L1:Heap.IsList (Shared.heap ⟨hp,g,d,tk,os⟩) l1 xs:=e1;have L2:Heap.IsTuple (Shared.heap ⟨hp.push { cls:=.type "list_iterator",data:=.fields #[.ref l1,.int 0 0] },g,d,tk,os⟩) l2 ys:=VY e2 _
   wp_walk using Ve L1,U5 L2
   exact⟨_,rfl,h⟩
  |true,true,e1,e2,h=>
   have L1:Heap.IsList (Shared.heap ⟨hp,g,d,tk,os⟩) l1 xs:=e1;have L2:Heap.IsList (Shared.heap ⟨hp.push { cls:=.type "list_iterator",data:=.fields #[.ref l1,.int 0 0] },g,d,tk,os⟩) l2 ys:=V8 e2 _
   wp_walk using Ve L1,Ve L2
   exact⟨_,rfl,h⟩
section
variable {ka kb:Bool}{prog:Program}{w:World}{A:Around}{E:Vq}{s:Shared}
def iL{l1 l2:Addr}{xs ys:Vw}{Q:Vq}(e1:Sq ka s.heap l1 xs)(e2:Sq kb s.heap l2 ys)
  (k:∀g,IsZip g (s.heap.objs.size+4) (s.heap.objs.size+2) (s.heap.objs.size+3) .none->IsPair g (s.heap.objs.size+2) (.ref s.heap.objs.size) (.ref (s.heap.objs.size+1))->
   IsPair g (s.heap.objs.size+3) .none .none->Si ka g s.heap.objs.size l1 0->Si kb g (s.heap.objs.size+1) l2 0->
   (∀c o,s.heap.get? c=some o->g.get? c=some o)->Q (.ref (s.heap.objs.size+4)) { s with heap:=g }) :
  wpAny (model prog w) A (call (.type "zip") [.ref l1,.ref l2]) Q E s:=by
 refine callType_new F.called_zip (by decide) (F.typeCall_zip_2 _ _) (F.newCall_zip_2 _ _) (λobj=>F.args_object_init_3 obj _ _) F.entry_zip_new (gv ka kb l1 l2 xs ys) ⟨e1,e2,?_⟩;have z1:(H1 ka s.heap l1).objs.size=s.heap.objs.size+1:=VH ..;have z2:(H2 ka kb s.heap l1 l2).objs.size=s.heap.objs.size+2:=by rw[VH,z1]
 have z3:(H3 ka kb s.heap l1 l2).objs.size=s.heap.objs.size+3:=by rw[VH,z2]
 have z4:(H4 ka kb s.heap l1 l2).objs.size=s.heap.objs.size+4:=by rw[VH,z3]
 have g5:(H5 ka kb s.heap l1 l2).get? (H4 ka kb s.heap l1 l2).objs.size=some _:=UC _ rfl;have g4:(H5 ka kb s.heap l1 l2).get? (H3 ka kb s.heap l1 l2).objs.size=some _:=Up _ (UC _ rfl);have g3:(H5 ka kb s.heap l1 l2).get? (H2 ka kb s.heap l1 l2).objs.size=some _:=Up _ (Up _ (UC _ rfl));have g2:(H5 ka kb s.heap l1 l2).get? (H1 ka s.heap l1).objs.size=some _:=Up _ (Up _ (Up _ (UC _ rfl)));have g1:(H5 ka kb s.heap l1 l2).get? s.heap.objs.size=some _:=Up _ (Up _ (Up _ (Up _ (UC _ rfl))));show _/\_;rw[z2,z3,z4]at g5;rw[z1,z2]at g3;rw[z3]at g4;rw[z1]at g2;rw[z4];exact⟨⟨_,g5,rfl⟩,k _ g5 g3 g4 (.mk g1) (.mk g2) λc o e=>Up _ (Up _ (Up _ (Up _ (Up _ e))))⟩
end
end Zt
namespace L2
open PySem PySem.Spec PyProof.Rows
section
variable {X:Cx}{pins:Va}{σ:St}{H:Hp}{s:Shared}{h':Heap}
def Inv.Kw{t':Nat}{fp:List Addr}(I:Inv X pins σ H s)(k:∀b o,b ∉ fp->s.heap.get? b=some o->h'.get? b=some o)(hf:∀b∈fp,gM X pins H b):Inv X pins σ H { s with heap:=h',toks:=t' }:=by
 have Qc:∀b u,H b=some u->b ∉ fp:=λb u e z=>by rw[(hf b z).1]at e;cases e
 refine I.step (g':=s.gens) (d':=s.drawn) (ch:=fp) (λb hb=>?_) (λb o _ _ hc e _=>k b o hc e) (λb o _ _ hc e _=>⟨o.slots,k b o hc e⟩) (λ_ _ _ _ n=>n)
  (λb o hc e=>⟨o,k b o hc e⟩) (λ_ _ e=>e) (λ_ _ _ e=>e) (λb ps e=>⟨#[],by rw[e];simp⟩) (λm hm=>?_) (λb u e=>?_) I.bare
 .obtain⟨f0,f1,f2,f3,f4,f5⟩:=hf b hb;exact⟨f3,f1,f4,f5⟩
 .obtain⟨o,es,ep,ho,r⟩:=hm;exact⟨o,es,ep,k _ o (λz=>(hf _ z).2.1 rfl) ho,r⟩
 .refine(I.hok b u e).stay (λc v hc q=>k c v ?_ q) (λ_ q=>q) λ_ _ q=>q;rcases hc with z|z
  .rw[z];exact Qc b u e
  .exact Qc c _ z
def Inv.M6{D:Addr}{us:Vv}{ys:List V}(I:Inv X pins σ H s)(f:gM X pins H D)(e:JG s.heap D us.toArray)(r:Vals ys us)(hz:ys.length<=sizeLine) :
  Inv X pins σ (upd H D (.tup ys)) s:=by
 obtain⟨f0,f1,f2,f3,f4,f5⟩:=f;have nD:∀b u,H b=some u->b≠D:=λb u q=>bu q f0;have hok:Lz X.prog X.w (upd H D (.tup ys)) s.heap:=λb u q=>by
  by_cases hb:b=D
  .subst hb;rw[aI]at q;cases q;exact⟨hz,us,r,e⟩
  .rw[aM hb]at q;exact(I.hok b u q).stay (λ_ _ _ z=>z) (λc z=>by rw[aM (nD c _ z)];exact z) λc xs z=>by rw[aM (nD c _ z)];exact z
 exact I.step (H':=upd H D (.tup ys)) (h':=s.heap) (g':=s.gens) (t':=s.toks) (d':=s.drawn) (ch:=[D])
  (λb hb=>by
   have z:b=D:=by simpa using hb
   subst z;exact⟨f3,f1,f4,f5⟩)
  (λ_ _ _ _ _ q _=>q) (λ_ o _ _ _ q _=>⟨o.slots,q⟩)
  (λb o hb _ n=>by rw[aM (λz=>hb (by simp[z]))];exact n)
  (λ_ o _ q=>⟨o,q⟩) (λb xs q=>by rw[aM (nD b _ q)];exact q) (λb o u q=>by rw[aM (nD b _ q)];exact q)
  (λb ps q=>⟨#[],by rw[aM (nD b _ q),q];simp⟩) (λ_ q=>q) hok I.bare
end
def nE(kd:Bool)(K:Vo)(H:Hp)(a:Addr)(xs:List V):Prop:=cond kd (SqL K H a xs) (SqT K H a xs)
def Inv.Me{X:Cx}{pins:Va}{σ:St}{H:Hp}{s:Shared}{kd:Bool}{a:Addr}{xs:List V}(I:Inv X pins σ H s)(h:nE kd X.K H a xs):∃its:List Value,Vals xs its/\Zt.Sq kd s.heap a its.toArray:=by
 cases kd with
 |true=>obtain⟨i,r,p,z⟩:=I.list h;exact⟨i,r,p.isList⟩
 |false=>obtain⟨i,r,p,z⟩:=I.tuple h;exact⟨i,r,p⟩
def Inv.Lf{X:Cx}{pins:Va}{σ:St}{H:Hp}{s:Shared}{kd:Bool}{a:Addr}{xs ys:List V}(I:Inv X pins σ H s)(h:nE kd X.K H a xs)(g:nE kd X.K H a ys):xs=ys:=by
 cases kd with
 |true=>exact I.LX h g
 |false=>exact I.Md h g
noncomputable def Hg(ka kb:Bool)(K:Vo)(a b:Addr):It:=
  ⟨λi H=>∃xs ys x y,nE ka K H a xs/\nE kb K H b ys/\xs[i]?=some x/\ys[i]?=some y,
   λi H v H'=>∃p x y,v = .ref p/\H p=none/\H'=upd H p (.tup [x,y])/\∀xs ys,nE ka K H a xs->nE kb K H b ys->xs[i]?=some x/\ys[i]?=some y,
   λi H=>∃xs ys,nE ka K H a xs/\nE kb K H b ys/\(xs.length<=i\/ys.length<=i)⟩
def yc{ka kb:Bool}{P:Program}{w:World}{K:Vo}{elts:List Expr}{k0:Nat}{Ke:Pos}{z TI TO i1 i2 a b:Addr}(D:ZipApart z TI TO i1 i2 a b) :
  nl P w K (.Tuple elts k0 Ke) (Hg ka kb K a b) [z,TI,TO,i1,i2] z (λi h=>IsZip h z TI TO .none/\IsPair h TI (.ref i1) (.ref i2)/\(∃x y,IsPair h TO x y)/\Zt.Si ka h i1 a i/\Zt.Si kb h i2 b i) where
 mem:=by simp
 obj:=λi h st c hc=>by
  obtain⟨gz,gI,⟨x,y,gO⟩,g1,g2⟩:=st;obtain⟨o1,_,e1,d1⟩:=g1.ob;obtain⟨o2,_,e2,d2⟩:=g2.ob;simp only[Uv,UK,Vp]at hc;rcases hc with rfl|rfl|rfl|rfl|rfl
  .exact⟨_,gz,λv q=>by cases q⟩
  .exact⟨_,gI,λv q=>by cases q⟩
  .exact⟨_,gO,λv q=>by cases q⟩
  .exact⟨_,e1,λv q=>by rw[d1]at q;cases q⟩
  .exact⟨_,e2,λv q=>by rw[d2]at q;cases q⟩
 keep:=λi h h' st k=>by
  obtain⟨gz,gI,⟨x,y,gO⟩,g1,g2⟩:=st;exact⟨k z (by simp) _ gz,k TI (by simp) _ gI,⟨x,y,k TO (by simp) _ gO⟩,g1.at λo e=>k i1 (by simp) o e,g2.at λo e=>k i2 (by simp) o e⟩
 item:=by
  walk_at "2";subst hP hw hK;obtain⟨gz,gI,⟨ta,tb,gO⟩,g1,g2⟩:=st;obtain⟨xs,ys,x,y,M7,PL,hx,hy⟩:=hg;obtain⟨ia,ra,pa⟩:=I.Me M7;obtain⟨ib,rb,pb⟩:=I.Me PL;obtain⟨u,hu,ru⟩:=ra.get hx;obtain⟨v,hv,rv⟩:=rb.get hy;refine Zt.lI D gz gI gO g1 g2 pa pb (x:=u) (y:=v) (by simpa using hu) (by simpa using hv) λg a1 a2 a3 a4 a5 a6=>?_;refine⟨_,rfl,wpAny_letOwnedTupleGo_zip (s:={ s with heap:=g }) a1 λg' z' q'=>?_⟩;have kk:∀c o,c ∉ [z,TI,TO,i1,i2]->s.heap.get? c=some o->g'.get? c=some o:=λc o hc e=>by
   simp only[Uv,UK,Vp,not_or]at hc;exact q'.extBut _ _ hc.1 (a6 c o hc.1 hc.2.2.1 hc.2.2.2.1 hc.2.2.2.2 e)
  have I1:Inv X pins σ H { s with heap:=g' }:=I.Kw (t':=s.toks) kk hf;have f0:gM X pins H s.heap.objs.size:=I.LB (Uo _) (I.hok.fresh (Uo _));have eT:JG g' s.heap.objs.size [u,v].toArray:=⟨_,q'.extBut _ _ (Wj (Ux gz)) a5,rfl,rfl,_,rfl⟩
  have I2:=I1.M6 f0 eT (.cons ru (.cons rv .nil)) (by show 2<=sizeLine;decide);refine⟨.ref s.heap.objs.size,_,I2,rfl,⟨s.heap.objs.size,x,y,rfl,f0.1,rfl,λxs' ys' h1 h2=>by rw[I.Lf h1 M7,I.Lf h2 PL];exact⟨hx,hy⟩⟩,
   ⟨z',q'.extBut _ _ D.TIz (a6 TI _ D.TIz D.TITO D.TIi1 D.TIi2 gI),⟨_,_,q'.extBut _ _ D.TOz a2⟩,a3.extBut q'.extBut D.i1z,a4.extBut q'.extBut D.i2z⟩,λc hc=>?_⟩
  have hlt:c < s.heap.objs.size:=by
   obtain⟨_,_,e1,_⟩:=g1.ob;obtain⟨_,_,e2,_⟩:=g2.ob;simp only[Uv,UK,Vp]at hc;rcases hc with rfl|rfl|rfl|rfl|rfl
   .exact Ux gz
   .exact Ux gI
   .exact Ux gO
   .exact Ux e1
   .exact Ux e2
  rw[aM (US hlt)];exact(hf c hc).1
 done:=by
  walk_at "2";subst hP hw hK;obtain⟨gz,gI,⟨ta,tb,gO⟩,g1,g2⟩:=st;obtain⟨xs,ys,M7,PL,hl⟩:=hg;obtain⟨ia,ra,pa⟩:=I.Me M7;obtain⟨ib,rb,pb⟩:=I.Me PL;have la:=ra.length;have lb:=rb.length;refine Zt.nC (I.ok.hd hc) D gz gI gO g1 g2 pa pb ?_ λg kk=>⟨rfl,I.Kw (t':=s.toks) (λc o hc e=>?_) hf⟩
  .rcases hl with q|q
   .exact .inl (by simp;omega)
   .exact .inr (by simp;omega)
  .simp only[Uv,UK,Vp,not_or]at hc;exact kk c o hc.1 hc.2.2.1 hc.2.2.2.1 hc.2.2.2.2 e
 self:=λ_ _ _ _ _ st h=>XM st.1 h
section
variable {X:Cx}
def Hh(K:Vo)(ta:TA):TI:=λσ H R=>ta σ H λvs H1=>∃ka kb a b,vs=[.ref a,.ref b]/\(∃xs,nE ka K H1 a xs)/\(∃ys,nE kb K H1 b ys)/\R (Hg ka kb K a b) H1
def yd{elts:List Expr}{k0:Nat}{Ke:Pos}{a b:Expr}{ta:TA}{p pos:Pos}(hg:Gl X "zip")(hm:X.mg "zip" = none)(hv:bootBuiltins "zip" = some (.type "zip"))(ha:PA X [a,b] ta)
  (hs:starEach [a,b] X.env=[(false,eval a X.env),(false,eval b X.env)]:=by rfl) (hs2:starEach [b] X.env=[(false,eval b X.env)]:=by rfl):PI X (.Tuple elts k0 Ke) (.Call (.Name "zip" p) [a,b] [] pos) (Hh X.K ta):=by
 intro pins s σ H R I h;refine Call_ (fQ I hg hm hv (Vc (IK (ha pos pins s σ H _ I h) λus s1 ⟨vs,H1,I1,r1,q1⟩=>?_) (by rw[hs,hs2]) (by rw[hs2];rfl)));obtain⟨ka,kb,a,b,e,⟨xs,qa⟩,⟨ys,qb⟩,q⟩:=q1;subst e;obtain⟨u,v,rfl,ru,rv⟩:=xJ r1;cases ru;cases rv;obtain⟨ia,ra,pa⟩:=I1.Me qa;obtain⟨ib,rb,pb⟩:=I1.Me qb;have la:a < s1.heap.objs.size:=pa.lt;have lb:b < s1.heap.objs.size:=pb.lt;refine Zt.iL pa pb λg gz gI gO g1 g2 kk=>?_;refine XM (s:={ s1 with heap:=g }) gz ?_;refine⟨_,[s1.heap.objs.size+4,s1.heap.objs.size+2,s1.heap.objs.size+3,s1.heap.objs.size,s1.heap.objs.size+1],_,_,H1,rfl,I1.kept (t':=s1.toks) kk,yc (zipApart_new la lb),⟨gz,gI,⟨_,_,gO⟩,g1,g2⟩,λc hc=>?_,q⟩;have hle:s1.heap.objs.size<=c:=by
  simp only[Uv,UK,Vp]at hc;rcases hc with rfl|rfl|rfl|rfl|rfl
  .exact Vz _ _
  .exact Vz _ _
  .exact Vz _ _
  .exact Uo _
  .exact Vz _ _
 exact I1.LB hle (I1.hok.fresh hle)
def KD(P:Program)(w:World)(K:Vo)(a:Addr)(kvs:List (bN×V)):Prop:=(a == sysModules)=false/\∃o vs,K.lookup a=some o/\KV kvs vs/\Obj.IsDictOf (bi P w) o vs
def FE(a:Addr)(kvs:List (bN×V))(ty tx:TE):TE:=λσ H Q=>ty σ H λy H2=>tx σ H2 λz H3=>∃k,y=kV k/\Q ((jV kvs k).getD z) H3
def AB{x:Str}{e f:Expr}{px apos cpos:Pos}{ty tx:TE}{a:Addr}{kvs:List (bN×V)}(hu:X.A.units+1 < cLine)(hg:Gl X x)(hm:X.mg x=some (.ref a))(hD:KD X.prog X.w X.K a kvs)(he:PE X e ty)(hf:PE X f tx)(m:M2 X (.Name x px) "get" apos e f cpos)
  (hd:(x == ("__debug__":Str))=false:=by decide):PE X (.Call (.Attribute (.Name x px) "get" apos) [e,f] [] cpos) (FE a kvs ty tx):=by
 walk_at "7";obtain⟨hsys,o,vs,hk,rel,ii⟩:=hD;have dd:∀{s1:Shared}{H1:Hp},Inv X pins σ H1 s1->s1.heap.DictOf (bi X.prog X.w) a vs:=λI1=>Heap.dictOf_iff.mpr ⟨o,I1.Ov a o hk,ii⟩;refine wpAny_Call_method m.base m.few m.line PySem.F.plainAttrs_dict PySem.F.slot_dict_get PySem.F.type_dict_get (uX I hg hm ?_ hd);refine⟨(dd I).typeIs,λb q=>?_,?_⟩
 .cases q;obtain⟨ob,_,_,h1,h2,_⟩:=dd I;exact⟨ob,h1,h2.2.1⟩
 rw[m.trees];refine WI rfl (XU (Wn (IK (he pins s σ H _ I h) λiv s2 ⟨y,H2,I2,ry,q2⟩=>
  Wn (IK (hf pins s2 σ H2 _ I2 q2) λfv s3 ⟨z,H3,I3,rz,k,ey,q3⟩=>WQ ?_))))
 subst ey;refine call_meetsIn PySem.F.slot_dict_get (dd I3).typeIs PySem.F.entry_dict_get (PySem.F.args_dict_get_3 _ _ _) (meets_dict_get_default (bi X.prog X.w) a (ny ry) hsys fv) ⟨_,(dd I3).mapOf,⟨_,H3,I3.tok _,?_,q3⟩⟩;exact(rel.val k).getD rz
end
section
variable {env:Env}{rest:List Expr}{pos:Pos}
def wk{g:Expr}{es:List Expr}{ks:List Keyword}:starEach (.Call g es ks pos::rest) env=(false,eval (.Call g es ks pos) env)::starEach rest env:=rfl
def wm{a:Expr}{gs:List Comprehension}{sc:Scope}:starEach (.ListComp a gs sc pos::rest) env=(false,eval (.ListComp a gs sc pos) env)::starEach rest env:=rfl
end
noncomputable def Hi(K:Vo)(a:Addr):It:=
  ⟨λi H=>∃xs x,SqL K H a xs/\xs[i]?=some x,
   λi H v H'=>∃p x,v = .ref p/\H p=none/\H'=upd H p (.tup [.int (i:Nat),x])/\∀xs,SqL K H a xs->xs[i]?=some x,
   λi H=>∃xs,SqL K H a xs/\xs.length<=i⟩
def wn{P:Program}{w:World}{K:Vo}{elts:List Expr}{k0:Nat}{Ke:Pos}{e it a:Addr}(hei:e≠it) :
  nl P w K (.Tuple elts k0 Ke) (Hi K a) [e,it] e (λi h=>(∃old,IsEnum h e it i old)/\h.IsListIter it a i) where
 mem:=by simp
 obj:=λi h st c hc=>by
  obtain⟨⟨old,ge⟩,⟨o1,e1,_,d1⟩⟩:=st;simp only[Uv,UK,Vp]at hc;rcases hc with rfl|rfl
  .exact⟨_,ge,λv q=>by cases q⟩
  .exact⟨_,e1,λv q=>by rw[d1]at q;cases q⟩
 keep:=λi h h' st k=>by
  obtain⟨⟨old,ge⟩,g1⟩:=st;exact⟨⟨old,k e (by simp) _ ge⟩,g1.at λo q=>k it (by simp) o q⟩
 item:=by
  walk_at "2";subst hP hw hK;obtain⟨⟨old,ge⟩,g1⟩:=st;obtain⟨xs,x,M7,hx⟩:=hg;obtain⟨ia,ra,pa,za⟩:=I.list M7;obtain⟨u,hu,ru⟩:=ra.get hx;refine wpAny_pyNext_enum_item ge g1 pa.isList (x:=u) (by simpa using hu) hei λg a1 a2 a3 a4 a5=>?_;refine⟨_,rfl,wpAny_letOwnedTupleGo_enum (s:={ s with heap:=g,toks:=s.toks+1 }) a1 λg' z' q'=>?_⟩;have kk:∀c o,c ∉ [e,it]->s.heap.get? c=some o->g'.get? c=some o:=λc o hc q=>by
   simp only[Uv,UK,Vp,not_or]at hc;exact(q'.2 c hc.1).trans (a5 c o hc.1 hc.2 q)
  have I1:Inv X pins σ H { s with heap:=g',toks:=s.toks+1 }:=I.Kw kk hf;have f0:gM X pins H s.heap.objs.size:=I.LB (Uo _) (I.hok.fresh (Uo _));have Rp:s.heap.objs.size≠e:=Wj (Ux ge);have eT:JG g' s.heap.objs.size [Value.int i s.toks,u].toArray:=⟨_,(q'.2 _ Rp).trans a3,rfl,rfl,_,rfl⟩
  have I2:=I1.M6 (ys:=[.int i,x]) f0 eT (.cons ⟨_,rfl⟩ (.cons ru .nil)) (by show 2<=sizeLine;decide);refine⟨.ref s.heap.objs.size,_,I2,rfl,⟨s.heap.objs.size,x,rfl,f0.1,rfl,λxs' h1=>by rw[I.LX h1 M7];exact hx⟩,⟨⟨u,by simpa using z'⟩,a2.at λo q=>(q'.2 it hei.symm).trans q⟩,λc hc=>?_⟩;have hlt:c < s.heap.objs.size:=by
   obtain⟨o1,e1,_⟩:=g1;simp only[Uv,UK,Vp]at hc;rcases hc with rfl|rfl
   .exact Ux ge
   .exact Ux e1
  rw[aM (US hlt)];exact(hf c hc).1
 done:=by
  walk_at "2";subst hP hw hK;obtain⟨⟨old,ge⟩,g1⟩:=st;obtain⟨xs,M7,hl⟩:=hg;obtain⟨ia,ra,pa,za⟩:=I.list M7;have la:=ra.length;refine wpAny_pyNext_enum_end (I.ok.hd hc) ge g1 pa.isList (by simp;omega) λg kk=>⟨rfl,I.Kw (t':=s.toks) (λc o hc q=>?_) hf⟩
  simp only[Uv,UK,Vp,not_or]at hc;exact kk c o hc.2 q
 self:=λ_ _ _ _ _ st h=>by
  obtain⟨⟨old,ge⟩,_⟩:=st;exact Xu ge h
end L2
namespace Et
open PySem
open Sem (wp)
open AutoSeq1 (wpAny_loadPart')
def BU{P:Program}{w:World}{A:Around}(hh:A.handled=none)(it t:Addr)(hne:t≠it)(its:Vw) :
  Draws P w A it [it,t] its.size (λi v=>its[i]?=some v) (λi h=>h.IsTupleIter it t i/\h.IsTuple t its) where
 live:=λi h st=>let ⟨⟨o,e,_⟩,_⟩:=st;⟨o,e⟩
 frame:=λi h h' st k=>⟨st.1.at λo e=>k it (by simp) o e,let ⟨o,e,r⟩:=st.2;⟨o,k t (by simp) o e,r⟩⟩
 item:=λi s Q E hi st hQ=>Zt.nx st.1 st.2 (W2 hi) λg a b=>hQ _ g s.toks (W2 hi) ⟨a,st.2.extBut b.extBut hne⟩ b
 done:=λs Q E st hE=>Zt.HV hh st.1 st.2 (WK (Uo _)) hE
noncomputable abbrev E1(h:Heap)(l:Addr):Heap:=h.push { cls:=.type "tuple_iterator",data:=.fields #[.ref l,.int 0 0] }
noncomputable abbrev E2(h:Heap)(l:Addr):Heap:=(E1 h l).push { cls:=.type "enumerate",data:=.fields #[.none,.bool false,.ref h.objs.size,rawInt 0,.none,.none] }
def gv(l:Addr)(its:Vw)(n:Nat)(dct:Option Addr)(sl:Array (Option Value)) :
  Meets (Builtin.«enumerate.__new__» ⟨[.type "enumerate",.ref l],[]⟩) (λ_ R s=>s.heap.get? l=some { cls:=.type "tuple",dict:=dct,data:=.seq its n,slots:=sl }/\R (.ok (.ret (.ref (E1 s.heap l).objs.size))) { s with heap:=E2 s.heap l }):=
 .of_wp λprog w A R s h=>by
  obtain⟨hp,g,d,tk,os⟩:=s;obtain⟨hl,h⟩:=h;have hsub:=sub_enumerate;have T:Heap.IsTuple (Shared.heap ⟨hp,g,d,tk,os⟩) l its:=⟨_,hl,rfl,n,rfl⟩
  wp_walk using Vj hl
  refine wpAny_stack_any λst=>Uz ?_
  split
  .rename_i c _ _ _ _ _;cases (c == Value.type "enumerate")
   .wp_walk using Vj hl,U5 T
    exact⟨_,rfl,h⟩
   .wp_walk using Vj hl,U5 T
    exact⟨_,rfl,h⟩
  .wp_walk using Vj hl,U5 T
   exact⟨_,rfl,h⟩
def iL{P:Program}{w:World}{A:Around}{E:Vq}{s:Shared}{l:Addr}{its:Vw}{Q:Vq}(hT:s.heap.IsTuple l its)
  (k:∀g,IsEnum g (s.heap.objs.size+1) s.heap.objs.size 0 .none->g.IsTupleIter s.heap.objs.size l 0->(∀b o,s.heap.get? b=some o->g.get? b=some o)->Q (.ref (s.heap.objs.size+1)) { s with heap:=g }) :
  wpAny (model P w) A (call (.type "enumerate") [.ref l]) Q E s:=by
 obtain⟨⟨c,dct,dt,sl⟩,hl,hc,n,hd⟩:=hT
 replace hc:c = .type "tuple":=hc
 replace hd:dt = .seq its n:=hd
 subst hc hd;refine callType_new F.called_enumerate (by decide) (F.typeCall_enumerate_1 _) (F.newCall_enumerate_1 _) (λobj=>F.args_object_init_2 obj _) F.entry_enumerate_new (gv l its n dct sl) ⟨hl,?_⟩;have hz:(E1 s.heap l).objs.size=s.heap.objs.size+1:=VH ..;show _/\_;rw[hz];have he:IsEnum (E2 s.heap l) (s.heap.objs.size+1) s.heap.objs.size 0 .none:=by
  have q:=UC (E1 s.heap l) (o:={ cls:=.type "enumerate",data:=.fields #[.none,.bool false,.ref s.heap.objs.size,rawInt 0,.none,.none] }) rfl;rw[hz]at q;exact q
 exact⟨⟨_,he,rfl⟩,k _ he ⟨_,Up _ (UC _ rfl),rfl,rfl⟩ λb o x=>Up _ (Up _ x)⟩
end Et
namespace L2
open PySem PySem.Spec PyProof.Rows
noncomputable def Hj(K:Vo)(a:Addr):It:=
  ⟨λi H=>∃xs x,SqT K H a xs/\xs[i]?=some x,
   λi H v H'=>∃p x,v = .ref p/\H p=none/\H'=upd H p (.tup [.int (i:Nat),x])/\∀xs,SqT K H a xs->xs[i]?=some x,
   λi H=>∃xs,SqT K H a xs/\xs.length=i⟩
def ua{P:Program}{w:World}{K:Vo}{elts:List Expr}{k0:Nat}{Ke:Pos}{e it a:Addr}(hei:e≠it)(Ti:a≠e)(hai:a≠it) :
  nl P w K (.Tuple elts k0 Ke) (Hj K a) [e,it] e (λi h=>(∃old,IsEnum h e it i old)/\h.IsTupleIter it a i) where
 mem:=by simp
 obj:=λi h st c hc=>by
  obtain⟨⟨old,ge⟩,⟨o1,e1,_,d1⟩⟩:=st;simp only[Uv,UK,Vp]at hc;rcases hc with rfl|rfl
  .exact⟨_,ge,λv q=>by cases q⟩
  .exact⟨_,e1,λv q=>by rw[d1]at q;cases q⟩
 keep:=λi h h' st k=>by
  obtain⟨⟨old,ge⟩,g1⟩:=st;exact⟨⟨old,k e (by simp) _ ge⟩,g1.at λo q=>k it (by simp) o q⟩
 item:=by
  walk_at "2";subst hP hw hK;obtain⟨⟨old,ge⟩,g1⟩:=st;obtain⟨xs,x,M7,hx⟩:=hg;obtain⟨ia,ra,pa,za⟩:=I.tuple M7;obtain⟨u,hu,ru⟩:=ra.get hx;have hil:i < ia.toArray.size:=by
   rcases Nat.lt_or_ge i ia.length with q|q
   .simpa using q
   .rw[V3 q]at hu;cases hu
  refine wpAny_pyNext_enum_itemD (Et.BU (P:=X.prog) (w:=X.w) (A:=X.A.in1) (I.ok.hd hc) it a hai ia.toArray) ge ⟨g1,(show s.heap.IsTuple a ia.toArray from pa)⟩ hil hei (by simp[hei,Ww Ti]) λv g tk hv a1 a2 a3 a4 a5=>?_;have ev:v=u:=by
   have q:ia[i]?=some v:=by simpa using hv
   rw[q]at hu;exact Vx hu
  subst ev;refine⟨_,rfl,wpAny_letOwnedTupleGo_enum (s:={ s with heap:=g,toks:=tk+1 }) a1 λg' z' q'=>?_⟩;have kk:∀c o,c ∉ [e,it]->s.heap.get? c=some o->g'.get? c=some o:=λc o hc q=>by
   simp only[Uv,UK,Vp,not_or]at hc;exact(q'.2 c hc.1).trans (a5 c o hc.1 hc.2 q)
  have I1:Inv X pins σ H { s with heap:=g',toks:=tk+1 }:=I.Kw kk hf;have f0:gM X pins H s.heap.objs.size:=I.LB (Uo _) (I.hok.fresh (Uo _));have Rp:s.heap.objs.size≠e:=Wj (Ux ge);have eT:JG g' s.heap.objs.size [Value.int i tk,v].toArray:=⟨_,(q'.2 _ Rp).trans a3,rfl,rfl,_,rfl⟩
  have I2:=I1.M6 (ys:=[.int i,x]) f0 eT (.cons ⟨_,rfl⟩ (.cons ru .nil)) (by show 2<=sizeLine;decide);refine⟨.ref s.heap.objs.size,_,I2,rfl,⟨s.heap.objs.size,x,rfl,f0.1,rfl,λxs' h1=>by rw[I.Md h1 M7];exact hx⟩,⟨⟨v,by simpa using z'⟩,a2.1.at λo q=>(q'.2 it hei.symm).trans q⟩,λc hc=>?_⟩;have hlt:c < s.heap.objs.size:=by
   obtain⟨o1,e1,_⟩:=g1;simp only[Uv,UK,Vp]at hc;rcases hc with rfl|rfl
   .exact Ux ge
   .exact Ux e1
  rw[aM (US hlt)];exact(hf c hc).1
 done:=by
  walk_at "2";subst hP hw hK;obtain⟨⟨old,ge⟩,g1⟩:=st;obtain⟨xs,M7,hl⟩:=hg;obtain⟨ia,ra,pa,za⟩:=I.tuple M7;have la:=ra.length;have ei:i=ia.toArray.size:=by simp;omega
  subst ei;refine wpAny_pyNext_enum_endD (Et.BU (P:=X.prog) (w:=X.w) (A:=X.A.in1) (I.ok.hd hc) it a hai ia.toArray) ge ⟨g1,(show s.heap.IsTuple a ia.toArray from pa)⟩ λg kk=>⟨rfl,I.Kw (t':=s.toks) (λc o hc q=>?_) hf⟩
  simp only[Uv,UK,Vp,not_or]at hc;exact kk c o hc.2 q
 self:=λ_ _ _ _ _ st h=>by
  obtain⟨⟨old,ge⟩,_⟩:=st;exact Xu ge h
section
variable {X:Cx}
def wo:jD X (compareOp .IsNot) (λx y H Q=>x = .bl true/\y = .bl true/\Q (.bl false) H):=by
 walk_at "4";obtain⟨rfl,rfl,q⟩:=h;cases (show v=Value.bool true from rx);cases (show u=Value.bool true from ry);exact wpAny_isNot_self rfl ⟨.bl false,H,I,rfl,q⟩
end
def ye(w:World)(x:Str):PyData.keyHash w.params x=hashStr w x:=rfl
noncomputable abbrev GH(w:World)(x:Str×Int×Tok×Tok):DictEntry:=⟨PyData.keyHash w.params x.1,.str x.1 x.2.2.1,.int x.2.1 x.2.2.2⟩
def Du(P:Program)(w:World)(xs:List (Str×Int×Tok×Tok))(ep:Nat)(nd:(xs.map (·.1)).Nodup) :
  ∃vs,KV (xs.map λx=>((Sum.inr x.1:bN),V.int x.2.1)) vs/\Obj.IsDictOf (bi P w) { cls:=.type "dict",data:=.dict (xs.map (GH w)).toArray ep } vs:=by
 refine⟨xs.map λx=>((Sum.inr x.1:bN),Value.int x.2.1 x.2.2.2),?_,(xs.map (GH w)).toArray,ep,⟨rfl,rfl,rfl⟩,rfl,?_,?_,?_⟩
 .induction xs with
  |nil=>exact .nil
  |cons x xs ih=>exact .cons ⟨rfl,_,rfl⟩ (ih (by simpa using(VE.mp (by simpa using nd)).2))
 .intro e he;have he':e∈xs.map (GH w):=by simpa using he
  obtain⟨x,_,rfl⟩:=UU.mp he';exact⟨Sum.inr x.1,lB x.1 x.2.2.1,ye w x.1⟩
 .have key:∀ys:List (Str×Int×Tok×Tok),Pairs (bi P w) (ys.map (GH w)) (ys.map λx=>((Sum.inr x.1:bN),Value.int x.2.1 x.2.2.2)):=by
   intro ys
   induction ys with
   |nil=>exact .nil
   |cons y ys ih=>exact .cons (lB y.1 y.2.2.1) rfl ih
  exact key xs
 .rw[UQ];have e:((λx:bN×Value=>x.1) ∘ λx:Str×Int×Tok×Tok=>((Sum.inr x.1:bN),Value.int x.2.1 x.2.2.2))=λx=>Sum.inr x.1:=rfl;have key:∀ys:List (Str×Int×Tok×Tok),(ys.map (·.1)).Nodup->(ys.map λx=>(Sum.inr x.1:bN)).Nodup:=by
   intro ys
   induction ys with
   |nil=>intro _;exact Yk
   |cons y ys ih=>
    intro h;rw[UA,VE]at h ⊢;refine⟨λhm=>h.1 ?_,ih h.2⟩;obtain⟨z,hz,e⟩:=UU.mp hm;have e':z.1=y.1:=Sum.inr.inj e;exact UU.mpr ⟨z,hz,e'⟩
  exact key xs nd
end L2
namespace Wd
open PySem L2 PyProof.Rows
noncomputable def abc:Str:="abcdefghijklmnopqrstuvwxyz"
noncomputable def Kf:List Str:=["jars","deed","rest","pay","put","then","either","take","often","use"]
def Dv:∀i,i < 26->abc.cps.toList[i]?=some (97+i):=by decide +kernel
def mY:abc.length<=sizeLine/\abc.cps.toList.length=26:=by decide +kernel
def yf:∀i,i < 26->Builtin.Str.occurrences abc (lG (97+i)) 0 abc.length 1=[i]:=by decide +kernel
theorem va{α:Type} [BEq α] [LawfulBEq α]:∀{xs ys:List α},xs.Nodup->(∀x∈xs,x∈ys)->xs.length<=ys.length
 |[],ys,_,_=>UT _
 |x::xs,ys,nd,h=>by
  have hx:=h x (V4 ..);have q:=va (xs:=xs) (ys:=ys.erase x) (VE.mp nd).2 λy hy=>by
   have ne:y≠x:=λe=>(VE.mp nd).1 (e▸hy);exact(List.mem_erase_of_ne ne).mpr (h y (VG _ hy))
  rw[List.length_erase_of_mem hx]at q;have:=Xv hx;rw[UE];omega
noncomputable def cand(r:List Nat)(i:Nat):Str:=⟨((97+i % 26)::r).toArray⟩
def yg{r:List Nat}{i j:Nat}(h:cand r i=cand r j):i % 26=j % 26:=by
 have e:(((97+i % 26)::r).toArray).toList=(((97+j % 26)::r).toArray).toList:=Vf (λz:Str=>z.cps.toList) h;simp only[List.cons.injEq]at e;omega
def ub(r:List Nat)(c:Nat):((List.range 26).map λi=>cand r (c+i)).Nodup:=by
 refine List.pairwise_map.mpr (List.Pairwise.imp_of_mem (R:=(·≠·)) ?_ List.nodup_range);intro a b ha hb ne e;have h1:=Wk.mp ha;have h2:=Wk.mp hb;have h3:=yg e;omega
def wq(r:List Nat)(c:Nat)(bad:Vs)(h:bad.length < 26):∃j,j < 26/\cand r (c+j) ∉ bad:=by
 refine Classical.byContradiction λno=>?_;have q:=va (ub r c) (ys:=bad) λx hx=>by
  obtain⟨j,hj,rfl⟩:=UU.mp hx;exact Classical.byContradiction λz=>no ⟨j,Wk.mp hj,z⟩
 rw[Ul,Yn]at q;omega
structure M8(z:Str):Prop where
 ne:z.cps.toList≠[]
 le:z.cps.toList.length<=6
 sm:∀c∈z.cps.toList,97<=c/\c<=122
theorem M8.cand{z:Str}(h:M8 z):∃i r,z=Wd.cand r i/\i < 26/\r.length<=5/\∀c∈r,97<=c/\c<=122:=by
 obtain⟨⟨⟨l⟩⟩,ne,le,sm⟩:∃z',_/\_/\_:=⟨z,h.ne,h.le,h.sm⟩
 obtain⟨⟨l⟩⟩:=z;cases l with
 |nil=>exact absurd rfl h.ne
 |cons c r=>
  have q:=h.sm c (V4 ..);refine⟨c - 97,r,?_,by omega,by have:=h.le;simp at this;omega,λd hd=>h.sm d (VG _ hd)⟩;unfold Wd.cand;rw[show 97+(c - 97) % 26=c by omega]
def yh{r:List Nat}(h:r.length<=5)(hs:∀c∈r,97<=c/\c<=122)(i:Nat):M8 (cand r i):=by
 refine⟨by simp[cand],by simp[cand];omega,λc hc=>?_⟩;have hc':c∈(97+i % 26)::r:=hc;rcases Uv.mp hc' with e|e
 .omega
 .exact hs c e
def M8.len{z:Str}(h:M8 z):z.length<=6:=by have q:=h.le;rw[V1]at q;exact q
def M8.line{z:Str}(h:M8 z):z.length<=sizeLine:=UJ h.len (by decide)
def pF(r:List Nat)(i:Nat):JU (cand r i).cps.toList 0=some (97+i % 26):=bj (j:=0) rfl
def jm(r:List Nat)(i:Nat):Txt.slice (cand r i) (some 1) none=⟨r.toArray⟩:=by
 have e:Txt.slice (cand r i) (some 1) none=StrLaws.sliceText (cand r i) (some 1) none:=rfl;rw[e,StrLaws.sliceText_from ⟨by decide,by simp[cand];omega⟩];simp[cand]
def pG(r:List Nat)(i:Nat):(lG (97+(i+1) % 26):Str)++(⟨r.toArray⟩:Str)=cand r (i+1):=by
 refine Str.ext' ?_;show #[97+(i+1) % 26]++r.toArray=_;simp[cand]
def qy(i:Nat):JU abc.cps.toList ((i % 26:Nat):Int)=some (97+i % 26):=bj (Dv _ (Nat.mod_lt _ (by decide)))
def nF(cs:List Nat):Txt.join "" (cs.map lG)=⟨cs.toArray⟩:=by
 have q:=join_nil_signs ⟨cs.toArray⟩;have e:Txt.join "" (cs.map lG)=Str.join ⟨#[]⟩ (cs.map lG):=StrLaws.glued_eq_join _ _;rw[e];exact q
def AC(cs:List Nat):((cs.map lG).map (·.length)).sum=cs.length:=by
 induction cs with
 |nil=>rfl
 |cons c r ih=>rw[UA,UA,List.sum_cons,ih,UE];show 1+r.length=_;omega
def AD{cs:List Nat}{a i:Nat}(h:cs.length<=5)(hs:∀c∈cs,97<=c/\c<=122)(ha:a<=cs.length)(hi:i < 26) :
  M8 (Txt.slice ⟨cs.toArray⟩ none (some (a:Int))++(lG (97+i):Str)++Txt.slice ⟨cs.toArray⟩ (some (a:Int)) none)/\(Txt.slice ⟨cs.toArray⟩ none (some (a:Int))).length<=5/\(Txt.slice ⟨cs.toArray⟩ (some (a:Int)) none).length<=5:=by
 have e1:Txt.slice ⟨cs.toArray⟩ none (some (a:Int))=⟨(cs.take a).toArray⟩:=by
  have e:Txt.slice ⟨cs.toArray⟩ none (some (a:Int))=StrLaws.sliceText ⟨cs.toArray⟩ none (some (a:Int)):=rfl;rw[e,StrLaws.sliceText_to ⟨by omega,by simp;omega⟩];simp
 have e2:Txt.slice ⟨cs.toArray⟩ (some (a:Int)) none=⟨(cs.drop a).toArray⟩:=by
  have e:Txt.slice ⟨cs.toArray⟩ (some (a:Int)) none=StrLaws.sliceText ⟨cs.toArray⟩ (some (a:Int)) none:=rfl;rw[e,StrLaws.sliceText_from ⟨by omega,by simp;omega⟩];refine Str.ext' ?_;show((cs.drop (a:Int).toNat).take ((cs.length:Int) - a).toNat).toArray=(cs.drop a).toArray;rw[Vk,Xw (by rw[VM];omega)]
 rw[e1,e2];have e3:((⟨(cs.take a).toArray⟩:Str)++(lG (97+i):Str)++(⟨(cs.drop a).toArray⟩:Str)).cps.toList=cs.take a++[97+i]++cs.drop a:=by
  show((cs.take a).toArray++#[97+i]++(cs.drop a).toArray).toList=_;simp
 refine⟨⟨by rw[e3];simp,by rw[e3];simp;omega,λc hc=>?_⟩,?_,?_⟩
 .rw[e3]at hc;rcases Ur.mp hc with hc|hc
  .rcases Ur.mp hc with hc|hc
   .exact hs c (VA hc)
   .rw[Uy.mp hc];omega
  .exact hs c (XY hc)
 .show(cs.take a).toArray.size<=5;rw[Uw,Vi];omega
 .show(cs.drop a).toArray.size<=5;rw[Uw,VM];omega
end Wd
namespace M3
noncomputable def cz(t b:Int):Int:=(if b < 0 then -t else t) / (Int.gcd t b:Int)
noncomputable def bC(t b:Int):Int:=(if b < 0 then -b else b) / (Int.gcd t b:Int)
def jo{t b:Int}(h:b≠0):0 < Int.gcd t b:=Nat.gcd_pos_of_pos_right _ (by omega)
def yi{t b:Int}(h:b≠0):(Int.gcd t b:Int)<=b.natAbs:=by
 have q:Nat.gcd t.natAbs b.natAbs<=b.natAbs:=Nat.gcd_le_right _ (by omega);have e:Int.gcd t b=Nat.gcd t.natAbs b.natAbs:=rfl;omega
def yj(t b:Int):Int.gcd (-t) (-b)=Int.gcd t b:=by rw[Int.gcd_neg,Int.neg_gcd]
def parts(t b:Int):∃x y:Int,t=(Int.gcd t b:Int) * x/\b=(Int.gcd t b:Int) * y:=by
 obtain⟨x,hx⟩:=Int.gcd_dvd_left t b;obtain⟨y,hy⟩:=Int.gcd_dvd_right t b;exact⟨x,y,hx,hy⟩
def uc{t b x y g:Int}(hg:g=(Int.gcd t b:Int))(h:b≠0)(ht:t=g * x)(hb:b=g * y):cz t b=(if y < 0 then -x else x)/\bC t b=(if y < 0 then -y else y):=by
 have gp:0 < g:=by rw[hg];exact Xe.mpr (jo h)
 have hy:b < 0↔y < 0:=by
  rw[hb]
  constructor
  .intro q;by_cases z:y < 0
   .exact z
   .have:=VI (Wx gp) (Int.not_lt.mp z);omega
  .intro q;exact Int.mul_neg_of_pos_of_neg gp q
 unfold cz bC;rw[<-hg];by_cases z:y < 0
 .rw[if_pos (hy.mpr z),if_pos (hy.mpr z),if_pos z,if_pos z]
  constructor
  .rw[ht,<-Int.mul_neg,WB _ (by omega)]
  .rw[hb,<-Int.mul_neg,WB _ (by omega)]
 .rw[if_neg (λq=>z (hy.mp q)),if_neg (λq=>z (hy.mp q)),if_neg z,if_neg z]
  constructor
  .rw[ht,WB _ (by omega)]
  .rw[hb,WB _ (by omega)]
def AE{t b x y:Int}(h:b≠0)(ht:t=(Int.gcd t b:Int) * x)(hb:b=(Int.gcd t b:Int) * y):Int.gcd x y=1:=by
 have gp:=jo (t:=t) h;have q:Int.gcd ((Int.gcd t b:Int) * x) ((Int.gcd t b:Int) * y)=(Int.gcd t b:Int).natAbs * Int.gcd x y:=Int.gcd_mul_left _ _ _;rw[<-ht,<-hb,Int.natAbs_natCast]at q;have q2:Int.gcd t b * 1=Int.gcd t b * Int.gcd x y:=by omega
 exact(Nat.eq_of_mul_eq_mul_left gp q2).symm
structure GI(a b:Int):Prop where
 pos:0 < b
 one:Int.gcd a b=1
def qz{t b:Int}(h:b≠0):GI (cz t b) (bC t b):=by
 obtain⟨x,y,ht,hb⟩:=parts t b;have c:=AE h ht hb;obtain⟨e1,e2⟩:=uc rfl h ht hb;have y0:y≠0:=λz=>h (by rw[hb,z,Ys]);rw[e1,e2];by_cases z:y < 0
 .rw[if_pos z,if_pos z];exact⟨by omega,by rw[yj];exact c⟩
 .rw[if_neg z,if_neg z];exact⟨by omega,c⟩
def jW{a b x y:Int}(L:GI a b)(hy:0 < y)(e:x * b=a * y):cz x y=a/\bC x y=b:=by
 have b0:=L.pos;have d1:b.natAbs ∣ a.natAbs * y.natAbs:=by
  rw[<-Int.natAbs_mul,<-e,Int.natAbs_mul];exact Nat.dvd_mul_left _ _
 have c:Nat.Coprime b.natAbs a.natAbs:=by
  show Nat.gcd b.natAbs a.natAbs=1;rw[Nat.gcd_comm];exact L.one
 obtain⟨k,hk⟩:=Int.natAbs_dvd_natAbs.mp (c.dvd_of_dvd_mul_left d1);have k0:0 < k:=by
  by_cases z:0 < k
  .exact z
  .have:=VI (Wx b0) (show 0 <= -k by omega);rw[Int.mul_neg]at this;omega
 have hx:x=a * k:=by
  have q:x * b=a * k * b:=by rw[e,hk,Int.mul_assoc,Wy k b]
  exact Int.eq_of_mul_eq_mul_right (by omega) q
 have g:(Int.gcd x y:Int)=k:=by
  rw[hx,hk,Int.gcd_mul_right,L.one,Nat.one_mul];omega
 have q:=uc (g:=k) (x:=a) (y:=b) (t:=x) (b:=y) g.symm (by omega) (by rw[hx,Wy]) (by rw[hk,Wy]);rw[if_neg (by omega),if_neg (by omega)]at q;exact q
def wt{t b:Int}(h:b≠0):cz t b * b=t * bC t b:=by
 obtain⟨x,y,ht,hb⟩:=parts t b;obtain⟨e1,e2⟩:=uc rfl h ht hb;rw[e1,e2];have q:x * b=t * y:=by
  have e3:x * ((Int.gcd t b:Int) * y)=(Int.gcd t b:Int) * x * y:=by rw[<-Int.mul_assoc,Wy x]
  rw[<-ht,<-hb]at e3;exact e3
 by_cases z:y < 0
 .rw[if_pos z,if_pos z,Xj,Int.mul_neg,q]
 .rw[if_neg z,if_neg z];exact q
def sk{t b:Int}(h:b≠0):t.fdiv (if b < 0 then -(Int.gcd t b:Int) else (Int.gcd t b:Int))=cz t b/\b.fdiv (if b < 0 then -(Int.gcd t b:Int) else (Int.gcd t b:Int))=bC t b:=by
 have gp:(0:Int) < (Int.gcd t b:Int):=Xe.mpr (jo h);have d1:=Int.gcd_dvd_left t b;have d2:=Int.gcd_dvd_right t b;unfold cz bC;by_cases z:b < 0
 .rw[if_pos z,if_pos z,if_pos z,Int.fdiv_neg (by omega),if_pos d1,Int.fdiv_neg (by omega),if_pos d2,WD d1,WD d2,Int.neg_ediv_of_dvd d1,Int.neg_ediv_of_dvd d2];exact⟨rfl,rfl⟩
 .rw[if_neg z,if_neg z,if_neg z,WD d1,WD d2];exact⟨rfl,rfl⟩
def sn(x y:Int):Int.gcd y (x.fmod y)=Int.gcd x y:=by
 have q:=Int.mul_fdiv_add_fmod x y;have e:Int.gcd y (x.fmod y+x.fdiv y * y)=Int.gcd y (x.fmod y):=Int.gcd_add_mul_right_right _ _ _;rw[<-e,Wy (x.fdiv y) y,Int.add_comm,q,Int.gcd_comm]
def yk{t b T B:Int}(h:b≠0)(h1:-T<=t)(h2:t<=T)(h3:-B<=b)(h4:b<=B)(hT:0<=T)(hB:0<=B):-T<=cz t b/\cz t b<=T/\0 < bC t b/\bC t b<=B:=by
 have gp:(0:Int) < (Int.gcd t b:Int):=Xe.mpr (jo h);have L:=(qz (t:=t) h).pos;have key:∀z M:Int,0<=M->-M<=z->z<=M->-M<=z / (Int.gcd t b:Int)/\z / (Int.gcd t b:Int)<=M:=λz M hM z1 z2=>by
  generalize (Int.gcd t b:Int)=g at gp;have m2:M * 1<=M * g:=Wb (by omega) hM;have m3:-M * g = -(M * g):=Xj M g;exact⟨Int.le_ediv_of_mul_le gp (by omega),Int.ediv_le_of_le_mul gp (by omega)⟩
 have k1:=key (if b < 0 then -t else t) T hT (by split<;>omega) (by split<;>omega);have k2:=key (if b < 0 then -b else b) B hB (by split<;>omega) (by split<;>omega);exact⟨k1.1,k1.2,L,k2.2⟩
end M3
namespace Xc
open PySem PySem.W PySem.Calls PyProof.Rows Builtin Builtin.ObjectAttr
structure Hk(h:Heap)(e:Addr)(oe:Obj)(vs:Vw):Prop where
 at_:h.get? e=some oe
 dat:oe.data = .fields vs
 tb:vs[1]?=some .none\/∃T oT ts,vs[1]?=some (.ref T)/\T≠e/\h.get? T=some oT/\oT.data = .fields ts/\ts[3]?=some .none
end Xc
namespace L2
open PySem PySem.Spec PyProof.Rows Xc
def Il(X:Cx)(pins:Va)(H:Hp)(h:Heap)(a C dx:Addr):Prop:=
 ∃oe vs,Hk h a oe vs/\oe.cls = .ref C/\oe.dict=some dx/\gM X pins H a/\∀T,vs[1]?=some (.ref T)->gM X pins H T
def XD(dx:Addr)(fs:List (Str×V))(h:Heap):Prop:=∃mA,h.Ns1 dx mA/\(∀f,RelO (fs.lookup f) (mA f))/\PySem.Within mA (fs.map (·.1))
end L2
namespace L3
open PySem L2
inductive PV where
 |non|bl (b:Bool)|int (i:Int)|str (x:Str)|tup (xs:List PV)|cl (xs:List PV)|ref (a:Addr)|ty (n:String)|exc (c:Str) (ks:Vs) (ps:List PV)|cls (c:Str)
def P7(K:Vo)(H:Hp)(a:Addr)(xs:List V):Prop:=
 (∃o,H a=some (.frz o (.lst xs))) \/
  ∃(o:Obj) (its:Vw) (n:Nat),K.lookup a=some o/\o.cls = .type "list"/\o.dict=none/\o.data = .seq its n/\its.size<=sizeLine/\Vals xs its.toList
def P7.sq{K:Vo}{H:Hp}{a:Addr}{xs:List V}(h:P7 K H a xs):SqL K H a xs:=h.elim (λz=>.inl (.inr z)) .inr
def QJ(H:Hp)(a C:Addr)(ks:Vs)(vs:List V):Prop:=
 ∃oe dx od,H a=some (.frz oe (.ext λ_=>True))/\oe.cls = .ref C/\oe.dict=some dx/\(∀c,oe.data ≠ .cls c)/\H dx=some (.frz od (.ext (XD dx (ks.zip vs))))
def AF(K:Vo)(c:Str)(C:Addr):Prop:=PySem.W.nsIn K mainGlobals c=some (some (.ref C))
mutual
inductive Rep(K:Vo)(H:Hp):V->PV->Prop
 |non:Rep K H .non .non
 |bl (b:Bool):Rep K H (.bl b) (.bl b)
 |int (i:Int):Rep K H (.int i) (.int i)
 |str (x:Str):Rep K H (.str x) (.str x)
 |ty (n:String):Rep K H (.ty n) (.ty n)
 |ref (a:Addr):Rep K H (.ref a) (.ref a)
 |tup {a:Addr} {vs:List V} {ps:List PV}:SqT K H a vs->Reps K H vs ps->Rep K H (.ref a) (.tup ps)
 |cl {a:Addr} {vs:List V} {ps:List PV}:P7 K H a vs->Reps K H vs ps->Rep K H (.ref a) (.cl ps)
 |exc {a C:Addr} {c:Str} {ks:Vs} {vs:List V} {ps:List PV}:AF K c C->QJ H a C ks vs->Reps K H vs ps->Rep K H (.ref a) (.exc c ks ps)
 |cls {C:Addr} {c:Str}:AF K c C->Rep K H (.ref C) (.cls c)
inductive Reps(K:Vo)(H:Hp):List V->List PV->Prop
 |nil:Reps K H [] []
 |cons {v:V} {p:PV} {vs:List V} {ps:List PV}:Rep K H v p->Reps K H vs ps->Reps K H (v::vs) (p::ps)
end
structure Grow(K:Vo)(H H':Hp):Prop where
 t:∀a vs,SqT K H a vs->SqT K H' a vs
 c:∀a vs,P7 K H a vs->P7 K H' a vs
 x:∀a o u,H a=some (.frz o u)->H' a=some (.frz o u)
def Grow.refl{K:Vo}{H:Hp}:Grow K H H:=⟨λ_ _ h=>h,λ_ _ h=>h,λ_ _ _ h=>h⟩
def Grow.trans{K:Vo}{H H1 H2:Hp}(a:Grow K H H1)(b:Grow K H1 H2):Grow K H H2:=⟨λx vs h=>b.t x vs (a.t x vs h),λx vs h=>b.c x vs (a.c x vs h),λx o u h=>b.x x o u (a.x x o u h)⟩
def QJ.mono{K:Vo}{H H':Hp}(g:Grow K H H'){a C:Addr}{ks:Vs}{vs:List V}(h:QJ H a C ks vs):QJ H' a C ks vs:=let ⟨oe,dx,od,h1,h2,h3,h4,h5⟩:=h;⟨oe,dx,od,g.x _ _ _ h1,h2,h3,h4,g.x _ _ _ h5⟩
def Grow.of{K:Vo}{H H':Hp}(h:∀a xs,H a=some (.tup xs)->H' a=some (.tup xs))(h2:∀a o u,H a=some (.frz o u)->H' a=some (.frz o u)):Grow K H H':=by
 refine⟨λa vs q=>?_,λa vs q=>?_,h2⟩
 .rcases q with(q|⟨o,q⟩)|q
  .exact .inl (.inl (h a vs q))
  .exact .inl (.inr ⟨o,h2 a o _ q⟩)
  .exact .inr q
 .rcases q with⟨o,q⟩|q
  .exact .inl ⟨o,h2 a o _ q⟩
  .exact .inr q
def Grow.same{K:Vo}{H H':Hp}(h:∀c o,H c=some o->H' c=some o):Grow K H H':=.of (λa _ q=>h a _ q) (λa _ _ q=>h a _ q)
def Grow.new{K:Vo}{H:Hp}{p:Addr}{o:HO}(h:H p=none):Grow K H (upd H p o):=.same λc u q=>by rw[aM (bu q h)];exact q
noncomputable def Mu:HO->Prop
 | .tup _=>False
 | .frz _ _=>False
 |_=>True
def Grow.mut{K:Vo}{H:Hp}{p:Addr}{o u:HO}(h:H p=some u)(m:Mu u):Grow K H (upd H p o):=
 .of (λa xs q=>by rw[aM (λe=>by subst e;rw[h]at q;cases q;exact m)];exact q) (λa _ _ q=>by rw[aM (λe=>by subst e;rw[h]at q;cases q;exact m)];exact q)
mutual
theorem Rep.mono{K:Vo}{H H':Hp}(g:Grow K H H'):∀{v:V}{p:PV},Rep K H v p->Rep K H' v p
 |_,_,.non=>.non
 |_,_,.bl b=>.bl b
 |_,_,.int i=>.int i
 |_,_,.str x=>.str x
 |_,_,.ty n=>.ty n
 |_,_,.ref a=>.ref a
 |_,_,.tup h r=>.tup (g.t _ _ h) (Reps.mono g r)
 |_,_,.cl h r=>.cl (g.c _ _ h) (Reps.mono g r)
 |_,_,.exc n h r=>.exc n (h.mono g) (Reps.mono g r)
 |_,_,.cls n=>.cls n
theorem Reps.mono{K:Vo}{H H':Hp}(g:Grow K H H'):∀{vs:List V}{ps:List PV},Reps K H vs ps->Reps K H' vs ps
 |_,_,.nil=>.nil
 |_,_,.cons a r=>.cons (Rep.mono g a) (Reps.mono g r)
end
theorem Reps.length{K:Vo}{H:Hp}:∀{vs:List V}{ps:List PV},Reps K H vs ps->vs.length=ps.length
 |_,_,.nil=>rfl
 |_,_,.cons _ r=>by rw[UE,UE,Reps.length r]
theorem Reps.append{K:Vo}{H:Hp}:∀{vs us:List V}{ps qs:List PV},Reps K H vs ps->Reps K H us qs->Reps K H (vs++us) (ps++qs)
 |_,_,_,_,.nil,s=>s
 |_,_,_,_,.cons a r,s=>.cons a (Reps.append r s)
theorem Reps.get{K:Vo}{H:Hp}:∀{vs:List V}{ps:List PV}{i:Nat}{p:PV},Reps K H vs ps->ps[i]?=some p->∃v,vs[i]?=some v/\Rep K H v p
 |_,_,_,_,.nil,e=>by simp at e
 |_,_,0,_,.cons a r,e=>by simp at e;subst e;exact⟨_,rfl,a⟩
 |_,_,i+1,p,.cons a r,e=>by
  obtain⟨v,h1,h2⟩:=Reps.get (i:=i) (p:=p) r (by simpa using e);exact⟨v,by simpa using h1,h2⟩
theorem Reps.take{K:Vo}{H:Hp}:∀{vs:List V}{ps:List PV}(n:Nat),Reps K H vs ps->Reps K H (vs.take n) (ps.take n)
 |_,_,0,_=>.nil
 |_,_,_+1,.nil=>.nil
 |_,_,n+1,.cons a r=>.cons a (Reps.take n r)
theorem Reps.drop{K:Vo}{H:Hp}:∀{vs:List V}{ps:List PV}(n:Nat),Reps K H vs ps->Reps K H (vs.drop n) (ps.drop n)
 |_,_,0,r=>r
 |_,_,_+1,.nil=>.nil
 |_,_,n+1,.cons _ r=>Reps.drop n r
theorem Reps.set{K:Vo}{H:Hp}{v:V}{p:PV}(q:Rep K H v p):∀{vs:List V}{ps:List PV}(n:Nat),Reps K H vs ps->Reps K H (vs.set n v) (ps.set n p)
 |_,_,_,.nil=>.nil
 |_,_,0,.cons _ r=>.cons q r
 |_,_,n+1,.cons a r=>.cons a (Reps.set q n r)
theorem Reps.eraseIdx{K:Vo}{H:Hp}:∀{vs:List V}{ps:List PV}(n:Nat),Reps K H vs ps->Reps K H (vs.eraseIdx n) (ps.eraseIdx n)
 |_,_,_,.nil=>.nil
 |_,_,0,.cons _ r=>r
 |_,_,n+1,.cons a r=>.cons a (Reps.eraseIdx n r)
theorem Reps.reverse{K:Vo}{H:Hp}:∀{vs:List V}{ps:List PV},Reps K H vs ps->Reps K H vs.reverse ps.reverse
 |_,_,.nil=>.nil
 |_,_,.cons a r=>by rw[Xq,Xq];exact(Reps.reverse r).append (.cons a .nil)
theorem Reps.dropLast{K:Vo}{H:Hp}{vs:List V}{ps:List PV}(r:Reps K H vs ps):Reps K H vs.dropLast ps.dropLast:=by
 rw[List.dropLast_eq_take,List.dropLast_eq_take,r.length];exact r.take _
inductive SO where
 |lst (xs:List PV)
 |dct (kvs:List (bN×PV))
 |ins (c:Str) (fs:List (Str×PV))
abbrev aA:=Addr->Option SO
noncomputable def II(S:aA)(a:Addr)(o:SO):aA:=λb=>if b=a then some o else S b
def ac{S:aA}{a:Addr}{o:SO}:II S a o a=some o:=by unfold II;rw[if_pos rfl]
def ar{S:aA}{a b:Addr}{o:SO}(h:b≠a):II S a o b=S b:=by unfold II;rw[if_neg h]
inductive Jr(K:Vo)(H:Hp){κ:Type}:List (κ×V)->List (κ×PV)->Prop
 |nil:Jr K H [] []
 |cons {k:κ} {v:V} {p:PV} {vs:List (κ×V)} {ps:List (κ×PV)}:Rep K H v p->Jr K H vs ps->Jr K H ((k,v)::vs) ((k,p)::ps)
theorem Jr.mono{K:Vo}{H H':Hp}(g:Grow K H H'){κ:Type}:∀{vs:List (κ×V)}{ps:List (κ×PV)},Jr K H vs ps->Jr K H' vs ps
 |_,_,.nil=>.nil
 |_,_,.cons a r=>.cons (a.mono g) (Jr.mono g r)
theorem Jr.length{K:Vo}{H:Hp}{κ:Type}:∀{vs:List (κ×V)}{ps:List (κ×PV)},Jr K H vs ps->vs.length=ps.length
 |_,_,.nil=>rfl
 |_,_,.cons _ r=>by rw[UE,UE,Jr.length r]
noncomputable def Nv(K:Vo)(H:Hp)(a:Addr):SO->Prop
 | .lst xs=>∃vs,H a=some (.lst vs)/\Reps K H vs xs
 | .dct kvs=>∃kv,H a=some (.dK kv)/\Jr K H kv kvs
 | .ins c fs=>∃C dx f',AF K c C/\H a=some (.ins C dx f')/\Jr K H f' fs
theorem Nv.stay{K:Vo}{H H':Hp}(g:Grow K H H'){a:Addr}(e:H' a=H a):∀{o:SO},Nv K H a o->Nv K H' a o
 | .lst _,⟨vs,h,r⟩=>⟨vs,e.trans h,r.mono g⟩
 | .dct _,⟨vs,h,r⟩=>⟨vs,e.trans h,r.mono g⟩
 | .ins _ _,⟨C,dx,vs,n,h,r⟩=>⟨C,dx,vs,n,e.trans h,r.mono g⟩
theorem Nv.some{K:Vo}{H:Hp}{a:Addr}:∀{o:SO},Nv K H a o->∃u,H a=Option.some u/\Mu u
 | .lst _,⟨_,h,_⟩=>⟨_,h,trivial⟩
 | .dct _,⟨_,h,_⟩=>⟨_,h,trivial⟩
 | .ins _ _,⟨_,_,_,_,h,_⟩=>⟨_,h,trivial⟩
def IQ(K:Vo)(H:Hp)(S:aA):Prop:=∀a o,S a=some o->Nv K H a o
def IQ.free{K:Vo}{H:Hp}{S:aA}(r:IQ K H S){p:Addr}(h:H p=none):S p=none:=by
 cases e:S p with
 |none=>rfl
 |some o=>
  obtain⟨u,q,_⟩:=(r p o e).some;rw[h]at q;cases q
def IQ.grow{K:Vo}{H H':Hp}{S:aA}(r:IQ K H S)(h:∀c o,H c=some o->H' c=some o):IQ K H' S:=λa o e=>by
 obtain⟨u,q,_⟩:=(r a o e).some;exact(r a o e).stay (.same h) ((h a u q).trans q.symm)
def IQ.other{K:Vo}{H:Hp}{S:aA}(r:IQ K H S){p:Addr}{o:HO}(h:H p=none):IQ K (upd H p o) S:=r.grow λc u q=>by rw[aM (bu q h)];exact q
theorem IQ.new{K:Vo}{H:Hp}{S:aA}(r:IQ K H S){p:Addr}{u:HO}{o:SO}(h:H p=none)(q:Nv K (upd H p u) p o):IQ K (upd H p u) (II S p o):=λa x e=>by
 by_cases z:a=p
 .subst z;rw[ac]at e;cases e;exact q
 .rw[ar z]at e;exact(r a x e).stay (.new h) (aM z)
def IQ.put{K:Vo}{H:Hp}{S:aA}(r:IQ K H S){p:Addr}{u0 u:HO}{o:SO}(h:H p=some u0)(m:Mu u0)(q:Nv K (upd H p u) p o):IQ K (upd H p u) (II S p o):=λa x e=>by
 by_cases z:a=p
 .subst z;rw[ac]at e;cases e;exact q
 .rw[ar z]at e;exact(r a x e).stay (.mut h m) (aM z)
abbrev cU:=List (Option PV)
noncomputable def lk:cU->Nat->Option PV
 |[],_=>none
 |x::_,0=>x
 |_::r,i+1=>lk r i
def ym{σ:cU}{i:Nat}{p:PV}(h:lk σ i=some p):σ[i]?=some (some p):=by
 induction σ generalizing i with
 |nil=>cases h
 |cons x r ih=>
  cases i with
  |zero=>exact Vf some h
  |succ i=>exact ih h
structure Jb(K:Vo)(H:Hp)(σ:St)(σ3:cU):Prop where
 len:σ.length=σ3.length
 at':∀(i:Nat) (p:PV),σ3[i]?=some (some p)->∃v,σ[i]?=some (some v)/\Rep K H v p
theorem Jb.mono{K:Vo}{H H':Hp}{σ:St}{σ3:cU}(r:Jb K H σ σ3)(g:Grow K H H'):Jb K H' σ σ3:=⟨r.len,λi p e=>let ⟨v,h,q⟩:=r.at' i p e;⟨v,h,q.mono g⟩⟩
theorem Jb.set{K:Vo}{H:Hp}{σ:St}{σ3:cU}(r:Jb K H σ σ3){v:V}{p:PV}(q:Rep K H v p)(i:Nat):Jb K H (σ.set i (some v)) (σ3.set i (some p)):=by
 refine⟨by rw[V2,V2,r.len],λj x e=>?_⟩;rw[List.getElem?_set]at e ⊢
 split at e
 .rename_i hij;rw[if_pos hij];subst hij
  split at e
  .rename_i hl;cases e;rw[if_pos (by rw[r.len];exact hl)];exact⟨v,rfl,q⟩
  .cases e
 .rename_i hij;rw[if_neg hij];exact r.at' j x e
abbrev bB:=PV->aA->Prop
abbrev bR:=PV->cU->aA->Prop
abbrev ba:=cU->aA->bB->bR->Prop
abbrev kH:=cU->aA->(Bool->aA->Prop)->bR->Prop
abbrev Im:=cU->aA->(List PV->aA->Prop)->bR->Prop
structure mH where
 nx:cU->aA->Prop
 rt:bB
 ex:bR
 bk:cU->aA->Prop:=λ_ _=>False
 ct:cU->aA->Prop:=λ_ _=>False
abbrev bv:=mH->cU->aA->Prop
def Oq(X:Cx)(H:Hp)(E:bR):Prop:=∀(c:Str)(ks:Vs)(ps:List PV)(σ3:cU)(S':aA)(H':Hp)(pins:Va)(σ:St)(s':Shared)(a C dx:Addr)(od:Obj)(vs:List V),E (.exc c ks ps) σ3 S'->AF X.K c C->vs.length=ks.length->
 H' dx=some (.frz od (.ext (XD dx (ks.zip vs))))->Reps X.K H' vs ps->IQ X.K H' S'->Jb X.K H' σ σ3->Grow X.K H H'->Inv X pins σ H' s'->Il X pins H' s'.heap a C dx->X.xe (.ref a) s'
def Oq.mono{X:Cx}{H H':Hp}{E:bR}(x:Oq X H E)(g:Grow X.K H H'):Oq X H' E:=λc ks ps σ3 S' H2 pins σ s' a C dx od vs h1 h2 h3 h4 h5 h6 h7 h8 h9 OX=>x c ks ps σ3 S' H2 pins σ s' a C dx od vs h1 h2 h3 h4 h5 h6 h7 (g.trans h8) h9 OX
def Os(K:Vo)(H:Hp)(Q3:bB)(Q:VK):Prop:=∀p S' v H',Q3 p S'->Rep K H' v p->IQ K H' S'->Grow K H H'->Q v H'
def Os.mono{K:Vo}{H H':Hp}{Q3:bB}{Q:VK}(r:Os K H Q3 Q)(g:Grow K H H'):Os K H' Q3 Q:=λp S' v H2 h1 h2 h3 h4=>r p S' v H2 h1 h2 h3 (g.trans h4)
def P8(K:Vo)(H:Hp)(N3:cU->aA->Prop)(N:St->Hp->Prop):Prop:=∀σ3 S' σ H',N3 σ3 S'->Jb K H' σ σ3->IQ K H' S'->Grow K H H'->N σ H'
def P8.mono{K:Vo}{H H':Hp}{Q3:cU->aA->Prop}{Q:St->Hp->Prop}(r:P8 K H Q3 Q)(g:Grow K H H'):P8 K H' Q3 Q:=λp S' v H2 h1 h2 h3 h4=>r p S' v H2 h1 h2 h3 (g.trans h4)
inductive LE(X:Cx)(t:ba)(σ:L2.St)(H:Hp)(Q:VK):Prop
 |mk (σ3 S Q3 E3) (rσ:Jb X.K H σ σ3) (rS:IQ X.K H S) (h:t σ3 S Q3 E3) (xo:Oq X H E3) (k:Os X.K H Q3 Q):LE X t σ H Q
inductive LT(X:Cx)(t:kH)(σ:L2.St)(H:Hp)(Q:Bool->Hp->Prop):Prop
 |mk (σ3 S Q3 E3) (rσ:Jb X.K H σ σ3) (rS:IQ X.K H S) (h:t σ3 S Q3 E3) (xo:Oq X H E3) (k:∀b S' H',Q3 b S'->IQ X.K H' S'->Grow X.K H H'->Q b H'):LT X t σ H Q
inductive LS(X:Cx)(t:bv)(D:tT)(σ:L2.St)(H:Hp):Prop
 |mk (σ3 S D3) (rσ:Jb X.K H σ σ3) (rS:IQ X.K H S) (h:t D3 σ3 S) (xo:Oq X H D3.ex) (nx:P8 X.K H D3.nx D.nx) (rt:Os X.K H D3.rt D.rt) (bk:P8 X.K H D3.bk D.bk) (ct:P8 X.K H D3.ct D.ct):LS X t D σ H
structure bw(X:Cx)(e:Expr)(t:ba):Prop where
 ok:PE X e (LE X t)
structure tM(X:Cx)(e:Expr)(t:kH):Prop where
 ok:PT X e (LT X t)
structure Dw(X:Cx)(e:Expr)(t:kH):Prop where
 ok:PW X e (LT X t)
structure sr(X:Cx)(st:Stmt)(t:bv):Prop where
 ok:PS X st (LS X t)
structure lJ(X:Cx)(st:List Stmt)(t:bv):Prop where
 ok:Nu X st (LS X t)
def bb{X:Cx}{e:Expr}{t t':TE}(h:PE X e t)(k:∀σ H Q,t' σ H Q->t σ H Q):PE X e t':=λpins s σ H Q I q=>h pins s σ H Q I (k σ H Q q)
def qA{X:Cx}{e:Expr}{t t':TT}(h:PT X e t)(k:∀σ H Q,t' σ H Q->t σ H Q):PT X e t':=λpins s σ H Q I q=>h pins s σ H Q I (k σ H Q q)
def yn{X:Cx}{e:Expr}{t t':TT}(h:PW X e t)(k:∀σ H Q,t' σ H Q->t σ H Q):PW X e t':=λwh pins s σ H Q I q=>h wh pins s σ H Q I (k σ H Q q)
def dH{X:Cx}{e:Stmt}{t t':TS}(h:PS X e t)(k:∀D σ H,t' D σ H->t D σ H):PS X e t':=λpins s σ H D I q=>h pins s σ H D I (k D σ H q)
def vb{X:Cx}{e:List Stmt}{t t':TS}(h:Nu X e t)(k:∀D σ H,t' D σ H->t D σ H):Nu X e t':=λpins s σ H D I q=>h pins s σ H D I (k D σ H q)
section
variable {X:Cx}{a b c e o:Expr}{es:List Expr}{ta tb tc te:ba}{pos:Pos}
def v3(i:Nat):ba:=λσ S Q _=>match lk σ i with|some p=>Q p S|none=>False
def ab(i:Nat){x:Str}(hN:X.N[i]?=some x:=by rfl)(hv:GB X.env.scope x:=by walk_at "c")(hd:(x == ("__debug__":Str))=false:=by decide)
  (hcd:(x == ("__classdict__":Str))=false:=by decide):bw X (.Name x pos) (v3 i):=
 ⟨bb (CD hN hv hd hcd) λσ H Q ⟨σ3,S,Q3,E3,rσ,rS,h,xo,k⟩=>by
  unfold v3 at h
  split at h
  .rename_i p e;obtain⟨v,ev,rv⟩:=rσ.at' i p (ym e);exact⟨v,ev,k p S v H h rv rS .refl⟩
  .exact h.elim⟩
def c3(p:PV):ba:=λ_ S Q _=>Q p S
def ah{i:Int}{j:Nat}:bw X (.Constant (.int i) j pos) (c3 (.int i)):=⟨bb CF λσ H Q ⟨σ3,S,Q3,E3,rσ,rS,h,xo,k⟩=>k _ S _ H h (.int i) rS .refl⟩
def iG{i:Bool}{j:Nat}:bw X (.Constant (.bool i) j pos) (c3 (.bl i)):=⟨bb E4 λσ H Q ⟨σ3,S,Q3,E3,rσ,rS,h,xo,k⟩=>k _ S _ H h (.bl i) rS .refl⟩
def aq{i:Str}{j:Nat}:bw X (.Constant (.str i) j pos) (c3 (.str i)):=⟨bb CH λσ H Q ⟨σ3,S,Q3,E3,rσ,rS,h,xo,k⟩=>k _ S _ H h (.str i) rS .refl⟩
def BV{j:Nat}:bw X (.Constant .none j pos) (c3 .non):=⟨bb CG λσ H Q ⟨σ3,S,Q3,E3,rσ,rS,h,xo,k⟩=>k _ S _ H h .non rS .refl⟩
def Hl{x:Str}{n:String}(hg:Gl X x)(hm:X.mg x=none)(hv:bootBuiltins x=some (.type n))(hn:x ≠ "__name__":=by decide)(hd:(x == ("__debug__":Str))=false:=by decide):bw X (.Name x pos) (c3 (.ty n)):=
 ⟨bb (zT (v:=.ty n) hg hm hv rfl hn hd) λσ H Q ⟨σ3,S,Q3,E3,rσ,rS,h,xo,k⟩=>k _ S _ H h (.ty n) rS .refl⟩
noncomputable def am:List ba->Im
 |[],_,S,Q,_=>Q [] S
 |t::ts,σ,S,Q,E=>t σ S (λx S1=>am ts σ S1 (λxs S2=>Q (x::xs) S2) E) E
noncomputable def GJ:List TE->TA
 |[]=>Fp
 |t::ts=>BN t (GJ ts)
structure lK(X:Cx)(es:List Expr)(ts:List ba):Prop where
 ok:PA X es (GJ (ts.map (LE X)))
def cK:lK X [] []:=⟨C8⟩
def yo{ts:List ba}(hs:starEach (e::es) X.env=(false,eval e X.env)::starEach es X.env)(ha:bw X e te)(hr:lK X es ts):lK X (e::es) (te::ts):=⟨Ah ha.ok hr.ok hs⟩
theorem c_:∀{ts:List ba}{σ:L2.St}{H:Hp}{Q:List V->Hp->Prop}{σ3:cU}{S:aA}{Q3:List PV->aA->Prop}{E3:bR},Jb X.K H σ σ3->IQ X.K H S->am ts σ3 S Q3 E3->Oq X H E3->
  (∀ps S' vs H',ps.length=ts.length->Q3 ps S'->Reps X.K H' vs ps->IQ X.K H' S'->Grow X.K H H'->Q vs H')->GJ (ts.map (LE X)) σ H Q
 |[],σ,H,Q,σ3,S,Q3,E3,rσ,rS,h,xo,k=>k [] S [] H rfl h .nil rS .refl
 |t::ts,σ,H,Q,σ3,S,Q3,E3,rσ,rS,h,xo,k=>
  ⟨σ3,S,_,E3,rσ,rS,h,xo,λp S1 v H1 h1 rv IZ g1=>c_ (rσ.mono g1) IZ h1 (xo.mono g1) λps S2 vs H2 hl h2 Rq KW g2=>k (p::ps) S2 (v::vs) H2 (by rw[UE,UE,hl]) h2 (.cons (rv.mono g2) Rq) KW (g1.trans g2)⟩
def aD(ts:List ba):ba:=λσ S Q E=>am ts σ S (λxs S1=>Q (.tup xs) S1) E
def aC{ts:List ba}{x1:Nat}(h:lK X es ts)(hn:ts.length<=1000:=by exact XH rfl):bw X (.Tuple es x1 pos) (aD ts):=
 ⟨bb (C9 h.ok) λσ H Q ⟨σ3,S,Q3,E3,rσ,rS,hq,xo,k⟩=>c_ rσ rS hq xo λps S' vs H' hl q rv Lv g=>
  ⟨Xm (gq (by rw[rv.length,hl];exact hn)),λp hp=>k _ S' _ _ q (.tup (SqT.of aI) (rv.mono (.new hp))) (Lv.other hp) (g.trans (.new hp))⟩⟩
def bf(ts:List ba):ba:=λσ S Q E=>am ts σ S (λxs S1=>∀p,S1 p=none->Q (.ref p) (II S1 p (.lst xs))) E
def bo{ts:List ba}(h:lK X es ts)(hn:ts.length<=1000:=by exact XH rfl):bw X (.List es pos) (bf ts):=
 ⟨bb (C_ h.ok) λσ H Q ⟨σ3,S,Q3,E3,rσ,rS,hq,xo,k⟩=>c_ rσ rS hq xo λps S' vs H' hl q rv Lv g=>
  ⟨Xm (gq (by rw[rv.length,hl];exact hn)),λp hp=>k _ _ _ _ (q p (Lv.free hp)) (.ref p) (Lv.new hp ⟨vs,aI,rv.mono (.new hp)⟩) (g.trans (.new hp))⟩⟩
abbrev R3:=PV->PV->aA->bB->Prop
inductive LR(X:Cx)(r:R3)(x y:V)(H:Hp)(Q:VK):Prop
 |mk (px py S Q3) (rx:Rep X.K H x px) (ry:Rep X.K H y py) (rS:IQ X.K H S) (h:r px py S Q3) (k:Os X.K H Q3 Q):LR X r x y H Q
structure jK(X:Cx)(f:Value->Value->Sem Value)(r:R3):Prop where
 ok:jD X f (LR X r)
def af(r:R3)(ta tb:ba):ba:=λσ S Q E=>ta σ S (λx S1=>tb σ S1 (λy S2=>r x y S2 Q) E) E
def mZ{r:R3}{σ:L2.St}{H:Hp}{Q:VK}:LE X (af r ta tb) σ H Q->Fg (LR X r) (LE X ta) (LE X tb) σ H Q:=λ⟨σ3,S,Q3,E3,rσ,rS,h,xo,k⟩=>
 ⟨σ3,S,_,E3,rσ,rS,h,xo,λx S1 v H1 h1 rx IZ g1=>⟨σ3,S1,_,E3,rσ.mono g1,IZ,h1,xo.mono g1,λy S2 u H2 h2 ry KW g2=>⟨x,y,S2,Q3,rx.mono g2,ry,KW,h2,k.mono (g1.trans g2)⟩⟩⟩
def az{op:Operator}{r:R3}(ho:jK X (binaryOp op) r)(ha:bw X a ta)(hb:bw X b tb):bw X (.BinOp a op b pos) (af r ta tb):=⟨bb (Fh ho.ok ha.ok hb.ok) λ_ _ _=>mZ⟩
def de{op:CmpOp}{r:R3}(ho:jK X (compareOp op) r)(ha:bw X a ta)(hb:bw X b tb)(hm:behindInMarks op b=false):bw X (.Compare a [op] [b] pos) (af r ta tb):=⟨bb (Af ho.ok ha.ok hb.ok hm) λ_ _ _=>mZ⟩
def aG(t:ba):kH:=λσ S Q E=>t σ S (λv S'=>match v with | .bl k=>Q k S'|_=>False) E
def yp{σ:L2.St}{H:Hp}{Q:Bool->Hp->Prop}:LT X (aG te) σ H Q->LE X te σ H (λx H'=>∃k,x = .bl k/\Q k H'):=λ⟨σ3,S,Q3,E3,rσ,rS,h,xo,k⟩=>
 ⟨σ3,S,_,E3,rσ,rS,h,xo,λp S' v H' h1 rv Lv g=>by
  cases p with
  |bl z=>cases rv;exact⟨z,rfl,k z S' H' h1 Lv g⟩
  |_=>exact h1.elim⟩
def bh{op:CmpOp}{r:R3}(ho:jK X (compareOp op) r)(ha:bw X a ta)(hb:bw X b tb)(hm:behindInMarks op b=false):tM X (.Compare a [op] [b] pos) (aG (af r ta tb)):=
 ⟨qA (Ag ho.ok ha.ok hb.ok hm) λσ H Q ⟨σ3,S,Q3,E3,rσ,rS,h,xo,k⟩=>mZ ⟨σ3,S,_,E3,rσ,rS,h,xo,λp S' v H' h1 rv Lv g=>by
  cases p with
  |bl z=>cases rv;exact⟨z,rfl,k z S' H' h1 Lv g⟩
  |_=>exact h1.elim⟩⟩
def cL(h:bw X e te)(he:∀whole,isTrue e X.env whole=(do let v <-whole;standAt e.pos;holding [v] (truthy v)):=by intro _;rfl):tM X e (aG te):=
 ⟨qA (CJ h.ok he) λσ H Q q=>yp q⟩
end
section
variable {X:Cx}{a b c:Expr}{rest:List Expr}{ta tb te:ba}{tA tB:kH}{pos:Pos}
def eU(t u:kH):kH:=λσ S Q E=>t σ S (λc S1=>if c=true then u σ S1 Q E else Q false S1) E
def iy(t u:kH):kH:=λσ S Q E=>t σ S (λc S1=>if c=true then Q true S1 else u σ S1 Q E) E
def cI(t:kH):kH:=λσ S Q E=>t σ S (λc S1=>Q (!c) S1) E
def gP(ha:tM X a tA):Dw X (.BoolOp .And [a] pos) tA:=⟨zU ha.ok⟩
def fB(ha:tM X a tA):Dw X (.BoolOp .Or [a] pos) tA:=⟨CK ha.ok⟩
def jL(ha:tM X a tA)(hb:Dw X (.BoolOp .And (b::rest) pos) tB):Dw X (.BoolOp .And (a::b::rest) pos) (eU tA tB):=
 ⟨yn (CL ha.ok hb.ok) λσ H Q ⟨σ3,S,Q3,E3,rσ,rS,h,xo,k⟩=>⟨σ3,S,_,E3,rσ,rS,h,xo,λc S1 H1 h1 IZ g1=>by
  cases c with
  |true=>rw[if_pos rfl]at h1 ⊢;exact⟨σ3,S1,Q3,E3,rσ.mono g1,IZ,h1,xo.mono g1,λb S2 H2 h2 KW g2=>k b S2 H2 h2 KW (g1.trans g2)⟩
  |false=>rw[if_neg (by decide)]at h1 ⊢;exact k false S1 H1 h1 IZ g1⟩⟩
def gw(ha:tM X a tA)(hb:Dw X (.BoolOp .Or (b::rest) pos) tB):Dw X (.BoolOp .Or (a::b::rest) pos) (iy tA tB):=
 ⟨yn (E5 ha.ok hb.ok) λσ H Q ⟨σ3,S,Q3,E3,rσ,rS,h,xo,k⟩=>⟨σ3,S,_,E3,rσ,rS,h,xo,λc S1 H1 h1 IZ g1=>by
  cases c with
  |true=>rw[if_pos rfl]at h1 ⊢;exact k true S1 H1 h1 IZ g1
  |false=>rw[if_neg (by decide)]at h1 ⊢;exact⟨σ3,S1,Q3,E3,rσ.mono g1,IZ,h1,xo.mono g1,λb S2 H2 h2 KW g2=>k b S2 H2 h2 KW (g1.trans g2)⟩⟩⟩
def nG(h:Dw X a tA):tM X a tA:=⟨h.ok.pt⟩
def eV(ha:tM X a tA):tM X (.UnaryOp .Not a pos) (cI tA):=
 ⟨qA (CM ha.ok) λσ H Q ⟨σ3,S,Q3,E3,rσ,rS,h,xo,k⟩=>⟨σ3,S,_,E3,rσ,rS,h,xo,λc S1 H1 h1 IZ g1=>k (!c) S1 H1 h1 IZ g1⟩⟩
def cw(t u:ba):ba:=λσ S Q E=>t σ S (λv S1=>match v with | .bl c=>if c=true then u σ S1 Q E else Q (.bl false) S1|_=>False) E
def oR(t u:ba):ba:=λσ S Q E=>t σ S (λv S1=>match v with | .bl c=>if c=true then Q (.bl true) S1 else u σ S1 Q E|_=>False) E
def mI(t:ba):ba:=λσ S Q E=>t σ S (λv S1=>match v with | .bl c=>Q (.bl (!c)) S1|_=>False) E
def nH{op:BoolOp}(h:bw X a ta):bw X (.BoolOp op [a] pos) ta:=⟨CN h.ok⟩
def nI(ha:bw X a ta)(hb:bw X (.BoolOp .And (b::rest) pos) tb):bw X (.BoolOp .And (a::b::rest) pos) (cw ta tb):=
 ⟨bb (CO ha.ok hb.ok) λσ H Q ⟨σ3,S,Q3,E3,rσ,rS,h,xo,k⟩=>⟨σ3,S,_,E3,rσ,rS,h,xo,λp S1 v H1 h1 rv IZ g1=>by
  cases p with
  |bl z=>
   cases rv;refine⟨z,rfl,?_⟩;cases z with
   |true=>rw[if_pos rfl];exact⟨σ3,S1,Q3,E3,rσ.mono g1,IZ,h1,xo.mono g1,k.mono g1⟩
   |false=>rw[if_neg (by decide)];exact k _ S1 _ H1 h1 (.bl false) IZ g1
  |_=>exact h1.elim⟩⟩
def Hm(ha:bw X a ta)(hb:bw X (.BoolOp .Or (b::rest) pos) tb):bw X (.BoolOp .Or (a::b::rest) pos) (oR ta tb):=
 ⟨bb (E8 ha.ok hb.ok) λσ H Q ⟨σ3,S,Q3,E3,rσ,rS,h,xo,k⟩=>⟨σ3,S,_,E3,rσ,rS,h,xo,λp S1 v H1 h1 rv IZ g1=>by
  cases p with
  |bl z=>
   cases rv;refine⟨z,rfl,?_⟩;cases z with
   |true=>rw[if_pos rfl];exact k _ S1 _ H1 h1 (.bl true) IZ g1
   |false=>rw[if_neg (by decide)];exact⟨σ3,S1,Q3,E3,rσ.mono g1,IZ,h1,xo.mono g1,k.mono g1⟩
  |_=>exact h1.elim⟩⟩
def BW(ha:bw X a ta):bw X (.UnaryOp .Not a pos) (mI ta):=
 ⟨bb (CP ha.ok) λσ H Q ⟨σ3,S,Q3,E3,rσ,rS,h,xo,k⟩=>⟨σ3,S,_,E3,rσ,rS,h,xo,λp S1 v H1 h1 rv IZ g1=>by
  cases p with
  |bl z=>cases rv;exact⟨z,rfl,k _ S1 _ H1 h1 (.bl _) IZ g1⟩
  |_=>exact h1.elim⟩⟩
def ss(t:kH)(ta tb:ba):ba:=λσ S Q E=>t σ S (λc S1=>if c=true then ta σ S1 Q E else tb σ S1 Q E) E
def vc(hc:tM X c tA)(ha:bw X a ta)(hb:bw X b tb):bw X (.IfExp c a b pos) (ss tA ta tb):=
 ⟨bb (xx hc.ok ha.ok hb.ok) λσ H Q ⟨σ3,S,Q3,E3,rσ,rS,h,xo,k⟩=>⟨σ3,S,_,E3,rσ,rS,h,xo,λc S1 H1 h1 IZ g1=>by
  cases c with
  |true=>rw[if_pos rfl]at h1 ⊢;exact⟨σ3,S1,Q3,E3,rσ.mono g1,IZ,h1,xo.mono g1,k.mono g1⟩
  |false=>rw[if_neg (by decide)]at h1 ⊢;exact⟨σ3,S1,Q3,E3,rσ.mono g1,IZ,h1,xo.mono g1,k.mono g1⟩⟩⟩
abbrev FF:=PV->aA->bB->Prop
noncomputable def Io(X:Cx)(r:FF):V->Hp->VK->Prop:=λx H Q=>∃px S Q3,Rep X.K H x px/\IQ X.K H S/\r px S Q3/\Os X.K H Q3 Q
structure HW(X:Cx)(f:Value->Sem Value)(r:FF):Prop where
 ok:GE X f (Io X r)
def mQ(r:FF)(ta:ba):ba:=λσ S Q E=>ta σ S (λx S1=>r x S1 Q) E
def jX{op:UnaryOp}{r:FF}(ho:HW X (unaryOp op) r)(ha:bw X a ta):bw X (.UnaryOp op a pos) (mQ r ta):=
 ⟨bb (Fi ho.ok ha.ok) λσ H Q ⟨σ3,S,Q3,E3,rσ,rS,h,xo,k⟩=>⟨σ3,S,_,E3,rσ,rS,h,xo,λp S1 v H1 h1 rv IZ g1=>⟨p,S1,Q3,rv,IZ,h1,k.mono g1⟩⟩⟩
noncomputable def d5:FF:=λx S Q=>match x with | .int i=>Q (.int (-i)) S|_=>False
def cV:HW X (unaryOp .USub) d5:=⟨λpins s σ H x v Q I rx ⟨px,S,Q3,r1,rS,h,k⟩=>by
 cases px with
 |int i=>cases r1;exact C7 pins s σ H _ v Q I rx ⟨i,rfl,k _ S _ H h (.int _) rS .refl⟩
 |_=>exact h.elim⟩
end
section
variable {X:Cx}
def cA(g:Int->Int->PV):R3:=λx y S Q=>match x,y with | .int i,.int j=>Q (g i j) S|_,_=>False
def iz(C:Int->Int->Prop)(g:Int->Int->PV):R3:=λx y S Q=>match x,y with | .int i,.int j=>C i j/\Q (g i j) S|_,_=>False
def Dx{f:Value->Value->Sem Value}{g:Int->Int->Int}(h:jD X f (zO λi j=>.int (g i j))):jK X f (cA λi j=>.int (g i j)):=⟨λpins s σ H x y v u Q I rx ry ⟨px,py,S,Q3,r1,r2,rS,q,k⟩=>by
 cases px with
 |int i=>
  cases py with
  |int j=>cases r1;cases r2;exact h pins s σ H _ _ v u Q I rx ry ⟨i,j,rfl,rfl,k _ S _ H q (.int _) rS .refl⟩
  |_=>exact q.elim
 |_=>exact q.elim⟩
def m4{f:Value->Value->Sem Value}{g:Int->Int->Bool}(h:jD X f (zO λi j=>.bl (g i j))):jK X f (cA λi j=>.bl (g i j)):=⟨λpins s σ H x y v u Q I rx ry ⟨px,py,S,Q3,r1,r2,rS,q,k⟩=>by
 cases px with
 |int i=>
  cases py with
  |int j=>cases r1;cases r2;exact h pins s σ H _ _ v u Q I rx ry ⟨i,j,rfl,rfl,k _ S _ H q (.bl _) rS .refl⟩
  |_=>exact q.elim
 |_=>exact q.elim⟩
def qB{f:Value->Value->Sem Value}{C:Int->Int->Prop}{g:Int->Int->Int}(h:jD X f (rI C λi j=>.int (g i j))):jK X f (iz C λi j=>.int (g i j)):=⟨λpins s σ H x y v u Q I rx ry ⟨px,py,S,Q3,r1,r2,rS,q,k⟩=>by
 cases px with
 |int i=>
  cases py with
  |int j=>cases r1;cases r2;exact h pins s σ H _ _ v u Q I rx ry ⟨i,j,rfl,rfl,q.1,k _ S _ H q.2 (.int _) rS .refl⟩
  |_=>exact q.elim
 |_=>exact q.elim⟩
def pH(i j:Int):Prop:=j≠0/\j.natAbs < 2 ^ 8000
def ue{n:Nat}(h:n < 2 ^ 8000):n.log2 < 9000:=by
 by_cases z:n=0
 .rw[z];decide +kernel
 .exact Yq ((Nat.log2_lt z).mpr h) (by decide)
def Dy:jK X (binaryOp .Sub) (cA λi j=>.int (i - j)):=Dx C5
def Dz:jK X (binaryOp .Mod) (iz (λ_ j=>j≠0) λi j=>.int (i.fmod j)):=qB Ad
def AG:jK X (binaryOp .FloorDiv) (iz pH λi j=>.int (i.fdiv j)):=qB (GF λ_ _ _ _ _ _ _ hc q=>PyProof.Rows.floordiv_int hc.1 q (.inl (PyProof.noPylong_of_log2 (ue hc.2))))
def DA:jK X (binaryOp .Pow) (iz C3 λi j=>.int (i ^ j.toNat)):=qB C6
def FG:jK X (compareOp .Lt) (cA λi j=>.bl (decide (i < j))):=m4 Fl
def FH:jK X (compareOp .LtE) (cA λi j=>.bl (decide (i<=j))):=m4 Fm
def FJ:jK X (compareOp .Gt) (cA λi j=>.bl (decide (j < i))):=m4 Fn
def FK:jK X (compareOp .GtE) (cA λi j=>.bl (decide (j<=i))):=m4 Fo
end
end L3
namespace L2
open PySem PySem.Spec PyProof.Rows
section
variable {X:Cx}
def FL(K:Vo):R2:=λx y H Q=>∃a b xs ys,x = .ref a/\y = .ref b/\SqT K H a xs/\SqT K H b ys/\xs.length+ys.length<=sizeLine/\∀r H',(∀c o,H c=some o->H' c=some o)->SqT K H' r (xs++ys)->Q (.ref r) H'
def AH:jD X (binaryOp .Add) (FL X.K):=by
 walk_at "4";obtain⟨a,b,xs,ys,rfl,rfl,ha,hb,hz,q⟩:=h;by_cases hx:xs=[]
 .subst hx;cases rx;cases ry;obtain⟨its,r1,p1,_⟩:=I.tuple ha;obtain⟨its2,r2,p2,_⟩:=I.tuple hb;cases r1;obtain⟨⟨cls,dd,data,sl⟩,ho,hc,n,hd⟩:=id p1;obtain⟨⟨Rb,dd2,data2,sl2⟩,ho2,hc2,n2,hd2⟩:=id p2;simp only at hc hd hc2 hd2;subst hc hd hc2 hd2;exact concat_meets ⟨_,ho,rfl⟩ ⟨_,ho2,rfl⟩ noFill_tuple_add seq_tuple_add Xo Xh (W6 _ _)
   (tuple_addW0 a b _ its2.toArray n n2 dd dd2 sl sl2 rfl) ⟨ho,ho2,⟨.ref b,H,I,rfl,q b H (λ_ _ e=>e) hb⟩⟩
 .exact Ao pins s σ H _ _ v u Q I rx ry ⟨a,b,xs,ys,rfl,rfl,ha,hb,hx,hz,λe=>q a H (λ_ _ e=>e) (by rw[e,Vd];exact ha),
   λ_ p hp=>q p _ (λc o e=>by rw[aM (bu e hp)];exact e) (SqT.of aI)⟩
end
end L2
namespace L3
open PySem L2
section
variable {X:Cx}
def aR:R3:=λx y S Q=>match x,y with
 | .int i,.int j=>Q (.int (i+j)) S
 | .str i,.str j=>i.length+j.length<=sizeLine/\Q (.str (i++j)) S
 | .tup i,.tup j=>i.length+j.length<=sizeLine/\Q (.tup (i++j)) S
 | .ref i,.ref j=>match S i,S j with
  |some (.lst xs),some (.lst ys)=>xs.length+ys.length<=sizeLine/\∀p,S p=none->Q (.ref p) (II S p (.lst (xs++ys)))
  |_,_=>False
 |_,_=>False
def aH:jK X (binaryOp .Add) aR:=⟨λpins s σ H x y v u Q I rx ry ⟨px,py,S,Q3,r1,r2,rS,q,k⟩=>by
 unfold aR at q
 split at q
 .cases r1;cases r2;exact C4 pins s σ H _ _ v u Q I rx ry ⟨_,_,rfl,rfl,k _ S _ H q (.int _) rS .refl⟩
 .cases r1;cases r2;exact tW pins s σ H _ _ v u Q I rx ry ⟨_,_,rfl,rfl,q.1,k _ S _ H q.2 (.str _) rS .refl⟩
 .cases r1 with
  |tup h1 s1=>
   cases r2 with
   |tup h2 s2=>
    refine AH pins s σ H _ _ v u Q I rx ry ⟨_,_,_,_,rfl,rfl,h1,h2,by rw[s1.length,s2.length];exact q.1,λr H' hs hr=>?_⟩;exact k _ S _ H' q.2 (.tup hr ((s1.mono (.same hs)).append (s2.mono (.same hs)))) (rS.grow hs) (.same hs)
 .cases r1;cases r2
  split at q
  .rename_i i j xs ys e1 e2;obtain⟨vs,h1,s1⟩:=rS _ _ e1;obtain⟨us,h2,s2⟩:=rS _ _ e2;exact Dl pins s σ H _ _ v u Q I rx ry ⟨_,_,_,_,rfl,rfl,h1,h2,by rw[s1.length,s2.length];exact q.1,λp hp=>k _ _ _ _ (q.2 p (rS.free hp)) (.ref p) (rS.new hp ⟨_,aI,(s1.append s2).mono (.new hp)⟩) (.new hp)⟩
  .exact q.elim
 .exact q.elim⟩
end
mutual
inductive Dat(S:aA):PV->PyData->Prop
 |non:Dat S .non .none
 |bl (b:Bool):Dat S (.bl b) (.bool b)
 |int (i:Int):Dat S (.int i) (.int i)
 |str (x:Str):Dat S (.str x) (.str x)
 |tup {ps:List PV} {ds:List PyData}:Lg S ps ds->Dat S (.tup ps) (.tuple ds)
 |cl {ps:List PV} {ds:List PyData}:Lg S ps ds->Dat S (.cl ps) (.list ds)
 |ref {a:Addr} {ps:List PV} {ds:List PyData}:S a=some (.lst ps)->Lg S ps ds->Dat S (.ref a) (.list ds)
inductive Lg(S:aA):List PV->List PyData->Prop
 |nil:Lg S [] []
 |cons {p:PV} {d:PyData} {ps:List PV} {ds:List PyData}:Dat S p d->Lg S ps ds->Lg S (p::ps) (d::ds)
end
section
variable {X:Cx}{pins:Va}{σ:L2.St}{H:Hp}{s:Shared}{S:aA}
def uf(I:Inv X pins σ H s)(rS:IQ X.K H S):(∀{p:PV}{d:PyData},Dat S p d->∀{v:V}{u:Value},Rep X.K H v p->RelV v u->∃as,Reads s.heap u d as)/\∀{ps:List PV}{ds:List PyData},Lg S ps ds->∀{vs:List V}{us:Vv},Reps X.K H vs ps->Vals vs us->∃as,ReadsAll s.heap us ds as:=by
 have one:=@Dat.rec S (motive_1:=λp d _=>∀{v:V}{u:Value},Rep X.K H v p->RelV v u->∃as,Reads s.heap u d as) (motive_2:=λps ds _=>∀{vs:List V}{us:Vv},Reps X.K H vs ps->Vals vs us->∃as,ReadsAll s.heap us ds as);have two:=@Lg.rec S (motive_1:=λp d _=>∀{v:V}{u:Value},Rep X.K H v p->RelV v u->∃as,Reads s.heap u d as) (motive_2:=λps ds _=>∀{vs:List V}{us:Vv},Reps X.K H vs ps->Vals vs us->∃as,ReadsAll s.heap us ds as);have c1:∀{v:V}{u:Value},Rep X.K H v .non->RelV v u->∃as,Reads s.heap u .none as:=λh r=>by cases h;cases r;exact⟨_,.none⟩
 have c2:∀(b:Bool){v:V}{u:Value},Rep X.K H v (.bl b)->RelV v u->∃as,Reads s.heap u (.bool b) as:=λb _ _ h r=>by cases h;cases r;exact⟨_,.bool b⟩
 have c3:∀(i:Int){v:V}{u:Value},Rep X.K H v (.int i)->RelV v u->∃as,Reads s.heap u (.int i) as:=λi _ _ h r=>by cases h;obtain⟨t,rfl⟩:=r;exact⟨_,.int i t⟩
 have c4:∀(x:Str){v:V}{u:Value},Rep X.K H v (.str x)->RelV v u->∃as,Reads s.heap u (.str x) as:=λx _ _ h r=>by cases h;obtain⟨t,rfl⟩:=r;exact⟨_,.str x t⟩
 have c5:∀{ps:List PV}{ds:List PyData},Lg S ps ds->(∀{vs:List V}{us:Vv},Reps X.K H vs ps->Vals vs us->∃as,ReadsAll s.heap us ds as)->∀{v:V}{u:Value},Rep X.K H v (.tup ps)->RelV v u->∃as,Reads s.heap u (.tuple ds) as:=λ_ ih _ _ h r=>by
  cases h with
  |tup h rs=>
   cases r;obtain⟨its,rv,⟨o,ho,hc,n,hd⟩,hz⟩:=I.tuple h;obtain⟨as,q⟩:=ih rs rv;exact⟨as,.tuple ho hc hd (by simpa using q)⟩
 have c6:∀{ps:List PV}{ds:List PyData},Lg S ps ds->(∀{vs:List V}{us:Vv},Reps X.K H vs ps->Vals vs us->∃as,ReadsAll s.heap us ds as)->∀{v:V}{u:Value},Rep X.K H v (.cl ps)->RelV v u->∃as,Reads s.heap u (.list ds) as:=λ_ ih _ _ h r=>by
  cases h with
  |cl h rs=>
   cases r;obtain⟨its,rv,⟨o,n,ho,hc,_,hd⟩,hz⟩:=I.list h.sq;obtain⟨as,q⟩:=ih rs rv;exact⟨_,.list ho hc hd (by simpa using q)⟩
 have c7:∀{a:Addr}{ps:List PV}{ds:List PyData},S a=some (.lst ps)->Lg S ps ds->(∀{vs:List V}{us:Vv},Reps X.K H vs ps->Vals vs us->∃as,ReadsAll s.heap us ds as)->∀{v:V}{u:Value},Rep X.K H v (.ref a)->RelV v u->∃as,Reads s.heap u (.list ds) as:=λe _ ih _ _ h r=>by
  cases h;cases r;obtain⟨vs,hv,rs⟩:=rS _ _ e;obtain⟨its,rv,⟨o,n,ho,hc,_,hd⟩,hz⟩:=I.list (SqL.of hv);obtain⟨as,q⟩:=ih rs rv;exact⟨_,.list ho hc hd (by simpa using q)⟩
 have c8:∀{vs:List V}{us:Vv},Reps X.K H vs []->Vals vs us->∃as,ReadsAll s.heap us [] as:=λh r=>by cases h;cases r;exact⟨_,.nil⟩
 have c9:∀{p:PV}{d:PyData}{ps:List PV}{ds:List PyData},Dat S p d->Lg S ps ds->(∀{v:V}{u:Value},Rep X.K H v p->RelV v u->∃as,Reads s.heap u d as)->(∀{vs:List V}{us:Vv},Reps X.K H vs ps->Vals vs us->∃as,ReadsAll s.heap us ds as)->∀{vs:List V}{us:Vv},Reps X.K H vs (p::ps)->Vals vs us->∃as,ReadsAll s.heap us (d::ds) as:=λ_ _ i1 i2 _ _ h r=>by
  cases h with
  |cons a rs=>
   cases r with
   |cons r1 r2=>
    obtain⟨as,q⟩:=i1 a r1;obtain⟨bs,q2⟩:=i2 rs r2;exact⟨_,.cons q q2⟩
 exact⟨λh=>one c1 c2 c3 c4 c5 c6 c7 c8 c9 h,λh=>two c1 c2 c3 c4 c5 c6 c7 c8 c9 h⟩
def Dat.reads(I:Inv X pins σ H s)(rS:IQ X.K H S){p:PV}{d:PyData}{v:V}{u:Value}(h:Dat S p d)(r:Rep X.K H v p)(r2:RelV v u):∃as,Reads s.heap u d as:=(uf I rS).1 h r r2
end
section
variable {X:Cx}
def aS(neg:Bool):R3:=λx y S Q=>match x,y with
 | .int i,.int j=>Q (.bl (neg != decide (i=j))) S
 | .str i,.str j=>Q (.bl (neg != decide (i=j))) S
 | .bl i,.bl j=>Q (.bl (neg != decide (i=j))) S
 |x,y=>∃d d',Dat S x d/\Dat S y d'/\d.canLay0=true/\d'.canLay0=true/\min d.depth d'.depth<=150/\Q (.bl (neg != PyData.eqv d d')) S
def iA(hu:X.A.units+150 < cLine):jK X (compareOp .Eq) (aS false):=⟨λpins s σ H x y v u Q I rx ry ⟨px,py,S,Q3,r1,r2,rS,q,k⟩=>by
 unfold aS at q
 split at q
 .cases r1;cases r2;exact xF pins s σ H _ _ v u Q I rx ry ⟨rfl,k _ S _ H (by simpa using q) (.bl _) rS .refl⟩
 .cases r1;cases r2;exact xF pins s σ H _ _ v u Q I rx ry ⟨rfl,k _ S _ H (by simpa using q) (.bl _) rS .refl⟩
 .cases r1;cases r2;exact xF pins s σ H _ _ v u Q I rx ry ⟨rfl,k _ S _ H (by simpa using q) (.bl _) rS .refl⟩
 .obtain⟨d,d',h1,h2,c1,c2,hd,q⟩:=q;obtain⟨as,a1⟩:=h1.reads I rS r1 rx;obtain⟨bs,a2⟩:=h2.reads I rS r2 ry;exact SeqAt.compareEq_reads a1 a2 c1 c2 (by omega) ⟨.bl _,H,I,rfl,k _ S _ H (by simpa using q) (.bl _) rS .refl⟩⟩
def BX(hu:X.A.units+150 < cLine):jK X (compareOp .NotEq) (aS true):=⟨λpins s σ H x y v u Q I rx ry ⟨px,py,S,Q3,r1,r2,rS,q,k⟩=>by
 unfold aS at q
 split at q
 .cases r1;cases r2;exact xG pins s σ H _ _ v u Q I rx ry ⟨rfl,k _ S _ H (by simpa using q) (.bl _) rS .refl⟩
 .cases r1;cases r2;exact xG pins s σ H _ _ v u Q I rx ry ⟨rfl,k _ S _ H (by simpa using q) (.bl _) rS .refl⟩
 .cases r1;cases r2;exact xG pins s σ H _ _ v u Q I rx ry ⟨rfl,k _ S _ H (by simpa using q) (.bl _) rS .refl⟩
 .obtain⟨d,d',h1,h2,c1,c2,hd,q⟩:=q;obtain⟨as,a1⟩:=h1.reads I rS r1 rx;obtain⟨bs,a2⟩:=h2.reads I rS r2 ry;exact SeqAt.compareNe_reads a1 a2 c1 c2 (by omega) ⟨.bl _,H,I,rfl,k _ S _ H (by simpa using q) (.bl _) rS .refl⟩⟩
def BY(neg:Bool):R3:=λx y S Q=>match y with
 | .non=>Q (.bl (neg != match x with | .non=>true|_=>false)) S
 | .bl true=>match x with | .bl true=>Q (.bl (neg != true)) S|_=>False
 |_=>False
def yq:jK X (compareOp .IsNot) (BY true):=⟨λpins s σ H x y v u Q I rx ry ⟨px,py,S,Q3,r1,r2,rS,q,k⟩=>by
 unfold BY at q
 split at q
 .cases r2;refine Ae pins s σ H _ _ v u Q I rx ry ⟨rfl,?_⟩;cases r1<;>exact k _ S _ H (by simpa using q) (.bl _) rS .refl
 .cases r2
  split at q
  .cases r1;exact wo pins s σ H _ _ v u Q I rx ry ⟨rfl,rfl,k _ S _ H (by simpa using q) (.bl _) rS .refl⟩
  .exact q.elim
 .exact q.elim⟩
noncomputable def lL(S:aA):PV->Option (List PV)
 | .tup xs=>some xs
 | .cl xs=>some xs
 | .ref a=>match S a with|some (.lst xs)=>some xs|_=>none
 |_=>none
def yr{H:Hp}{S:aA}{v:V}{p:PV}{xs:List PV}(rS:IQ X.K H S)(r:Rep X.K H v p)(h:lL S p=some xs):∃a vs,v = .ref a/\(SqL X.K H a vs\/SqT X.K H a vs)/\Reps X.K H vs xs:=by
 unfold lL at h
 split at h
 .cases h;cases r with|tup h1 rs=>exact⟨_,_,rfl,.inr h1,rs⟩
 .cases h;cases r with|cl h1 rs=>exact⟨_,_,rfl,.inl h1.sq,rs⟩
 .cases r
  split at h
  .rename_i e;cases h;obtain⟨vs,hv,rs⟩:=rS _ _ e;exact⟨_,vs,rfl,.inl (SqL.of hv),rs⟩
  .cases h
 .cases h
noncomputable def jM(x:PyData)(xs:List PyData):Bool:=xs.any λy=>PyData.eqv y x
def jN(neg:Bool):R3:=λx y S Q=>match x,y with
 | .str i,.str j=>Q (.bl (neg != !(Builtin.Str.occurrences j i 0 j.length 1).isEmpty)) S
 |x,y=>match y with
  | .ref a=>match S a with
   |some (.lst xs)=>∃d ds,Dat S x d/\Lg S xs ds/\d.canLay0=true/\PyData.canLayAll0 ds=true/\d.depth<=150/\Q (.bl (neg != jM d ds)) S
   |some (.dct kvs)=>match x with
    | .str z=>Q (.bl (neg != (kvs.any λkv=>decide (kv.1=Sum.inr z)))) S
    | .int z=>Q (.bl (neg != (kvs.any λkv=>decide (kv.1=Sum.inl z)))) S
    |_=>False
   |_=>False
  | .tup xs=>∃d ds,Dat S x d/\Lg S xs ds/\d.canLay0=true/\PyData.canLayAll0 ds=true/\d.depth<=150/\Q (.bl (neg != jM d ds)) S
  |_=>False
theorem Jr.any{K:Vo}{H:Hp}{κ:Type} [DecidableEq κ](k:κ):∀{vs:List (κ×V)}{ps:List (κ×PV)},Jr K H vs ps->(jV vs k).isSome=ps.any λkv=>decide (kv.1=k)
 |_,_,.nil=>rfl
 |_,_,.cons (k:=k') a r=>by
  rw[XQ,<-Jr.any k r];by_cases e:k'=k
  .rw[KL e];simp[e]
  .rw[KM e];simp[e]
def jO(hu:X.A.units+160 < cLine):jK X (compareOp .In) (jN false):=⟨λpins s σ H x y v u Q I rx ry ⟨px,py,S,Q3,r1,r2,rS,q,k⟩=>by
 unfold jN at q
 split at q
 .cases r1;cases r2;exact vY pins s σ H _ _ v u Q I rx ry ⟨_,_,rfl,rfl,k _ S _ H (by simpa using q) (.bl _) rS .refl⟩
 .split at q
  .cases r2;cases ry
   split at q
   .rename_i xs e;obtain⟨d,ds,h1,h2,c1,c2,hd,q⟩:=q;obtain⟨as,a1⟩:=h1.reads I rS r1 rx;obtain⟨bs,a2⟩:=(Dat.ref e h2).reads I rS (.ref _) (rfl:RelV (.ref _) (.ref _));exact SeqAt.in_list_reads a2 a1 c2 c1 (by omega) ⟨.bl _,H,I,rfl,k _ S _ H (by simpa [jM]using q) (.bl _) rS .refl⟩
   .rename_i kvs e;obtain⟨kv,hv,rk⟩:=rS _ _ e
    split at q
    .cases r1;exact Fz (by omega) I (DGet.k (k:=Sum.inr _) hv) rx λs3 I3=>⟨.bl _,H,I3,rfl,k _ S _ H (by rw[rk.any];simpa using q) (.bl _) rS .refl⟩
    .cases r1;exact Fz (by omega) I (DGet.k (k:=Sum.inl _) hv) rx λs3 I3=>⟨.bl _,H,I3,rfl,k _ S _ H (by rw[rk.any];simpa using q) (.bl _) rS .refl⟩
    .exact q.elim
   .exact q.elim
  .rename_i xs;obtain⟨d,ds,h1,h2,c1,c2,hd,q⟩:=q;obtain⟨as,a1⟩:=h1.reads I rS r1 rx;obtain⟨bs,a2⟩:=(Dat.tup h2).reads I rS r2 ry;exact SeqAt.in_tuple_reads a2 a1 c2 c1 (by omega) ⟨.bl _,H,I,rfl,k _ S _ H (by simpa [jM]using q) (.bl _) rS .refl⟩
  .exact q.elim⟩
def gx(hu:X.A.units+160 < cLine):jK X (compareOp .NotIn) (jN true):=⟨λpins s σ H x y v u Q I rx ry ⟨px,py,S,Q3,r1,r2,rS,q,k⟩=>by
 unfold jN at q
 split at q
 .cases r1;cases r2;exact qm pins s σ H _ _ v u Q I rx ry ⟨_,_,rfl,rfl,k _ S _ H (by simpa using q) (.bl _) rS .refl⟩
 .split at q
  .cases r2;cases ry
   split at q
   .rename_i xs e;obtain⟨d,ds,h1,h2,c1,c2,hd,q⟩:=q;obtain⟨as,a1⟩:=h1.reads I rS r1 rx;obtain⟨bs,a2⟩:=(Dat.ref e h2).reads I rS (.ref _) (rfl:RelV (.ref _) (.ref _));exact SeqAt.notIn_list_reads a2 a1 c2 c1 (by omega) ⟨.bl _,H,I,rfl,k _ S _ H (by simpa [jM]using q) (.bl _) rS .refl⟩
   .rename_i kvs e;obtain⟨kv,hv,rk⟩:=rS _ _ e
    split at q
    .cases r1;exact u_ (by omega) I (DGet.k (k:=Sum.inr _) hv) rx λs3 I3=>⟨.bl _,H,I3,rfl,k _ S _ H (by rw[rk.any];simpa using q) (.bl _) rS .refl⟩
    .cases r1;exact u_ (by omega) I (DGet.k (k:=Sum.inl _) hv) rx λs3 I3=>⟨.bl _,H,I3,rfl,k _ S _ H (by rw[rk.any];simpa using q) (.bl _) rS .refl⟩
    .exact q.elim
   .exact q.elim
  .rename_i xs;obtain⟨d,ds,h1,h2,c1,c2,hd,q⟩:=q;obtain⟨as,a1⟩:=h1.reads I rS r1 rx;obtain⟨bs,a2⟩:=(Dat.tup h2).reads I rS r2 ry;exact SeqAt.notIn_tuple_reads a2 a1 c2 c1 (by omega) ⟨.bl _,H,I,rfl,k _ S _ H (by simpa [jM]using q) (.bl _) rS .refl⟩
  .exact q.elim⟩
end
end L3
namespace HT
open PySem PySem.Spec PyProof.Rows
section
variable {prog:Program}{w:World}{A:Around}{E:Vq}{s:Shared}
def kI{t sl:Addr}{items:Vw}{vl vu:Value}{lo hi:Option Int}{Q:Vq}(ht:IsTup s.heap t items)(hs:s.heap.IsSliceOf sl vl vu .none)(pl:IsPart vl lo)(pu:IsPart vu hi)
  (hw:Jq items.size 0 lo=0/\Jq items.size items.size hi=items.size)
  (h:Q (.ref t) s):wpAny (model prog w) A (getItem (.ref t) (.ref sl)) Q E s:=by
 obtain⟨os,hos,hcs,hds⟩:=id hs;have Rc:s.TypeIs (.ref sl) "slice":=⟨os,hos,hcs⟩
 unfold getItem
 try with_reducible refine W4 ?_
 first|refine Uk (Uz ?_)|skip
 refine Uk (wpAny_sequenceKey ht.typeIs (by decide) ?_);refine Uk (Vy (name:=Str.ofString "__getitem__") ht.typeIs Vn
  (V5 Vn ht.typeIs entry_tuple_getitem ?_ (args_tuple_getitem _ _)))
 show wpAny _ _ (Builtin.Tuple.tupleItemsOf (.ref t) >>= _) _ _ s;refine Uk (tupleItemsOf_ ht ?_);refine Uk (wpAny_typeOf Rc ?_);rw[if_pos (by decide)];refine Uk (gj hs pl pu ?_);have hyes:(((Jq items.size 0 lo:Nat):Int) == 0&&(1:Int) == 1&&(Jq items.size items.size hi - Jq items.size 0 lo) == items.size)=true:=by
  rw[hw.1,hw.2];simp
 show wpAny _ _ (if (((Jq items.size 0 lo:Nat):Int) == 0&&(1:Int) == 1&&(Jq items.size items.size hi - Jq items.size 0 lo) == items.size)=true then _ else _) _ _ s;rw[if_pos hyes];unfold Builtin.Tuple.tupleIsExact;refine Uk (Uk (wpAny_typeOf ht.typeIs (Uz ?_)));rw[if_pos (by decide)]
 first
  |exact Uk (WW (Uz ⟨_,rfl,Uz h⟩))
  |exact Uk (WW (Uk (Uz (Uz ⟨_,rfl,Uz h⟩))))
  |exact Uk (WW (Uk (Uz ⟨_,rfl,Uz h⟩)))
end
end HT
namespace L2
open PySem PySem.Spec PyProof.Rows
section
variable {X:Cx}
noncomputable def FM(K:Vo):V->Option Int->Option Int->Hp->VK->Prop:=λx lo hi H Q=>∃a xs,x = .ref a/\SqT K H a xs/\∀r H',(∀c o,H c=some o->H' c=some o)->SqT K H' r (nv xs lo hi)->Q (.ref r) H'
def AI:EK X (FM X.K):=by
 intro pins s σ H x v vl vu lo hi sl Q I rx hs pl pu h;obtain⟨a,xs,rfl,hx,q⟩:=h;by_cases hw:HT.Jq xs.length 0 lo=0/\HT.Jq xs.length xs.length hi=xs.length
 .cases rx;obtain⟨its,r,ht,hz⟩:=I.tuple hx;have hlen:its.toArray.size=xs.length:=by rw[Uw];exact r.length.symm
  refine⟨"tuple",_,Vn.lookup,ht.typeIs,HT.kI ht hs pl pu (by rw[hlen];exact hw) ⟨.ref a,H,I,rfl,q a H (λ_ _ e=>e) ?_⟩⟩;have e:nv xs lo hi=xs:=by unfold nv;rw[hw.1,hw.2];simp
  rw[e];exact hx
 .exact De pins s σ H _ v vl vu lo hi sl Q I rx hs pl pu ⟨a,xs,rfl,hx,hw,λp hp=>q p _ (λc o e=>by rw[aM (bu e hp)];exact e) (SqT.of aI)⟩
def AJ(hu:X.A.units+1 < cLine):EL X (λx y H Q=>∃a v,x = .ref a/\DGet H a y (some v)/\Q v H):=by
 intro value slice pins s σ H x y v u Q I rx ry h hs;obtain⟨a,z,rfl,g,q⟩:=h;cases rx;exact tail_any (si I g) PySem.F.slot_dict_getitem.lookup (v9 hu I g ry λw' s3 I3 rw'=>⟨z,H,I3,rw',q⟩) hs
def yt(hu:X.A.units+1 < cLine):zZ X (λo i v H Q=>∃a H',o = .ref a/\Oy H a i v H'/\Q H'):=by
 intro pins s σ H o i v ov iv u Q I ro ri rv h;obtain⟨a,H',rfl,g,q⟩:=h;cases ro;exact v_ hu I g ri rv λs' I'=>⟨H',I',q⟩
end
end L2
namespace L3
open PySem L2
theorem Reps.JU{K:Vo}{H:Hp}{vs:List V}{ps:List PV}{i:Int}{p:PV}(r:Reps K H vs ps)(h:L2.JU ps i=some p):∃v,L2.JU vs i=some v/\Rep K H v p:=by
 unfold L2.JU at h ⊢;rw[r.length];cases e:qi ps.length i with
 |none=>rw[e]at h;cases h
 |some j=>
  rw[e]at h;obtain⟨v,h1,h2⟩:=r.get h;exact⟨v,h1,h2⟩
noncomputable def gy:PV->Option bN
 | .int i=>some (.inl i)
 | .str x=>some (.inr x)
 |_=>none
def fR{K:Vo}{H:Hp}{v:V}{p:PV}{k:bN}(r:Rep K H v p)(h:gy p=some k):v=kV k:=by
 cases p with
 |int i=>cases h;cases r;rfl
 |str i=>cases h;cases r;rfl
 |_=>cases h
noncomputable def iH{κ:Type} [DecidableEq κ]:List (κ×PV)->κ->Option PV
 |[],_=>none
 |(k',v)::r,k=>if k'=k then some v else iH r k
theorem Jr.val{K:Vo}{H:Hp}{κ:Type} [DecidableEq κ]{k:κ}{p:PV}:∀{vs:List (κ×V)}{ps:List (κ×PV)},Jr K H vs ps->iH ps k=some p->∃v,jV vs k=some v/\Rep K H v p
 |_,_,.nil,h=>by cases h
 |_,_,.cons (k:=k') a r,h=>by
  unfold iH at h
  split at h
  .rename_i e;cases h;exact⟨_,KL e,a⟩
  .rename_i e;rw[KM e];exact Jr.val r h
section
variable {X:Cx}{a b e lo hi:Expr}{ta tb te:ba}{pos p2:Pos}
structure HX(X:Cx)(r:R3):Prop where
 ok:EL X (LR X r)
def FN{r:R3}(hr:HX X r)(ha:bw X a ta)(hb:bw X b tb)(hs:mX b):bw X (.Subscript a b pos) (af r ta tb):=⟨bb (Fu hr.ok ha.ok hb.ok hs) λ_ _ _=>mZ⟩
def aa:R3:=λx y S Q=>match x with
 | .tup xs=>match y with | .int i=>(match JU xs i with|some v=>Q v S|none=>False)|_=>False
 | .cl xs=>match y with | .int i=>(match JU xs i with|some v=>Q v S|none=>False)|_=>False
 | .str z=>match y with | .int i=>z.length<=sizeLine/\(match JU z.cps.toList i with|some c=>Q (.str ⟨#[c]⟩) S|none=>False)|_=>False
 | .ref a=>match S a with
  |some (.lst xs)=>(match y with | .int i=>(match JU xs i with|some v=>Q v S|none=>False)|_=>False)
  |some (.dct kvs)=>(match gy y with|some k=>(match iH kvs k with|some v=>Q v S|none=>False)|none=>False)
  |_=>False
 |_=>False
def HY(hu:X.A.units+1 < cLine):HX X aa:=⟨λvalue slice pins s σ H x y v u Q I rx ry ⟨px,py,S,Q3,r1,r2,rS,q,k⟩ hs=>by
 unfold aa at q
 split at q
 .split at q
  .split at q
   .rename_i e;cases r2;cases r1 with
    |tup h1 rs=>
     obtain⟨w,hw,rw'⟩:=rs.JU e;exact Dg value slice pins s σ H _ _ v u Q I rx ry ⟨_,_,_,w,rfl,rfl,h1,hw,k _ S _ H q rw' rS .refl⟩ hs
   .exact q.elim
  .exact q.elim
 .split at q
  .split at q
   .rename_i e;cases r2;cases r1 with
    |cl h1 rs=>
     obtain⟨w,hw,rw'⟩:=rs.JU e;exact u8 value slice pins s σ H _ _ v u Q I rx ry ⟨_,_,_,w,rfl,rfl,h1.sq,hw,k _ S _ H q rw' rS .refl⟩ hs
   .exact q.elim
  .exact q.elim
 .split at q
  .obtain⟨hz,q⟩:=q
   split at q
   .rename_i e;cases r1;cases r2;exact Dh value slice pins s σ H _ _ v u Q I rx ry ⟨_,_,_,rfl,rfl,hz,e,k _ S _ H q (.str _) rS .refl⟩ hs
   .exact q.elim
  .exact q.elim
 .split at q
  .rename_i e0
   split at q
   .split at q
    .rename_i e;cases r1;cases r2;obtain⟨vs,hv,rs⟩:=rS _ _ e0;obtain⟨w,hw,rw'⟩:=rs.JU e;exact u8 value slice pins s σ H _ _ v u Q I rx ry ⟨_,_,_,w,rfl,rfl,SqL.of hv,hw,k _ S _ H q rw' rS .refl⟩ hs
    .exact q.elim
   .exact q.elim
  .rename_i e0
   split at q
   .rename_i ek
    split at q
    .rename_i ev;cases r1;have e1:=fR r2 ek;subst e1;obtain⟨kv,hv,rk⟩:=rS _ _ e0;obtain⟨w,hw,rw'⟩:=rk.val ev;refine AJ hu value slice pins s σ H _ _ v u Q I rx ry ⟨_,w,rfl,?_,k _ S _ H q rw' rS .refl⟩ hs;rw[<-hw];exact DGet.k hv
    .exact q.elim
   .exact q.elim
  .exact q.elim
 .exact q.elim⟩
abbrev EN:=cU->aA->(Option Int->aA->Prop)->bR->Prop
inductive LO(X:Cx)(t:EN)(σ:L2.St)(H:Hp)(Q:Option Int->Hp->Prop):Prop
 |mk (σ3 S Q3 E3) (rσ:Jb X.K H σ σ3) (rS:IQ X.K H S) (h:t σ3 S Q3 E3) (xo:Oq X H E3) (k:∀o S' H',Q3 o S'->IQ X.K H' S'->Grow X.K H H'->Q o H'):LO X t σ H Q
structure GK(X:Cx)(e:Option Expr)(t:EN):Prop where
 ok:PO X e (LO X t)
noncomputable def vd:EN:=λ_ S Q _=>Q none S
noncomputable def tN(t:ba):EN:=λσ S Q E=>t σ S (λv S'=>match v with | .int i=>Q (some i) S'|_=>False) E
def yu{e:Option Expr}{t t':TO}(h:PO X e t)(k:∀σ H Q,t' σ H Q->t σ H Q):PO X e t':=λpins s σ H Q I q=>h pins s σ H Q I (k σ H Q q)
def iM:GK X none vd:=⟨yu Am λσ H Q ⟨σ3,S,Q3,E3,rσ,rS,h,xo,k⟩=>k none S H h rS .refl⟩
def fS(h:bw X e te):GK X (some e) (tN te):=⟨yu (An h.ok) λσ H Q ⟨σ3,S,Q3,E3,rσ,rS,h,xo,k⟩=>⟨σ3,S,_,E3,rσ,rS,h,xo,λp S' v H' h1 rv Lv g=>by
 cases p with
 |int i=>cases rv;exact⟨i,rfl,k _ S' H' h1 Lv g⟩
 |_=>exact h1.elim⟩⟩
noncomputable def Lh{α:Type}(xs:List α)(lo hi:Option Int):List α:=(xs.drop (HT.Jq xs.length 0 lo)).take (HT.Jq xs.length xs.length hi - HT.Jq xs.length 0 lo)
def Reps.cut{K:Vo}{H:Hp}{vs:List V}{ps:List PV}(r:Reps K H vs ps)(lo hi:Option Int):Reps K H (nv vs lo hi) (Lh ps lo hi):=by
 unfold nv Lh;rw[r.length];exact(r.drop _).take _
def ug(x:PV)(lo hi:Option Int)(S:aA)(Q:bB):Prop:=match x with
 | .tup xs=>Q (.tup (Lh xs lo hi)) S
 | .cl xs=>∀p,S p=none->Q (.ref p) (II S p (.lst (Lh xs lo hi)))
 | .str z=>z.length<=sizeLine/\Q (.str (Txt.slice z lo hi)) S
 | .ref a=>match S a with|some (.lst xs)=>∀p,S p=none->Q (.ref p) (II S p (.lst (Lh xs lo hi)))|_=>False
 |_=>False
noncomputable def Ip(X:Cx):V->Option Int->Option Int->Hp->VK->Prop:=λx lo hi H Q=>∃px S Q3,Rep X.K H x px/\IQ X.K H S/\ug px lo hi S Q3/\Os X.K H Q3 Q
def Iq:EK X (Ip X):=by
 intro pins s σ H x v vl vu lo hi sl Q I rx hs pl pu ⟨px,S,Q3,r1,rS,q,k⟩;unfold ug at q
 split at q
 .cases r1 with
  |tup h1 rs=>exact AI pins s σ H _ v vl vu lo hi sl Q I rx hs pl pu ⟨_,_,rfl,h1,λr H' hh hr=>k _ S _ H' q (.tup hr ((rs.cut lo hi).mono (.same hh))) (rS.grow hh) (.same hh)⟩
 .cases r1 with
  |cl h1 rs=>exact u9 pins s σ H _ v vl vu lo hi sl Q I rx hs pl pu ⟨_,_,rfl,h1.sq,λp hp=>k _ _ _ _ (q p (rS.free hp)) (.ref p) (rS.new hp ⟨_,aI,(rs.cut lo hi).mono (.new hp)⟩) (.new hp)⟩
 .cases r1;exact Dq pins s σ H _ v vl vu lo hi sl Q I rx hs pl pu ⟨_,rfl,q.1,k _ S _ H q.2 (.str _) rS .refl⟩
 .split at q
  .rename_i e;cases r1;obtain⟨vs,hv,rs⟩:=rS _ _ e;exact u9 pins s σ H _ v vl vu lo hi sl Q I rx hs pl pu ⟨_,_,rfl,SqL.of hv,λp hp=>k _ _ _ _ (q p (rS.free hp)) (.ref p) (rS.new hp ⟨_,aI,(rs.cut lo hi).mono (.new hp)⟩) (.new hp)⟩
  .exact q.elim
 .exact q.elim
def cW(te:ba)(tl th:EN):ba:=λσ S Q E=>te σ S (λx S1=>tl σ S1 (λl S2=>th σ S2 (λu S3=>ug x l u S3 Q) E) E) E
def eF{lo hi:Option Expr}{tl th:EN}(he:bw X e te)(hl:GK X lo tl)(hu:GK X hi th):bw X (.Subscript e (.Slice lo hi none p2) pos) (cW te tl th):=
 ⟨bb (xO Iq he.ok hl.ok hu.ok) λσ H Q ⟨σ3,S,Q3,E3,rσ,rS,h,xo,k⟩=>⟨σ3,S,_,E3,rσ,rS,h,xo,λx S1 v H1 h1 rx IZ g1=>⟨σ3,S1,_,E3,rσ.mono g1,IZ,h1,xo.mono g1,λl S2 H2 h2 KW g2=>
  ⟨σ3,S2,_,E3,rσ.mono (g1.trans g2),KW,h2,xo.mono (g1.trans g2),λu S3 H3 h3 Nw g3=>⟨x,S3,Q3,rx.mono (g2.trans g3),Nw,h3,k.mono (g1.trans (g2.trans g3))⟩⟩⟩⟩⟩
def AK:jD X (binaryOp .Mult) (rI IntMulOk λi j=>.int (i * j)):=GF λ_ _ _ _ _ _ _ hc q=>PyProof.Rows.mul_int q hc
def b_:R3:=λx y S Q=>match x,y with
 | .int i,.int j=>IntMulOk i j/\Q (.int (i * j)) S
 | .ref a,.int j=>(match S a with|some (.lst xs)=>-(2 ^ 63)<=j/\j < 2 ^ 63/\xs.length * j.toNat<=sizeLine/\∀p,S p=none->Q (.ref p) (II S p (.lst (List.replicate j.toNat xs).flatten))|_=>False)
 |_,_=>False
theorem Reps.rep{K:Vo}{H:Hp}{vs:List V}{ps:List PV}(r:Reps K H vs ps):∀n:Nat,Reps K H (List.replicate n vs).flatten (List.replicate n ps).flatten
 |0=>.nil
 |n+1=>by
  rw[U1,U1,VW,VW];exact r.append (Reps.rep r n)
def bc:jK X (binaryOp .Mult) b_:=⟨λpins s σ H x y v u Q I rx ry ⟨px,py,S,Q3,r1,r2,rS,q,k⟩=>by
 unfold b_ at q
 split at q
 .cases r1;cases r2;exact AK pins s σ H _ _ v u Q I rx ry ⟨_,_,rfl,rfl,q.1,k _ S _ H q.2 (.int _) rS .refl⟩
 .split at q
  .rename_i e;cases r1;cases r2;obtain⟨vs,hv,rs⟩:=rS _ _ e;exact Dm pins s σ H _ _ v u Q I rx ry ⟨_,_,_,rfl,rfl,hv,q.1,q.2.1,by rw[rs.length];exact q.2.2.1,λp hp=>k _ _ _ _ (q.2.2.2 p (rS.free hp)) (.ref p) (rS.new hp ⟨_,aI,(rs.rep _).mono (.new hp)⟩) (.new hp)⟩
  .exact q.elim
 .exact q.elim⟩
end
end L3
namespace L2
open PySem PySem.Spec PyProof.Rows
section
variable {X:Cx}
def wu(hc:X.calm=true):eR X (.builtin "any") (λxs H Q=>∃(p:Addr)(bs:List Bool),xs=[.ref p]/\SqL X.K H p (bs.map V.bl)/\Q (.bl (bs.any id)) H):=by
 intro pins s σ H xs us Q I r h;obtain⟨p,bs,rfl,hp,q⟩:=h;obtain⟨u,rfl,rx⟩:=eA r;cases rx;obtain⟨its,rv,pl,hz⟩:=I.list hp;have hl:=rv.length;rw[Ul]at hl;have hlt:p < s.heap.objs.size:=by obtain⟨o,ho,_⟩:=pl.isList;exact Ux ho
 refine call_any_walk (Ve pl.isList ?_);have up:∀b o,s.heap.get? b=some o->(s.heap.push { cls:=.type "list_iterator",data:=.fields #[.ref p,.int 0 0] }).get? b=some o:=λb o e=>Up _ e;refine⟨s.heap.objs.size,_,_,_,_,_,λi=>(bs[i]?).getD false,rfl,Walks.list (A:=X.A.in1) (I.ok.hd hc) s.heap.objs.size p (US hlt) its.toArray,⟨⟨_,UC _ rfl,rfl,rfl⟩,pl.isList.push _⟩,?_,λh' tk hk=>?_⟩
 .intro i v s' Q' E' hv hq;have hi:i < its.length:=by
   by_cases z:i < its.length
   .exact z
   .rw[WK (by simpa using z)]at hv;cases hv
  obtain⟨u',e1,r1⟩:=rv.get (i:=i) (x:=.bl bs[i]) (by rw[Ut,Uq (by omega)];rfl);have e2:v=u':=by
   have z:its[i]?=some v:=by simpa using hv
   rw[z]at e1;exact Vx e1
  subst e2;cases (show v=Value.bool bs[i] from r1);refine VO ?_;have hq':Q' ((bs[i]?).getD false) s':=hq;rw[Uq (show i < bs.length by omega)]at hq';exact hq'
 .have e:(List.range its.toArray.size).any (λi=>(bs[i]?).getD false)=bs.any id:=by
   rw[Uw,<-hl,Wt,WZ,WZ]
   constructor
   .rintro⟨i,hi,h1⟩;have hi':i < bs.length:=Wk.mp hi;rw[Uq hi']at h1;exact⟨bs[i],V7 hi',h1⟩
   .rintro⟨x,hx,h1⟩;obtain⟨i,hi,e⟩:=Wh hx;exact⟨i,Wk.mpr hi,by rw[Uq hi,e];exact h1⟩
  refine⟨.bl (bs.any id),H,?_,by rw[e];rfl,q⟩;exact I.kept (t':=tk) λb o z=>hk b o (by
   intro q2;have q3:b=s.heap.objs.size:=by simpa using q2
   rw[q3]at z;exact absurd (Ux z) (VS _)) (up b o z)
def uh{pins:Va}{σ:St}{H:Hp}{s:Shared}{x:Value}{t:Value}{p:Heap->Prop}{vs:List V}{tp:Addr}{b:Bool}{Q:Vq}{E:Vq}(I:Inv X pins σ H s)(Z:PySem.W.KitX X.K x t p)(hp:p s.heap)(hx:x ≠ .builtin "__main__.__loader__#opaque")
  (ht:SqT X.K H tp vs) (e:∀its,Vals vs its->PySem.W.kitAny X.K t its=some b) (h:∀tk,Q (.bool b) { s with toks:=tk }):wpAny (model X.prog X.w) X.A (call (.builtin "isinstance") [x,.ref tp]) Q E s:=by
 obtain⟨its,rv,⟨⟨cls,dd,data,sl⟩,ho,hc,n,hd⟩,hz⟩:=I.tuple ht;simp only at hc hd;subst hc hd;exact PySem.W.kia_tup Z I.Ov hp ho (e its rv) hx h
end
end L2
namespace L3
open PySem L2
abbrev rW:=List PV->aA->bB->Prop
section
variable {X:Cx}{e o:Expr}{es:List Expr}{te to:ba}{ts:List ba}{x:Str}{p pos apos cpos:Pos}
inductive LC(X:Cx)(r:rW)(xs:List V)(H:Hp)(Q:VK):Prop
 |mk (ps S Q3) (rx:Reps X.K H xs ps) (rS:IQ X.K H S) (h:r ps S Q3) (k:Os X.K H Q3 Q):LC X r xs H Q
structure fD(X:Cx)(f:Value)(r:rW):Prop where
 ok:eR X f (LC X r)
def ak(r:rW)(ts:List ba):ba:=λσ S Q E=>am ts σ S (λps S1=>r ps S1 Q) E
def ve{r:rW}{σ:L2.St}{H:Hp}{Q:VK}:LE X (ak r ts) σ H Q->GJ (ts.map (LE X)) σ H λvs H1=>LC X r vs H1 Q:=λ⟨σ3,S,Q3,E3,rσ,rS,h,xo,k⟩=>
 c_ rσ rS h xo λps S' vs H' hl q rv Lv g=>⟨ps,S',Q3,rv,Lv,q,k.mono g⟩
def AL{id:String}{r:rW}(hc:fD X (.builtin id) r)(hg:Gl X x)(hm:X.mg x=none)(hv:bootBuiltins x=some (.builtin id))(he:starEach (e::es) X.env=(false,eval e X.env)::starEach es X.env)(ha:lK X (e::es) ts)
  (hn:x ≠ "__name__":=by decide) (hdb:(x == ("__debug__":Str))=false:=by decide) (hpl:(backTo pos (starEach es X.env)).any (·.1)=false:=by rfl):bw X (.Call (.Name x p) (e::es) [] pos) (ak r ts):=
 ⟨bb (xL hc.ok hg hm hv ha.ok hn hdb he hpl) λ_ _ _=>ve⟩
def AM{id:String}{r:rW}(hc:fD X (.type id) r)(hg:Gl X x)(hm:X.mg x=none)(hv:bootBuiltins x=some (.type id))(he:starEach (e::es) X.env=(false,eval e X.env)::starEach es X.env)(ha:lK X (e::es) ts)
  (hn:x ≠ "__name__":=by decide) (hdb:(x == ("__debug__":Str))=false:=by decide) (hpl:(backTo pos (starEach es X.env)).any (·.1)=false:=by rfl):bw X (.Call (.Name x p) (e::es) [] pos) (ak r ts):=
 ⟨bb (v6 hc.ok hg hm hv ha.ok hn hdb he hpl) λ_ _ _=>ve⟩
def bx:rW:=λps S Q=>match ps with
 |[.tup xs]=>Q (.int xs.length) S
 |[.cl xs]=>Q (.int xs.length) S
 |[.str z]=>z.length<=sizeLine/\Q (.int z.length) S
 |[.ref a]=>(match S a with|some (.lst xs)=>Q (.int xs.length) S|some (.dct kvs)=>Q (.int kvs.length) S|_=>False)
 |_=>False
def bK:fD X (.builtin "len") bx:=⟨λpins s σ H xs us Q I r ⟨ps,S,Q3,rp,rS,q,k⟩=>by
 unfold bx at q
 split at q
 .cases rp with|cons a rr=>cases rr;cases a with|tup h rs=>exact gN pins s σ H _ us Q I r ⟨_,_,rfl,.inr h,by rw[rs.length];exact k _ S _ H q (.int _) rS .refl⟩
 .cases rp with|cons a rr=>cases rr;cases a with|cl h rs=>exact gN pins s σ H _ us Q I r ⟨_,_,rfl,.inl h.sq,by rw[rs.length];exact k _ S _ H q (.int _) rS .refl⟩
 .cases rp with|cons a rr=>cases rr;cases a;exact qo pins s σ H _ us Q I r ⟨_,rfl,q.1,k _ S _ H q.2 (.int _) rS .refl⟩
 .cases rp with
  |cons a rr=>
   cases rr;cases a
   split at q
   .rename_i e;obtain⟨vs,hv,rs⟩:=rS _ _ e;exact gN pins s σ H _ us Q I r ⟨_,_,rfl,.inl (SqL.of hv),by rw[rs.length];exact k _ S _ H q (.int _) rS .refl⟩
   .rename_i e;obtain⟨vs,hv,rs⟩:=rS _ _ e;exact we pins s σ H _ us Q I r ⟨_,_,rfl,hv,by rw[rs.length];exact k _ S _ H q (.int _) rS .refl⟩
   .exact q.elim
 .exact q.elim⟩
def wv:rW:=λps S Q=>match ps with|[.int i]=>Q (.int (if i < 0 then -i else i)) S|_=>False
def FO:fD X (.builtin "abs") wv:=⟨λpins s σ H xs us Q I r ⟨ps,S,Q3,rp,rS,q,k⟩=>by
 unfold wv at q
 split at q
 .cases rp with|cons a rr=>cases rr;cases a;exact xK pins s σ H _ us Q I r ⟨_,rfl,k _ S _ H q (.int _) rS .refl⟩
 .exact q.elim⟩
def iB:rW:=λps S Q=>match ps with|[.int i,.int j]=>Q (.int (if j > i then j else i)) S|_=>False
def jY(hc:X.calm=true):fD X (.builtin "max") iB:=⟨λpins s σ H xs us Q I r ⟨ps,S,Q3,rp,rS,q,k⟩=>by
 unfold iB at q
 split at q
 .cases rp with|cons a rr=>cases rr with|cons b r3=>cases r3;cases a;cases b;exact vZ hc pins s σ H _ us Q I r ⟨_,_,rfl,k _ S _ H q (.int _) rS .refl⟩
 .exact q.elim⟩
def eW:rW:=λps S Q=>match ps with|[.int i]=>Q (.int i) S|[.bl b]=>Q (.int (if b then 1 else 0)) S|_=>False
def pI:fD X (.type "int") eW:=⟨λpins s σ H xs us Q I r ⟨ps,S,Q3,rp,rS,q,k⟩=>by
 unfold eW at q
 split at q
 .cases rp with|cons a rr=>cases rr;cases a;exact ph pins s σ H _ us Q I r (.inl ⟨_,rfl,k _ S _ H q (.int _) rS .refl⟩)
 .cases rp with|cons a rr=>cases rr;cases a;exact ph pins s σ H _ us Q I r (.inr ⟨_,rfl,k _ S _ H q (.int _) rS .refl⟩)
 .exact q.elim⟩
def jZ:rW:=λps S Q=>match ps with
 |[.str z]=>z.length<=sizeLine/\∀p,S p=none->Q (.ref p) (II S p (.lst (z.cps.toList.map λc=>.str (lG c))))
 |[v]=>(match lL S v with|some xs=>∀p,S p=none->Q (.ref p) (II S p (.lst xs))|none=>False)
 |_=>False
theorem nJ{K:Vo}{H:Hp}:∀cs:List Nat,Reps K H (cs.map λc=>V.str (lG c)) (cs.map λc=>PV.str (lG c))
 |[]=>.nil
 |c::r=>.cons (.str _) (nJ r)
def DB(hc:X.calm=true):fD X (.type "list") jZ:=⟨λpins s σ H xs us Q I r ⟨ps,S,Q3,rp,rS,q,k⟩=>by
 unfold jZ at q
 split at q
 .cases rp with|cons a rr=>cases rr;cases a;exact lH hc pins s σ H _ us Q I r ⟨_,rfl,q.1,λp hp=>k _ _ _ _ (q.2 p (rS.free hp)) (.ref p) (rS.new hp ⟨_,aI,(nJ _)⟩) (.new hp)⟩
 .cases rp with
  |cons a rr=>
   cases rr
   split at q
   .rename_i e;obtain⟨b,vs,rfl,hs,rs⟩:=yr rS a e;exact qp pins s σ H _ us Q I r ⟨_,_,rfl,hs,λp hp=>k _ _ _ _ (q p (rS.free hp)) (.ref p) (rS.new hp ⟨_,aI,rs.mono (.new hp)⟩) (.new hp)⟩
   .exact q.elim
 .exact q.elim⟩
def aW:rW:=λps S Q=>match ps with
 |[v]=>(match lL S v with|some xs=>Q (.tup xs) S|none=>False)
 |_=>False
def bL:fD X (.type "tuple") aW:=⟨λpins s σ H xs us Q I r ⟨ps,S,Q3,rp,rS,q,k⟩=>by
 unfold aW at q
 split at q
 .cases rp with
  |cons a rr=>
   cases rr
   split at q
   .rename_i e;obtain⟨b,vs,rfl,hs,rs⟩:=yr rS a e;rcases hs with hs|hs
    .exact jI pins s σ H _ us Q I r ⟨_,_,rfl,.inl ⟨hs,λp hp=>k _ S _ _ q (.tup (SqT.of aI) (rs.mono (.new hp))) (rS.other hp) (.new hp)⟩⟩
    .exact jI pins s σ H _ us Q I r ⟨_,_,rfl,.inr ⟨hs,k _ S _ _ q (.tup hs rs) rS .refl⟩⟩
   .exact q.elim
 .exact q.elim⟩
noncomputable def mJ:List PV->Option (List Bool)
 |[]=>some []
 | .bl b::r=>(mJ r).map (b::·)
 |_::_=>none
theorem j0{K:Vo}{H:Hp}:∀{vs:List V}{ps:List PV}{bs:List Bool},Reps K H vs ps->mJ ps=some bs->vs=bs.map V.bl
 |_,_,_,.nil,h=>by cases h;rfl
 |_,_,bs,.cons (p:=p) a r,h=>by
  cases p with
  |bl b=>
   cases a;unfold mJ at h;cases e:mJ _ with
   |none=>rw[e]at h;cases h
   |some l=>rw[e]at h;cases h;rw[j0 r e];rfl
  |_=>cases h
def AN:rW:=λps S Q=>match ps with
 |[.ref a]=>(match S a with|some (.lst xs)=>(match mJ xs with|some bs=>Q (.bl (bs.all id)) S|none=>False)|_=>False)
 |_=>False
def FP(hc:X.calm=true):fD X (.builtin "all") AN:=⟨λpins s σ H xs us Q I r ⟨ps,S,Q3,rp,rS,q,k⟩=>by
 unfold AN at q
 split at q
 .cases rp with
  |cons a rr=>
   cases rr;cases a
   split at q
   .rename_i e
    split at q
    .rename_i eb;obtain⟨vs,hv,rs⟩:=rS _ _ e;have e2:=j0 rs eb;subst e2;exact wj hc pins s σ H _ us Q I r ⟨_,_,rfl,SqL.of hv,k _ S _ H q (.bl _) rS .refl⟩
    .exact q.elim
   .exact q.elim
 .exact q.elim⟩
def AO:rW:=λps S Q=>match ps with
 |[.ref a]=>(match S a with|some (.lst xs)=>(match mJ xs with|some bs=>Q (.bl (bs.any id)) S|none=>False)|_=>False)
 |_=>False
def FQ(hc:X.calm=true):fD X (.builtin "any") AO:=⟨λpins s σ H xs us Q I r ⟨ps,S,Q3,rp,rS,q,k⟩=>by
 unfold AO at q
 split at q
 .cases rp with
  |cons a rr=>
   cases rr;cases a
   split at q
   .rename_i e
    split at q
    .rename_i eb;obtain⟨vs,hv,rs⟩:=rS _ _ e;have e2:=j0 rs eb;subst e2;exact wu hc pins s σ H _ us Q I r ⟨_,_,rfl,SqL.of hv,k _ S _ H q (.bl _) rS .refl⟩
    .exact q.elim
   .exact q.elim
 .exact q.elim⟩
end
noncomputable def su(t c:String):Bool:=t == c || (t == "bool" && c == "int")
noncomputable def AQ(S:aA):PV->Option String
 | .non=>some "NoneType"
 | .bl _=>some "bool"
 | .int _=>some "int"
 | .str _=>some "str"
 | .tup _=>some "tuple"
 | .cl _=>some "list"
 | .ref a=>(match S a with|some (.lst _)=>some "list" | some (.dct _)=>some "dict" | _=>none)
 | .ty _=>none
 | .exc _ _ _=>none
 | .cls _=>none
noncomputable def cN(c:String):Bool:=["int","str","bool","tuple","list","dict"].contains c
def yv(K:Vo)(t c:String):PySem.W.kitCls K (.type t) (.type c)=(if PySem.W.kitMeta c=true then (PySem.fastBuiltinMro t).map (·.contains (Value.type c)) else none):=rfl
def vf{K:Vo}{t c:String}(ht:t∈["NoneType","bool","int","str","tuple","list","dict"])(hc:cN c=true):PySem.W.kitOne K (.type t) (.type c)=some (su t c):=by
 have hc':c∈["int","str","bool","tuple","list","dict"]:=by
  have:=hc;unfold cN at this
  simpa using this
 simp only[Uv,UK,Vp]at ht hc';rcases ht with rfl|rfl|rfl|rfl|rfl|rfl|rfl<;>rcases hc' with rfl|rfl|rfl|rfl|rfl|rfl <;>
  first
   |(unfold PySem.W.kitOne;rw[if_pos (by decide)];rfl)
   |(unfold PySem.W.kitOne;rw[if_neg (by decide),yv];decide +kernel)
def yw{S:aA}{p:PV}{t:String}(h:AQ S p=some t):t∈["NoneType","bool","int","str","tuple","list","dict"]:=by
 unfold AQ at h
 split at h<;>first|(cases h;decide)|(split at h<;>first|(cases h;decide)|cases h)|cases h
section
variable {X:Cx}
noncomputable def FR:List PV->Option (List String)
 |[]=>some []
 | .ty c::r=>if cN c then (FR r).map (c::·) else none
 |_::_=>none
def kJ:rW:=λps S Q=>match ps with
 |[x,.ty c]=>(match AQ S x with|some t=>cN c=true/\Q (.bl (su t c)) S|none=>False)
 |[x,.tup cs]=>(match AQ S x,FR cs with|some t,some l=>Q (.bl (l.any (su t))) S|_,_=>False)
 |_=>False
def AR{K:Vo}{H:Hp}{t:String}(ht:t∈["NoneType","bool","int","str","tuple","list","dict"]):∀(cs:List PV){l:List String}{vs:List V}{its:Vv},FR cs=some l->Reps K H vs cs->Vals vs its->PySem.W.kitAny K (.type t) its=some (l.any (su t)):=by
 intro cs
 induction cs with
 |nil=>intro l vs its h rs r;cases h;cases rs;cases r;rfl
 |cons p cs ih=>
  intro l vs its h rs r;cases p with
  |ty c=>
   unfold FR at h
   split at h
   .rename_i hc;cases e:FR cs with
    |none=>rw[e]at h;cases h
    |some l'=>
     rw[e]at h;cases h;cases rs with
     |cons a rs=>
      cases a;cases r with
      |@cons _ u _ us r1 r2=>
       cases (show u=Value.type c from r1);show(match PySem.W.kitOne K (.type t) (.type c)with|some true=>some true|some false=>PySem.W.kitAny K (.type t) us|none=>none)=_;rw[vf ht hc,XQ];cases su t c with
       |true=>rfl
       |false=>exact ih e rs r2
   .cases h
  |_=>cases h
def pJ:fD X (.builtin "isinstance") kJ:=⟨λpins s σ H xs us Q I r ⟨ps,S,Q3,rp,rS,q,k⟩=>by
 have main:∀{v:PV} {x:V} {u:Value} {t:String},Rep X.K H x v->RelV x u->AQ S v=some t->∃(h:Heap->Prop),PySem.W.KitX X.K u (.type t) h/\h s.heap/\u ≠ .builtin "__main__.__loader__#opaque":=by
  intro v x u t rv rx ht;cases rv with
  |non=>cases ht;cases rx;exact⟨_,PySem.W.kitx_none,True.intro,λz=>nomatch z⟩
  |bl b=>cases ht;cases rx;exact⟨_,PySem.W.kitx_bool,True.intro,λz=>nomatch z⟩
  |int b=>cases ht;obtain⟨t,rfl⟩:=rx;exact⟨_,PySem.W.kitx_int,True.intro,λz=>nomatch z⟩
  |str b=>cases ht;obtain⟨t,rfl⟩:=rx;exact⟨_,PySem.W.kitx_str,True.intro,λz=>nomatch z⟩
  |ty b=>cases ht
  |exc _ _ _=>cases ht
  |cls _=>cases ht
  |tup h rs=>
   cases ht;cases rx;obtain⟨its,_,⟨o,ho,hc,_⟩,_⟩:=I.tuple h;exact⟨_,PySem.W.kitx_tuple,⟨o,ho,hc⟩,λz=>nomatch z⟩
  |cl h rs=>
   cases ht;cases rx;obtain⟨its,_,⟨o,n,ho,hc,_⟩,_⟩:=I.list h.sq;exact⟨_,PySem.W.kitx_list,⟨o,ho,hc⟩,λz=>nomatch z⟩
  |ref a=>
   cases rx;unfold AQ at ht;simp only at ht
   split at ht
   .rename_i e;cases ht;obtain⟨vs,hv,_⟩:=rS _ _ e;obtain⟨its,_,⟨o,n,ho,hc,_⟩,_⟩:=I.list (SqL.of hv);exact⟨_,PySem.W.kitx_list,⟨o,ho,hc⟩,λz=>nomatch z⟩
   .rename_i e;cases ht;obtain⟨vs,hv,_⟩:=rS _ _ e;obtain⟨_,_,vs',_,p⟩:=(show Jl X.prog X.w H s.heap _ (.dK vs)from I.hok _ _ hv)
    obtain⟨o,es,ep,h1,h2,_⟩:=p;exact⟨_,PySem.W.kitx_dict,⟨o,h1,h2.1⟩,λz=>nomatch z⟩
   .cases ht
 unfold kJ at q
 split at q
 .split at q
  .rename_i ht;cases rp with
   |cons a rr=>
    cases rr with
    |cons b r3=>
     cases r3;cases b;cases r with
     |cons r1 r2=>
      cases r2 with
      |cons r4 r5=>
       cases r5;cases (show _=Value.type _ from r4);obtain⟨h,Z,hp,hx⟩:=main a r1 ht;exact PySem.W.kia_one Z I.Ov hp (vf (yw ht) q.1) hx λtk=>⟨.bl _,H,I.tok _,rfl,k _ S _ H q.2 (.bl _) rS .refl⟩
  .exact q.elim
 .split at q
  .rename_i ht hl;cases rp with
   |cons a rr=>
    cases rr with
    |cons b r3=>
     cases r3;cases b with
     |tup h1 rs=>
      cases r with
      |cons r1 r2=>
       cases r2 with
       |cons r4 r5=>
        cases r5;cases r4;obtain⟨h,Z,hp,hx⟩:=main a r1 ht;exact uh I Z hp hx h1 (λits rv=>AR (yw ht) _ hl rs rv) λtk=>⟨.bl _,H,I.tok _,rfl,k _ S _ H q (.bl _) rS .refl⟩
  .exact q.elim
 .exact q.elim⟩
end
abbrev uk:=PV->List PV->aA->bB->Prop
section
variable {X:Cx}{e o:Expr}{es:List Expr}{te to:ba}{ts:List ba}{name:Str}{p pos apos cpos:Pos}{T id:String}
inductive LM(X:Cx)(r:uk)(x:V)(xs:List V)(H:Hp)(Q:VK):Prop
 |mk (px ps S Q3) (rx:Rep X.K H x px) (rs:Reps X.K H xs ps) (rS:IQ X.K H S) (h:r px ps S Q3) (k:Os X.K H Q3 Q):LM X r x xs H Q
structure xi(X:Cx)(id:String)(r:uk):Prop where
 ok:Df X id (LM X r)
def vg(T:String)(x:PV)(S:aA):Prop:=match x with
 | .str _=>T = "str"
 | .ref a=>(match S a with|some (.lst _)=>T = "list" | some (.dct _)=>T = "dict" | _=>False)
 | .cl _=>T = "list"
 |_=>False
def yx{H:Hp}{S:aA}{v:V}{p:PV}(rS:IQ X.K H S)(r:Rep X.K H v p)(h:vg T p S):GG X.K T v H:=by
 cases r with
 |str x=>exact h
 |ref a=>
  unfold vg at h;simp only at h
  split at h
  .rename_i e;obtain⟨vs,hv,_⟩:=rS _ _ e;exact .inl ⟨h,_,SqL.of hv⟩
  .rename_i e;obtain⟨vs,hv,_⟩:=rS _ _ e;exact .inr (.inr (.inl ⟨h,.inl ⟨_,hv⟩⟩))
  .exact h.elim
 |cl h1 _=>exact .inl ⟨h,_,h1.sq⟩
 |_=>exact h.elim
def jp(T:String)(r:uk)(to:ba)(ts:List ba):ba:=λσ S Q E=>to σ S (λx S1=>vg T x S1/\am ts σ S1 (λps S2=>r x ps S2 Q) E) E
def Hn{r:uk}(pa:PlainAttrs T)(slot:Slot T name id)(hty:typeOf (.builtin id)=pure (.type "method_descriptor"))(hm:xi X id r)(hs:starEach (e::es) X.env=(false,eval e X.env)::starEach es X.env)(ho:bw X o to)(ha:lK X (e::es) ts)
  (hbase:attributeBase o name X.env (eval o X.env)=eval o X.env:=by rfl)
  (hfew:((backTo cpos (starEach (e::es) X.env)).all (λx=>!x.1)&&(backToKw cpos (keywordEach [] X.env)).all (λx=>x.1.isSome)
   && decide ((e::es).length+([]:List Keyword).length+(if ([]:List Keyword).isEmpty then 0 else 1) < 30))=true:=by rfl)
  (hline:(apos.endLine == cpos.line)=true:=by rfl) (hplain:(backTo cpos (starEach es X.env)).any (·.1)=false:=by rfl):bw X (.Call (.Attribute o name apos) (e::es) [] cpos) (jp T r to ts):=
 ⟨bb (Fw pa slot hty hm.ok ho.ok ha.ok hbase hfew hline hs hplain) λσ H Q ⟨σ3,S,Q3,E3,rσ,rS,h,xo,k⟩=>⟨σ3,S,_,E3,rσ,rS,h,xo,λx S1 v H1 h1 rx IZ g1=>
  ⟨yx IZ rx h1.1,c_ (rσ.mono g1) IZ h1.2 (xo.mono g1) λps S2 vs H2 hl q rv KW g2=>⟨x,ps,S2,Q3,rx.mono g2,rv,KW,q,k.mono (g1.trans g2)⟩⟩⟩⟩
def FS{r:uk}(pa:PlainAttrs T)(slot:Slot T name id)(hty:typeOf (.builtin id)=pure (.type "method_descriptor"))(hm:xi X id r)(ho:bw X o to)
  (hbase:attributeBase o name X.env (eval o X.env)=eval o X.env:=by rfl) (hline:(apos.endLine == cpos.line)=true:=by rfl):bw X (.Call (.Attribute o name apos) [] [] cpos) (jp T r to []):=
 ⟨bb (Di pa slot hty hm.ok ho.ok hbase hline) λσ H Q ⟨σ3,S,Q3,E3,rσ,rS,h,xo,k⟩=>⟨σ3,S,_,E3,rσ,rS,h,xo,λx S1 v H1 h1 rx IZ g1=>
  ⟨yx IZ rx h1.1,⟨x,[],S1,Q3,rx,.nil,IZ,h1.2,k.mono g1⟩⟩⟩⟩
def cp:uk:=λx ps S Q=>match x,ps with
 | .ref a,[y]=>(match S a with|some (.lst xs)=>xs.length < sizeLine/\Q .non (II S a (.lst (xs++[y])))|_=>False)
 |_,_=>False
def gA:xi X "list.append" cp:=⟨λpins s σ H x xs v us Q I rx rs ⟨px,ps,S,Q3,r1,rp,rS,q,k⟩=>by
 unfold cp at q
 split at q
 .split at q
  .rename_i e;cases r1;cases rp with
   |cons b rr=>
    cases rr;obtain⟨vs,hv,rl⟩:=rS _ _ e;exact v7 pins s σ H _ _ v us Q I rx rs ⟨_,_,_,rfl,rfl,hv,by rw[rl.length];exact q.1,k _ _ _ _ q.2 .non (rS.put hv trivial ⟨_,aI,(rl.append (.cons b .nil)).mono (.mut hv trivial)⟩) (.mut hv trivial)⟩
  .exact q.elim
 .exact q.elim⟩
def bT:uk:=λx ps S Q=>match x,ps with
 | .ref a,[.ref b]=>(match S a,S b with|some (.lst xs),some (.lst ys)=>xs.length+ys.length<=sizeLine/\Q .non (II S a (.lst (xs++ys)))|_,_=>False)
 |_,_=>False
def iN:xi X "list.extend" bT:=⟨λpins s σ H x xs v us Q I rx rs ⟨px,ps,S,Q3,r1,rp,rS,q,k⟩=>by
 unfold bT at q
 split at q
 .split at q
  .rename_i e e2;cases r1;cases rp with
   |cons b rr=>
    cases rr;cases b;obtain⟨vs,hv,rl⟩:=rS _ _ e;obtain⟨us',hu,ru⟩:=rS _ _ e2;exact v8 pins s σ H _ _ v us Q I rx rs ⟨_,_,_,_,rfl,rfl,hv,hu,by rw[rl.length,ru.length];exact q.1,k _ _ _ _ q.2 .non (rS.put hv trivial ⟨_,aI,(rl.append ru).mono (.mut hv trivial)⟩) (.mut hv trivial)⟩
  .exact q.elim
 .exact q.elim⟩
def sv:uk:=λx ps S Q=>match x,ps with
 | .ref a,[]=>(match S a with|some (.lst xs)=>(match xs[xs.length - 1]? with|some y=>Q y (II S a (.lst xs.dropLast))|none=>False)|_=>False)
 | .ref a,[.int i]=>(match S a with|some (.lst xs)=>-(2 ^ 63)<=i/\i < 2 ^ 63/\(match seqIndex? i xs.length with|some j=>(match xs[j]? with|some y=>Q y (II S a (.lst (xs.eraseIdx j)))|none=>False)|none=>False)|_=>False)
 |_,_=>False
def BZ:xi X "list.pop" sv:=⟨λpins s σ H x xs v us Q I rx rs ⟨px,ps,S,Q3,r1,rp,rS,q,k⟩=>by
 unfold sv at q
 split at q
 .split at q
  .rename_i e
   split at q
   .rename_i ey;cases r1;cases rp;obtain⟨vs,hv,rl⟩:=rS _ _ e;rw[<-rl.length]at ey;obtain⟨y',Rr,ry⟩:=rl.get ey;exact Dj pins s σ H _ _ v us Q I rx rs ⟨_,_,_,rfl,rfl,hv,Rr,k _ _ _ _ q (ry.mono (.mut hv trivial)) (rS.put hv trivial ⟨_,aI,rl.dropLast.mono (.mut hv trivial)⟩) (.mut hv trivial)⟩
   .exact q.elim
  .exact q.elim
 .split at q
  .rename_i e;obtain⟨h1,h2,q⟩:=q
   split at q
   .rename_i ej
    split at q
    .rename_i ey;cases r1;cases rp with
     |cons b rr=>
      cases rr;cases b;obtain⟨vs,hv,rl⟩:=rS _ _ e;obtain⟨y',Rr,ry⟩:=rl.get ey;rw[<-rl.length]at ej;exact xR pins s σ H _ _ v us Q I rx rs ⟨_,_,_,_,_,rfl,rfl,hv,h1,h2,ej,Rr,k _ _ _ _ q (ry.mono (.mut hv trivial)) (rS.put hv trivial ⟨_,aI,(rl.eraseIdx _).mono (.mut hv trivial)⟩) (.mut hv trivial)⟩
    .exact q.elim
   .exact q.elim
  .exact q.elim
 .exact q.elim⟩
noncomputable def texts:List PV->Option (List Str)
 |[]=>some []
 | .str b::r=>(texts r).map (b::·)
 |_::_=>none
theorem nK{K:Vo}{H:Hp}:∀{vs:List V}{ps:List PV}{bs:Vs},Reps K H vs ps->texts ps=some bs->vs=bs.map V.str
 |_,_,_,.nil,h=>by cases h;rfl
 |_,_,bs,.cons (p:=p) a r,h=>by
  cases p with
  |str b=>
   cases a;unfold texts at h;cases e:texts _ with
   |none=>rw[e]at h;cases h
   |some l=>rw[e]at h;cases h;rw[nK r e];rfl
  |_=>cases h
def pK:uk:=λx ps S Q=>match x,ps with
 | .str z,[.ref a]=>(match S a with|some (.lst xs)=>(match texts xs with|some ys=>(ys.map (·.length)).sum+ys.length * z.length<=1000000/\Q (.str (Txt.join z ys)) S|none=>False)|_=>False)
 |_,_=>False
def yy:xi X "str.join" pK:=⟨λpins s σ H x xs v us Q I rx rs ⟨px,ps,S,Q3,r1,rp,rS,q,k⟩=>by
 unfold pK at q
 split at q
 .split at q
  .rename_i e
   split at q
   .rename_i et;cases r1;cases rp with
    |cons b rr=>
     cases rr;cases b;obtain⟨vs,hv,rl⟩:=rS _ _ e;have e2:=nK rl et;subst e2;exact AA pins s σ H _ _ v us Q I rx rs ⟨_,_,_,rfl,rfl,SqL.of hv,q.1,k _ S _ H q.2 (.str _) rS .refl⟩
   .exact q.elim
  .exact q.elim
 .exact q.elim⟩
def lM:uk:=λx ps S Q=>match x,ps with
 | .str a,[.str b]=>(match Builtin.Str.occurrences a b 0 a.length 1 with|i::_=>Q (.int i) S|[]=>False)
 |_,_=>False
def AS:xi X "str.index" lM:=⟨λpins s σ H x xs v us Q I rx rs ⟨px,ps,S,Q3,r1,rp,rS,q,k⟩=>by
 unfold lM at q
 split at q
 .split at q
  .rename_i e;cases r1;cases rp with
   |cons b rr=>
    cases rr;cases b;exact ya pins s σ H _ _ v us Q I rx rs ⟨_,_,_,_,rfl,rfl,e,k _ S _ H q (.int _) rS .refl⟩
  .exact q.elim
 .exact q.elim⟩
end
section
variable {X:Cx}{e c:Expr}{te:ba}{st:Stmt}{rest a b:List Stmt}{t u:bv}{tc:kH}{pos:Pos}
def aO:bv:=λD σ S=>D.nx σ S
def ai(t u:bv):bv:=λD σ S=>t { D with nx:=u D } σ S
def aE:lJ X [] aO:=⟨vb zV λD σ H ⟨σ3,S,D3,rσ,rS,h,xo,n,r,bk,ct⟩=>n σ3 S σ H h rσ rS .refl⟩
def ae(h1:sr X st t)(h2:lJ X rest u):lJ X (st::rest) (ai t u):=
 ⟨vb (xy h1.ok h2.ok) λD σ H ⟨σ3,S,D3,rσ,rS,h,xo,n,r,bk,ct⟩=>⟨σ3,S,{ D3 with nx:=u D3 },rσ,rS,h,xo,λσ4 S' σ' H' h' OM Lv g=>⟨σ4,S',D3,OM,Lv,h',xo.mono g,n.mono g,r.mono g,bk.mono g,ct.mono g⟩,r,bk,ct⟩⟩
def aj(h1:sr X st t):lJ X [st] t:=⟨zW h1.ok⟩
def bg(te:ba):bv:=λD σ S=>te σ S (λ_ S1=>D.nx σ S1) D.ex
def cn(he:bw X e te)(hs:swapsWith e none pos.line X.env=pure false:=by rfl):sr X (.Expr e pos) (bg te):=
 ⟨dH (zX he.ok hs) λD σ H ⟨σ3,S,D3,rσ,rS,h,xo,n,r,bk,ct⟩=>⟨σ3,S,_,D3.ex,rσ,rS,h,xo,λp S1 v H1 h1 rv IZ g1=>n σ3 S1 σ H1 h1 (rσ.mono g1) IZ g1⟩⟩
def aw(te:ba):bv:=λD σ S=>te σ S D.rt D.ex
def au(he:bw X e te):sr X (.Return (some e) pos) (aw te):=
 ⟨dH (CQ he.ok) λD σ H ⟨σ3,S,D3,rσ,rS,h,xo,n,r,bk,ct⟩=>⟨σ3,S,D3.rt,D3.ex,rσ,rS,h,xo,r⟩⟩
def bm(c:kH)(t u:bv):bv:=λD σ S=>c σ S (λb S1=>if b=true then t D σ S1 else u D σ S1) D.ex
def aP(hc:tM X c tc)(ha:lJ X a t)(hb:lJ X b u):sr X (.If c a b pos) (bm tc t u):=
 ⟨dH (Fb hc.ok ha.ok hb.ok) λD σ H ⟨σ3,S,D3,rσ,rS,h,xo,n,r,bk,ct⟩=>⟨σ3,S,_,D3.ex,rσ,rS,h,xo,λz S1 H1 h1 IZ g1=>by
  cases z with
  |true=>rw[if_pos rfl]at h1 ⊢;exact⟨σ3,S1,D3,rσ.mono g1,IZ,h1,xo.mono g1,n.mono g1,r.mono g1,bk.mono g1,ct.mono g1⟩
  |false=>rw[if_neg (by decide)]at h1 ⊢;exact⟨σ3,S1,D3,rσ.mono g1,IZ,h1,xo.mono g1,n.mono g1,r.mono g1,bk.mono g1,ct.mono g1⟩⟩⟩
def yz:bv:=λ_ _ _=>False
def AT:sr X st yz:=⟨dH xz λD σ H ⟨σ3,S,D3,rσ,rS,h,xo,n,r,bk,ct⟩=>h.elim⟩
def ap(i:Nat)(te:ba):bv:=λD σ S=>te σ S (λv S1=>D.nx (σ.set i (some v)) S1) D.ex
def yA{i:Nat}{D:tT}{σ:L2.St}{H:Hp}:LS X (ap i te) D σ H->Ab (LE X te) (sd i) D σ H:=λ⟨σ3,S,D3,rσ,rS,h,xo,n,r,bk,ct⟩=>
 ⟨σ3,S,_,D3.ex,rσ,rS,h,xo,λp S1 v H1 h1 rv IZ g1=>n _ S1 _ H1 h1 ((rσ.mono g1).set rv i) IZ g1⟩
def FT{i:Nat}{x:Str}{pos':Pos}(hN:X.N.Nodup)(hi:X.N[i]?=some x)(hx:BJ X.env.scope x)(he:bw X e te)(hs:swapsWith e (some (.Name x pos')) pos.line X.env=pure false:=by rfl)
  (hf:X.fn x=true\/X.env.scope.names.lookup x=some .local:=by walk_at "9"):sr X (.Assign [.Name x pos'] e pos) (ap i te):=⟨dH (CW hN hi hx he.ok hs hf) λ_ _ _=>yA⟩
def ww(i j:Nat)(ta tb:ba):bv:=λD σ S=>ta σ S (λv S1=>tb σ S1 (λw S2=>D.nx ((σ.set i (some v)).set j (some w)) S2) D.ex) D.ex
def B2{i j:Nat}{x y:Str}{a b:Expr}{ta tb:ba}{px py pt:Pos}{kt k2 Pz}(hc:X.calm=true)(hN:X.N.Nodup)(hi:X.N[i]?=some x)(hj:X.N[j]?=some y)(hij:i≠j)
  (hx:X.env.scope.names.lookup x=some .local) (hy:X.env.scope.names.lookup y=some .local) (ha:lK X [a,b] [ta,tb])
  (hw:swappedStores [.Tuple [.Name x px,.Name y py] kt pt] (.Tuple [a,b] k2 Pz) X.env=pure (some [x,y]):=by rfl)
  (hs:swapsWithSole [.Tuple [.Name x px,.Name y py] kt pt] (.Tuple [a,b] k2 Pz) pos.line X.env=pure false:=by rfl) :
  sr X (.Assign [.Tuple [.Name x px,.Name y py] kt pt] (.Tuple [a,b] k2 Pz) pos) (ww i j ta tb):=
 ⟨dH (CZ hc hN hi hj hij hx hy ha.ok hw hs) λD σ H ⟨σ3,S,D3,rσ,rS,h,xo,n,r,bk,ct⟩=>
  ⟨σ3,S,_,D3.ex,rσ,rS,h,xo,λv S1 v' H1 h1 rv IZ g1=>⟨σ3,S1,_,D3.ex,rσ.mono g1,IZ,h1,xo.mono g1,λw S2 w' H2 h2 rw' KW g2=>
   ⟨v',w',rfl,n _ S2 _ H2 h2 (((rσ.mono (g1.trans g2)).set (rv.mono g2) i).set rw' j) KW (g1.trans g2)⟩⟩⟩⟩
def nL(i j k:Nat)(te:ba):bv:=λD σ S=>te σ S (λp S1=>match p with | .tup [v,w,u]=>D.nx (((σ.set k (some u)).set j (some w)).set i (some v)) S1|_=>False) D.ex
def AU{i j k:Nat}{x y z:Str}{px py pz pt:Pos}{kt:Nat}(hc:X.calm=true)(hN:X.N.Nodup)(hi:X.N[i]?=some x)(hj:X.N[j]?=some y)(hk:X.N[k]?=some z)
  (hx:X.env.scope.names.lookup x=some .local) (hy:X.env.scope.names.lookup y=some .local) (hz:X.env.scope.names.lookup z=some .local) (he:bw X e te)
  (hw:swappedStores [.Tuple [.Name x px,.Name y py,.Name z pz] kt pt] e X.env=pure (some [x,y,z]):=by rfl)
  (hs:swapsWithSole [.Tuple [.Name x px,.Name y py,.Name z pz] kt pt] e pos.line X.env=pure false:=by rfl):sr X (.Assign [.Tuple [.Name x px,.Name y py,.Name z pz] kt pt] e pos) (nL i j k te):=
 ⟨dH (yb hc hN hi hj hk hx hy hz he.ok hw hs) λD σ H ⟨σ3,S,D3,rσ,rS,h,xo,n,r,bk,ct⟩=>⟨σ3,S,_,D3.ex,rσ,rS,h,xo,λp S1 v H1 h1 rv IZ g1=>by
  try dsimp only at h1
  split at h1
  .cases rv with
   |tup hq rs=>
    cases rs with
    |cons r1 rs=>
     cases rs with
     |cons r2 rs=>
      cases rs with
      |cons r3 rs=>
       cases rs;exact⟨_,_,_,_,rfl,hq,n _ S1 _ H1 h1 ((((rσ.mono g1).set r3 k).set r2 j).set r1 i) IZ g1⟩
  .exact h1.elim⟩⟩
inductive Tg where
 |n (i:Nat)|tp (l:Tg)|nil|cons (a r:Tg)
mutual
noncomputable def Tg.put:Tg->PV->cU->Option cU
 | .n i,p,σ=>some (σ.set i (some p))
 | .tp l,.tup xs,σ=>l.IL xs σ
 |_,_,_=>none
noncomputable def Tg.IL:Tg->List PV->cU->Option cU
 | .nil,[],σ=>some σ
 | .cons a r,x::xs,σ=>(match a.put x σ with|some σ'=>r.IL xs σ'|none=>none)
 |_,_,_=>none
end
noncomputable def Tg.len:Tg->Nat
 | .cons _ r=>r.len+1
 |_=>0
mutual
noncomputable def Tg.g2(K:Vo):Tg->TG
 | .n i=>sd i
 | .tp l=>Fe K l.len (l.Pk K)
 |_=>λ_ _ _ _=>False
noncomputable def Tg.Pk(K:Vo):Tg->BK
 | .nil=>Fd
 | .cons a r=>BL (a.g2 K) (r.Pk K)
 |_=>λ_ _ _ _=>False
end
noncomputable def Tg.under(own:Nat):Tg->Bool
 | .n i=>decide (i < own)
 | .tp l=>l.under own
 | .nil=>true
 | .cons a r=>a.under own&&r.under own
theorem Tg.Ny:∀(g:Tg){ps:List PV}{σ3 σ4:cU},g.IL ps σ3=some σ4->ps.length=g.len
 | .nil,ps,σ3,σ4,h=>by
  cases ps with
  |nil=>rfl
  |cons _ _=>unfold Tg.IL at h;cases h
 | .cons a r,ps,σ3,σ4,h=>by
  cases ps with
  |nil=>unfold Tg.IL at h;cases h
  |cons x xs=>
   unfold Tg.IL at h
   split at h
   .rw[UE,Tg.Ny r h];rfl
   .cases h
 | .n _,ps,σ3,σ4,h=>by unfold Tg.IL at h;cases h
 | .tp _,ps,σ3,σ4,h=>by unfold Tg.IL at h;cases h
mutual
theorem Tg.M9{K:Vo}{H:Hp}{own:Nat}:∀(g:Tg){v:V}{p:PV}{σ:L2.St}{σ3 σ4:cU}{Q:L2.St->Hp->Prop},Rep K H v p->Jb K H σ σ3->g.put p σ3=some σ4->(∀σ',Jb K H σ' σ4->(g.under own=true->σ'.drop own=σ.drop own)->Q σ' H)->g.g2 K v σ H Q
 | .n i,v,p,σ,σ3,σ4,Q,r,rσ,h,k=>by
  unfold Tg.put at h;cases h;unfold Tg.g2;refine k _ (rσ.set r i) λhb=>?_;have hi:i < own:=VP hb;rw[List.drop_set];rw[if_pos hi]
 | .tp l,v,p,σ,σ3,σ4,Q,r,rσ,h,k=>by
  cases p with
  |tup xs=>
   unfold Tg.put at h;cases r with
   |tup hq rs=>
    have hg:=Tg.N0 (own:=own) l rs rσ h k;unfold Tg.g2;exact⟨_,_,rfl,hq,rs.length.trans (Tg.Ny l h),hg⟩
  |_=>unfold Tg.put at h;cases h
 | .nil,v,p,σ,σ3,σ4,Q,r,rσ,h,k=>by unfold Tg.put at h;cases h
 | .cons _ _,v,p,σ,σ3,σ4,Q,r,rσ,h,k=>by unfold Tg.put at h;cases h
theorem Tg.N0{K:Vo}{H:Hp}{own:Nat}:∀(g:Tg){vs:List V}{ps:List PV}{σ:L2.St}{σ3 σ4:cU}{Q:L2.St->Hp->Prop},Reps K H vs ps->Jb K H σ σ3->g.IL ps σ3=some σ4->(∀σ',Jb K H σ' σ4->(g.under own=true->σ'.drop own=σ.drop own)->Q σ' H)->g.Pk K vs σ H Q
 | .nil,vs,ps,σ,σ3,σ4,Q,r,rσ,h,k=>by
  cases ps with
  |nil=>
   unfold Tg.IL at h;cases h;cases r;unfold Tg.Pk;exact⟨rfl,k _ rσ λ_=>rfl⟩
  |cons _ _=>unfold Tg.IL at h;cases h
 | .cons a r',vs,ps,σ,σ3,σ4,Q,r,rσ,h,k=>by
  cases ps with
  |nil=>unfold Tg.IL at h;cases h
  |cons x xs=>
   unfold Tg.IL at h
   split at h
   .rename_i σ5 e5;cases r with
    |cons r1 r2=>
     unfold Tg.Pk;refine⟨_,_,rfl,Tg.M9 (own:=own) a r1 rσ e5 λσ' OM d1=>Tg.N0 (own:=own) r' r2 OM h λTj Rs d2=>k Tj Rs λhb=>?_⟩;have hb':a.under own=true/\r'.under own=true:=by simpa [Tg.under]using hb
     rw[d2 hb'.2,d1 hb'.1]
   .cases h
 | .n _,vs,ps,σ,σ3,σ4,Q,r,rσ,h,k=>by unfold Tg.IL at h;cases h
 | .tp _,vs,ps,σ,σ3,σ4,Q,r,rσ,h,k=>by unfold Tg.IL at h;cases h
end
structure zR(X:Cx)(e:Expr)(g:Tg):Prop where
 ok:PG X e (g.g2 X.K)
structure AV(X:Cx)(es:List Expr)(g:Tg):Prop where
 ok:Fc X es (g.Pk X.K)
 len:(assignEach es X.env).length=g.len
def Ir(i:Nat){x:Str}(hN:X.N.Nodup)(hi:X.N[i]?=some x)(hx:BJ X.env.scope x)(hf:X.fn x=true\/X.env.scope.names.lookup x=some .local:=by walk_at "9"):zR X (.Name x pos) (.n i):=⟨by
 have h:=z_ (pos:=pos) hN hi hx hf;unfold Tg.g2;exact h⟩
def cq:AV X [] .nil:=⟨by unfold Tg.Pk;exact Aa,rfl⟩
def aF{es:List Expr}{a r:Tg}(h1:zR X e a)(h2:AV X es r)(hs:(assignEach (e::es) X.env).map (·.2)=assign e X.env::(assignEach es X.env).map (·.2):=by rfl)(hl:(assignEach (e::es) X.env).length=(assignEach es X.env).length+1:=by rfl):AV X (e::es) (.cons a r):=
 ⟨by unfold Tg.Pk;exact xA h1.ok h2.ok hs,by rw[hl,h2.len];rfl⟩
def m5{es:List Expr}{k:Nat}{l:Tg}(hc:X.calm=true)(h:AV X es l)(hst:(assignEach es X.env).findIdx? (·.1)=none:=by rfl):zR X (.Tuple es k pos) (.tp l):=⟨by
 have h:=CU (pos:=pos) (k:=k) hc h.ok h.len hst;unfold Tg.g2;exact h⟩
def sw(te:ba)(g:Tg):bv:=λD σ S=>te σ S (λv S1=>match g.put v σ with|some σ'=>D.nx σ' S1|none=>False) D.ex
def B3{tg:Expr}{g:Tg}(he:bw X e te)(hg:zR X tg g)(hs:swapsWithSole [tg] e pos.line X.env=pure false:=by rfl)(hw:swappedStores [tg] e X.env=pure none:=by rfl)
  (h1:(assignEach [tg] X.env).map (·.2)=[assign tg X.env]:=by rfl):sr X (.Assign [tg] e pos) (sw te g):=
 ⟨dH (xB he.ok hg.ok hs hw h1) λD σ H ⟨σ3,S,D3,rσ,rS,h,xo,n,r,bk,ct⟩=>⟨σ3,S,_,D3.ex,rσ,rS,h,xo,λp S1 v H1 h1 rv IZ g1=>by
  try dsimp only at h1
  split at h1
  .rename_i σ' e';exact Tg.M9 (own:=0) g rv (rσ.mono g1) e' λσ2 Tk _=>n _ S1 _ H1 h1 Tk IZ g1
  .exact h1.elim⟩⟩
end
noncomputable def kK{κ:Type} [DecidableEq κ](kvs:List (κ×PV))(k:κ)(v:PV):List (κ×PV):=
 if (kvs.any λkv=>decide (kv.1=k))=true then kvs.map (λkv=>if kv.1=k then (kv.1,v) else kv) else kvs++[(k,v)]
theorem Jr.append{K:Vo}{H:Hp}{κ:Type}:∀{vs us:List (κ×V)}{ps qs:List (κ×PV)},Jr K H vs ps->Jr K H us qs->Jr K H (vs++us) (ps++qs)
 |_,_,_,_,.nil,s=>s
 |_,_,_,_,.cons a r,s=>.cons a (Jr.append r s)
def Jr.put{K:Vo}{H:Hp}{κ:Type} [DecidableEq κ]{k:κ}{v:V}{p:PV}(q:Rep K H v p){vs:List (κ×V)}{ps:List (κ×PV)}(r:Jr K H vs ps):Jr K H (iJ vs k v) (kK ps k p):=by
 have e:(vs.any λkv=>decide (kv.1=k))=(ps.any λkv=>decide (kv.1=k)):=by rw[nw,r.any]
 unfold iJ kK;rw[e]
 split
 .clear e;rename_i h;clear h
  induction r with
  |nil=>exact .nil
  |@cons k' v' p' vs' ps' a r ih=>
   rw[UA,UA];by_cases z:k'=k
   .rw[if_pos z,if_pos z];exact .cons q ih
   .rw[if_neg z,if_neg z];exact .cons a ih
 .exact r.append (.cons q .nil)
def d6(o i v:PV)(S:aA)(Q:aA->Prop):Prop:=match o with
 | .ref a=>(match S a with
  |some (.lst xs)=>(match i with | .int k=>(match qi xs.length k with|some j=>Q (II S a (.lst (xs.set j v)))|none=>False)|_=>False)
  |some (.dct kvs)=>(match gy i with|some k=>kvs.length < sizeLine/\Q (II S a (.dct (kK kvs k v)))|none=>False)
  |_=>False)
 |_=>False
section
variable {X:Cx}{e o i:Expr}{te to ti:ba}{pos pos':Pos}
noncomputable def Ho(X:Cx):V->V->V->Hp->(Hp->Prop)->Prop:=λo i v H Q=>∃po pi pv S Q3,Rep X.K H o po/\Rep X.K H i pi/\Rep X.K H v pv/\IQ X.K H S/\d6 po pi pv S Q3/\∀S' H',Q3 S'->IQ X.K H' S'->Grow X.K H H'->Q H'
def DC(hu:X.A.units+1 < cLine):zZ X (Ho X):=by
 intro pins s σ H o i v ov iv u Q I ro ri rv ⟨po,pi,pv,S,Q3,r1,r2,r3,rS,q,k⟩;unfold d6 at q
 split at q
 .split at q
  .rename_i e
   split at q
   .split at q
    .rename_i ej;cases r1;cases r2;obtain⟨vs,hv,rl⟩:=rS _ _ e;rw[<-rl.length]at ej;exact xP pins s σ H _ _ _ ov iv u Q I ro ri rv ⟨_,_,_,_,rfl,rfl,hv,ej,k _ _ q (rS.put hv trivial ⟨_,aI,((rl.set r3 _).mono (.mut hv trivial))⟩) (.mut hv trivial)⟩
    .exact q.elim
   .exact q.elim
  .rename_i e
   split at q
   .rename_i ek;cases r1;have e1:=fR r2 ek;subst e1;obtain⟨kv,hv,rk⟩:=rS _ _ e;exact yt hu pins s σ H _ _ _ ov iv u Q I ro ri rv ⟨_,_,rfl,Oy.k hv (by rw[rk.length];exact q.1),k _ _ q.2 (rS.put hv trivial ⟨_,aI,(rk.put r3).mono (.mut hv trivial)⟩) (.mut hv trivial)⟩
   .exact q.elim
  .exact q.elim
 .exact q.elim
def fT(te to ti:ba):bv:=λD σ S=>te σ S (λv S1=>to σ S1 (λo S2=>ti σ S2 (λi S3=>d6 o i v S3 (λS4=>D.nx σ S4)) D.ex) D.ex) D.ex
def iO(hu:X.A.units+1 < cLine)(he:bw X e te)(ho:bw X o to)(hi:bw X i ti)
  (ha:∀v,assign (.Subscript o i pos') X.env v=(do
   let ov <-holding [v] (eval o X.env)
   let iv <-holding [v,ov] (eval i X.env)
   standAt pos'
   holding [v,ov,iv] (setItem ov iv v)
   release [v,ov,iv] []):=by intro _;rfl)
  (hs:swapsWithSole [.Subscript o i pos'] e pos.line X.env=pure false:=by rfl) (hw:swappedStores [.Subscript o i pos'] e X.env=pure none:=by rfl)
  (h1:(assignEach [.Subscript o i pos'] X.env).map (·.2)=[assign (.Subscript o i pos') X.env]:=by rfl):sr X (.Assign [.Subscript o i pos'] e pos) (fT te to ti):=
 ⟨dH (xB he.ok (CV ho.ok hi.ok (DC hu) ha) hs hw h1) λD σ H ⟨σ3,S,D3,rσ,rS,h,xo,n,r,bk,ct⟩=>⟨σ3,S,_,D3.ex,rσ,rS,h,xo,λv S1 v' H1 h1 rv IZ g1=>
  ⟨σ3,S1,_,D3.ex,rσ.mono g1,IZ,h1,xo.mono g1,λo S2 o' H2 h2 ro KW g2=>⟨σ3,S2,_,D3.ex,rσ.mono (g1.trans g2),KW,h2,xo.mono (g1.trans g2),λi S3 i' H3 h3 ri Nw g3=>
   ⟨o,i,v,S3,_,ro.mono g3,ri,rv.mono (g2.trans g3),Nw,h3,λS4 H4 h4 Rt g4=>n _ S4 _ H4 h4 (rσ.mono (g1.trans (g2.trans (g3.trans g4)))) Rt (g1.trans (g2.trans (g3.trans g4)))⟩⟩⟩⟩⟩
end
end L3
namespace L2
open PySem PySem.Spec PyProof.Rows
section
variable {X:Cx}{tg:Expr}
def Hq(K:Vo)(tl:TE):TI:=λσ H R=>tl σ H λx H1=>(∃a,x = .ref a/\(∃xs,SqL K H1 a xs)/\R (GC K a) H1)\/(∃a,x = .ref a/\(∃xs,SqT K H1 a xs)/\R (G1 K a) H1)\/∃z,x = .str z/\R (He z) H1
def DD{l:Expr}{tl:TE}(hl:PE X l tl):PI X tg l (Hq X.K tl):=by
 intro pins s σ H R I h;refine IK (hl pins s σ H _ I h) λv s1 ⟨x,H1,I1,r1,q1⟩=>?_;rcases q1 with⟨a,e,⟨xs,hq⟩,q⟩|⟨a,e,⟨xs,hq⟩,q⟩|⟨z,e,q⟩
 .subst e;cases r1;obtain⟨its,rv,p,hz⟩:=I1.list hq;refine Ve p.isList ?_;refine⟨s1.heap.objs.size,[s1.heap.objs.size],_,_,H1,rfl,I1.kept (t':=s1.toks) λb o e=>Up _ e,vV a _,⟨_,UC _ rfl,rfl,rfl⟩,λb hb=>?_,q⟩;have e:b=s1.heap.objs.size:=by simpa using hb
  subst e;exact I1.LB (Uo _) (I1.hok.fresh (Uo _))
 .subst e;cases r1;obtain⟨its,rv,p,hz⟩:=I1.tuple hq;refine U5 (show s1.heap.IsTuple a its.toArray from p) ?_;refine⟨s1.heap.objs.size,[s1.heap.objs.size],_,_,H1,rfl,I1.kept (t':=s1.toks) λb o e=>Up _ e,tU a _,⟨_,UC _ rfl,rfl,rfl⟩,λb hb=>?_,q⟩;have e:b=s1.heap.objs.size:=by simpa using hb
  subst e;exact I1.LB (Uo _) (I1.hok.fresh (Uo _))
 .subst e;obtain⟨t,rfl⟩:=r1;have fin:∀ty,(ty = "str_ascii_iterator" \/ ty = "str_iterator")->G0 X pins σ tg R (.ref s1.heap.objs.size) { s1 with heap:=s1.heap.push { cls:=.type ty,data:=.fields #[.str z t,.int 0 0] } }:=λty hty=>by
   refine⟨s1.heap.objs.size,[s1.heap.objs.size],_,_,H1,rfl,I1.kept (t':=s1.toks) λb o e=>Up _ e,x_ hty _ z t,⟨UT _,_,UC _ rfl,rfl,rfl⟩,λb hb=>?_,q⟩;have e:b=s1.heap.objs.size:=by simpa using hb
   subst e;exact I1.LB (Uo _) (I1.hok.fresh (Uo _))
  cases ha:z.cps.all (· < 128)
  .exact wpAny_pyIter_wide ha (fin _ (.inr rfl))
  .exact wpAny_pyIter_ascii ha (fin _ (.inl rfl))
def DE(K:Vo)(ta:TA):TI:=λσ H R=>ta σ H λvs H1=>∃a,vs=[.ref a]/\(((∃xs,SqL K H1 a xs)/\R (Hi K a) H1)\/((∃xs,SqT K H1 a xs)/\R (Hj K a) H1))
def yB{elts:List Expr}{k0:Nat}{Ke:Pos}{a:Expr}{ta:TA}{p pos:Pos}(hg:Gl X "enumerate")(hm:X.mg "enumerate" = none)(hv:bootBuiltins "enumerate" = some (.type "enumerate"))(ha:PA X [a] ta)
  (hs:starEach [a] X.env=[(false,eval a X.env)]:=by rfl):PI X (.Tuple elts k0 Ke) (.Call (.Name "enumerate" p) [a] [] pos) (DE X.K ta):=by
 intro pins s σ H R I h;refine Call_ (fQ I hg hm hv (Vc (IK (ha pos pins s σ H _ I h) λus s1 ⟨vs,H1,I1,r1,q1⟩=>?_) hs rfl));obtain⟨a,e,q⟩:=q1;subst e;obtain⟨u,rfl,ru⟩:=eA r1;cases ru;rcases q with⟨⟨xs,qa⟩,q⟩|⟨⟨xs,qa⟩,q⟩
 .obtain⟨ia,ra,pa,za⟩:=I1.list qa;refine call_enumerate_list pa.isList λg ge g1 gz kk=>?_;refine Xu (s:={ s1 with heap:=g }) ge ?_;refine⟨_,[s1.heap.objs.size+1,s1.heap.objs.size],_,_,H1,rfl,I1.kept (t':=s1.toks) kk,wn (Nat.succ_ne_self _),⟨⟨_,ge⟩,g1⟩,λc hc=>?_,q⟩;have hle:s1.heap.objs.size<=c:=by
   simp only[Uv,UK,Vp]at hc;rcases hc with rfl|rfl
   .exact Vz _ _
   .exact Uo _
  exact I1.LB hle (I1.hok.fresh hle)
 .obtain⟨ia,ra,pa,za⟩:=I1.tuple qa;have la:a < s1.heap.objs.size:=by obtain⟨o,e,_⟩:=pa;exact Ux e
  refine Et.iL (show s1.heap.IsTuple a ia.toArray from pa) λg ge g1 kk=>?_;refine Xu (s:={ s1 with heap:=g }) ge ?_;refine⟨_,[s1.heap.objs.size+1,s1.heap.objs.size],_,_,H1,rfl,I1.kept (t':=s1.toks) kk,ua (Nat.succ_ne_self _) (US (Nat.lt_succ_of_lt la)) (US la),⟨⟨_,ge⟩,g1⟩,λc hc=>?_,q⟩;have hle:s1.heap.objs.size<=c:=by
   simp only[Uv,UK,Vp]at hc;rcases hc with rfl|rfl
   .exact Vz _ _
   .exact Uo _
  exact I1.LB hle (I1.hok.fresh hle)
end
end L2
namespace L3
open PySem L2
structure Hr where
 items:List PV
 keep:aA->Prop
def iC(K:Vo)(H0:Hp)(J:It)(src:Hr):Prop:=∀(i:Nat)(S:aA)(H:Hp),Grow K H0 H->IQ K H S->src.keep S->
 (∀p,src.items[i]?=some p->J.go i H/\∀x H',J.QG i H x H'->Rep K H' x p/\IQ K H' S/\Grow K H H')/\(i=src.items.length->J.stop i H)
abbrev ul:=cU->aA->(Hr->aA->Prop)->bR->Prop
inductive LI(X:Cx)(t:ul)(σ:L2.St)(H:Hp)(R:It->Hp->Prop):Prop
 |mk (σ3 S R3 E3) (rσ:Jb X.K H σ σ3) (rS:IQ X.K H S) (h:t σ3 S R3 E3) (xo:Oq X H E3) (k:∀src S' J H',R3 src S'->iC X.K H' J src->IQ X.K H' S'->Grow X.K H H'->R J H'):LI X t σ H R
structure wx(X:Cx)(tg iter:Expr)(t:ul):Prop where
 ok:PI X tg iter (LI X t)
def iP{X:Cx}{tg iter:Expr}{t t':TI}(h:PI X tg iter t)(k:∀σ H R,t' σ H R->t σ H R):PI X tg iter t':=λpins s σ H R I q=>h pins s σ H R I (k σ H R q)
section
variable {X:Cx}{e tg:Expr}{es:List Expr}{te:ba}{ts:List ba}{p pos:Pos}
noncomputable def bW(S:aA):PV->Option Hr
 | .tup xs=>some ⟨xs,λ_=>True⟩
 | .cl xs=>some ⟨xs,λ_=>True⟩
 | .str z=>some ⟨z.cps.toList.map λc=>.str (lG c),λ_=>True⟩
 | .ref a=>(match S a with|some (.lst xs)=>some ⟨xs,λS'=>S' a=some (.lst xs)⟩|_=>none)
 |_=>none
def aL(te:ba):ul:=λσ S R E=>te σ S (λv S1=>match bW S1 v with|some src=>R src S1|none=>False) E
end
section
variable {X:Cx}{e tg a b:Expr}{es:List Expr}{te ta tb:ba}{ts:List ba}{p pos:Pos}
def yC{K:Vo}{H0:Hp}{a:Addr}{xs:List PV}:iC K H0 (GC K a) ⟨xs,λS'=>S' a=some (.lst xs)⟩:=by
 intro i S H g rS hk;obtain⟨vs,hv,rs⟩:=rS a _ hk;refine⟨λp hp=>?_,λhi=>⟨vs,SqL.of hv,by rw[rs.length,hi];exact Uo _⟩⟩;obtain⟨v,hx,rv⟩:=rs.get hp;refine⟨⟨vs,v,SqL.of hv,hx⟩,λx H' ⟨e,h⟩=>?_⟩;subst e;have:=h vs (SqL.of hv);rw[hx]at this;cases this;exact⟨rv,rS,.refl⟩
def AW{K:Vo}{H0:Hp}{a:Addr}{vs:List V}{xs:List PV}(h:SqT K H0 a vs)(rs:Reps K H0 vs xs):iC K H0 (G1 K a) ⟨xs,λ_=>True⟩:=by
 intro i S H g rS _;have hv:=g.t _ _ h;refine⟨λp hp=>?_,λhi=>⟨vs,hv,by rw[rs.length,hi];exact Uo _⟩⟩;obtain⟨v,hx,rv⟩:=rs.get hp;refine⟨⟨vs,v,hv,hx⟩,λx H' ⟨e,h⟩=>?_⟩;subst e;have:=h vs hv;rw[hx]at this;cases this;exact⟨rv.mono g,rS,.refl⟩
def DF{K:Vo}{H0:Hp}{a:Addr}{vs:List V}{xs:List PV}(h:P7 K H0 a vs)(rs:Reps K H0 vs xs):iC K H0 (GC K a) ⟨xs,λ_=>True⟩:=by
 intro i S H g rS _;have hv:=(g.c _ _ h).sq;refine⟨λp hp=>?_,λhi=>⟨vs,hv,by rw[rs.length,hi];exact Uo _⟩⟩;obtain⟨v,hx,rv⟩:=rs.get hp;refine⟨⟨vs,v,hv,hx⟩,λx H' ⟨e,h⟩=>?_⟩;subst e;have:=h vs hv;rw[hx]at this;cases this;exact⟨rv.mono g,rS,.refl⟩
def AX{K:Vo}{H0:Hp}{z:Str}:iC K H0 (He z) ⟨z.cps.toList.map λc=>.str (lG c),λ_=>True⟩:=by
 intro i S H g rS _;refine⟨λp hp=>?_,λhi=>by show z.cps.size<=i;rw[hi,Ul,V1];exact Uo _⟩;rw[Ut]at hp;cases hc:z.cps.toList[i]? with
 |none=>rw[hc]at hp;cases hp
 |some c=>
  rw[hc]at hp;cases hp;have hc':z.cps[i]?=some c:=by simpa using hc
  refine⟨?_,λx H' ⟨e,c',h1,h2⟩=>?_⟩
  .show i < z.cps.size;by_cases hi:i < z.cps.size
   .exact hi
   .rw[WK (by omega)]at hc';cases hc'
  .subst e;rw[hc']at h1;cases h1;subst h2;exact⟨.str _,rS,.refl⟩
def bF(he:bw X e te):wx X tg e (aL te):=⟨iP (DD he.ok) λσ H R ⟨σ3,S,R3,E3,rσ,rS,h,xo,k⟩=>⟨σ3,S,_,E3,rσ,rS,h,xo,λv S1 v' H1 h1 rv IZ g1=>by
 split at h1
 .rename_i src hs;unfold bW at hs
  split at hs
  .cases hs;cases rv with
   |tup hq rs=>exact .inr (.inl ⟨_,rfl,⟨_,hq⟩,k _ S1 _ H1 h1 (AW hq rs) IZ g1⟩)
  .cases hs;cases rv with
   |cl hq rs=>exact .inl ⟨_,rfl,⟨_,hq.sq⟩,k _ S1 _ H1 h1 (DF hq rs) IZ g1⟩
  .cases hs;cases rv;exact .inr (.inr ⟨_,rfl,k _ S1 _ H1 h1 AX IZ g1⟩)
  .cases rv
   split at hs
   .rename_i ea;cases hs;obtain⟨vs,hv,rs⟩:=IZ _ _ ea;exact .inl ⟨_,rfl,⟨_,SqL.of hv⟩,k _ S1 _ H1 h1 yC IZ g1⟩
   .cases hs
  .cases hs
 .exact h1.elim⟩⟩
noncomputable def bX(lo:Int)(n:Nat):List PV:=(List.range n).map λ(i:Nat)=>PV.int (lo+i)
def wy{K:Vo}{H0:Hp}{lo:Int}{n:Nat}:iC K H0 (GD lo n) ⟨bX lo n,λ_=>True⟩:=by
 intro i S H g rS _;refine⟨λp hp=>?_,λhi=>by show n<=i;rw[hi];simp[bX]⟩;unfold bX at hp;rw[Ut]at hp;by_cases hi:i < n
 .rw[Yh hi]at hp;cases hp;refine⟨hi,λx H' ⟨e,h⟩=>?_⟩;subst e h;exact⟨.int _,rS,.refl⟩
 .rw[V3 (by simpa using hi)]at hp;cases hp
def iQ(ta:ba):ul:=λσ S R E=>ta σ S (λv S1=>match v with | .int j=>-(2 ^ 62)<=j/\j < 2 ^ 62/\R ⟨bX 0 j.toNat,λ_=>True⟩ S1|_=>False) E
def dv(hs:starEach [a] X.env=[(false,eval a X.env)])(hg:Gl X "range")(hm:X.mg "range" = none)(ha:lK X [a] [ta]):wx X tg (.Call (.Name "range" p) [a] [] pos) (iQ ta):=
 ⟨iP (vW hg hm ha.ok hs) λσ H R ⟨σ3,S,R3,E3,rσ,rS,h,xo,k⟩=>⟨σ3,S,_,E3,rσ,rS,h,xo,λv S1 v' H1 h1 rv IZ g1=>by
  split at h1
  .cases rv;exact⟨_,rfl,h1.1,h1.2.1,k _ S1 _ H1 h1.2.2 wy IZ g1⟩
  .exact h1.elim⟩⟩
noncomputable def aU(xs:List PV):List PV:=xs.mapIdx λi x=>.tup [.int i,x]
def wA{K:Vo}{H0:Hp}{a:Addr}{xs:List PV}:iC K H0 (Hi K a) ⟨aU xs,λS'=>S' a=some (.lst xs)⟩:=by
 intro i S H g rS hk;obtain⟨vs,hv,rs⟩:=rS a _ hk;refine⟨λp hp=>?_,λhi=>⟨vs,SqL.of hv,by rw[rs.length,hi];simp[aU]⟩⟩;unfold aU at hp;rw[WX]at hp;cases hx:xs[i]? with
 |none=>rw[hx]at hp;cases hp
 |some y=>
  rw[hx]at hp;cases hp;obtain⟨v,hx',rv⟩:=rs.get hx;refine⟨⟨vs,v,SqL.of hv,hx'⟩,λx H' ⟨q,x2,e1,hq,e2,h⟩=>?_⟩;subst e1 e2;have:=h vs (SqL.of hv);rw[hx']at this;cases this;exact⟨.tup (SqT.of aI) (.cons (.int _) (.cons (rv.mono (.new hq)) .nil)),rS.other hq,.new hq⟩
def wB{K:Vo}{H0:Hp}{a:Addr}{vs:List V}{xs:List PV}(h0:SqT K H0 a vs)(rs:Reps K H0 vs xs):iC K H0 (Hj K a) ⟨aU xs,λ_=>True⟩:=by
 intro i S H g rS _;have hv:=g.t _ _ h0;refine⟨λp hp=>?_,λhi=>⟨vs,hv,by rw[rs.length,hi];simp[aU]⟩⟩;unfold aU at hp;rw[WX]at hp;cases hx:xs[i]? with
 |none=>rw[hx]at hp;cases hp
 |some y=>
  rw[hx]at hp;cases hp;obtain⟨v,hx',rv⟩:=rs.get hx;refine⟨⟨vs,v,hv,hx'⟩,λx H' ⟨q,x2,e1,hq,e2,h⟩=>?_⟩;subst e1 e2;have:=h vs hv;rw[hx']at this;cases this;exact⟨.tup (SqT.of aI) (.cons (.int _) (.cons ((rv.mono g).mono (.new hq)) .nil)),rS.other hq,.new hq⟩
def eX(ta:ba):ul:=λσ S R E=>ta σ S (λv S1=>match v with
 | .tup xs=>R ⟨aU xs,λ_=>True⟩ S1
 | .ref a=>(match S1 a with|some (.lst xs)=>R ⟨aU xs,λS'=>S' a=some (.lst xs)⟩ S1|_=>False)
 |_=>False) E
def lN{elts:List Expr}{k0:Nat}{Ke:Pos}(hs:starEach [a] X.env=[(false,eval a X.env)])(hg:Gl X "enumerate")(hm:X.mg "enumerate" = none)(hv:bootBuiltins "enumerate" = some (.type "enumerate"))(ha:lK X [a] [ta]):wx X (.Tuple elts k0 Ke) (.Call (.Name "enumerate" p) [a] [] pos) (eX ta):=
 ⟨iP (yB hg hm hv ha.ok hs) λσ H R ⟨σ3,S,R3,E3,rσ,rS,h,xo,k⟩=>⟨σ3,S,_,E3,rσ,rS,h,xo,λv S1 v' H1 h1 rv IZ g1=>by
  split at h1
  .cases rv with
   |tup hq rs=>exact⟨_,rfl,.inr ⟨⟨_,hq⟩,k _ S1 _ H1 h1 (wB hq rs) IZ g1⟩⟩
  .cases rv
   split at h1
   .rename_i ea;obtain⟨vs,hv,rs⟩:=IZ _ _ ea;exact⟨_,rfl,.inl ⟨⟨_,SqL.of hv⟩,k _ S1 _ H1 h1 wA IZ g1⟩⟩
   .exact h1.elim
  .exact h1.elim⟩⟩
noncomputable def bY(xs ys:List PV):List PV:=(xs.zip ys).map λz=>.tup [z.1,z.2]
def Oh(K:Vo)(H0:Hp)(ka:Bool)(a:Addr)(xs:List PV)(keep:aA->Prop):Prop:=∀S H,Grow K H0 H->IQ K H S->keep S->∃vs,nE ka K H a vs/\Reps K H vs xs
def Oh.tup{K:Vo}{H0:Hp}{a:Addr}{vs:List V}{xs:List PV}{keep:aA->Prop}(h:SqT K H0 a vs)(r:Reps K H0 vs xs):Oh K H0 false a xs keep:=λ_ _ g _ _=>⟨vs,g.t _ _ h,r.mono g⟩
theorem Oh.lst{K:Vo}{H0:Hp}{a:Addr}{xs:List PV}{keep:aA->Prop}(h:∀S,keep S->S a=some (.lst xs)):Oh K H0 true a xs keep:=λS _ _ rS k=>let ⟨vs,hv,r⟩:=rS _ _ (h S k);⟨vs,SqL.of hv,r⟩
def kL{K:Vo}{H0:Hp}{ka kb:Bool}{a b:Addr}{xs ys:List PV}{keep:aA->Prop}(h1:Oh K H0 ka a xs keep)(h2:Oh K H0 kb b ys keep):iC K H0 (Hg ka kb K a b) ⟨bY xs ys,keep⟩:=by
 intro i S H g rS kp;obtain⟨vs,hv,r1⟩:=h1 S H g rS kp;obtain⟨us,hu,r2⟩:=h2 S H g rS kp;have l1:=r1.length;have l2:=r2.length;refine⟨λp hp=>?_,λhi=>⟨vs,us,hv,hu,?_⟩⟩
 .unfold bY at hp;rw[Ut]at hp;cases hz:(xs.zip ys)[i]? with
  |none=>rw[hz]at hp;cases hp
  |some z=>
   rw[hz]at hp;cases hp;obtain⟨e1,e2⟩:=Vh.mp hz;obtain⟨v,hx',rv⟩:=r1.get e1;obtain⟨u,hy',ru⟩:=r2.get e2;refine⟨⟨vs,us,v,u,hv,hu,hx',hy'⟩,λx H' ⟨q,x2,y2,e3,hq,e4,h⟩=>?_⟩;subst e3 e4;obtain⟨k1,k2⟩:=h vs us hv hu;rw[hx']at k1;rw[hy']at k2;cases k1;cases k2;exact⟨.tup (SqT.of aI) (.cons (rv.mono (.new hq)) (.cons (ru.mono (.new hq)) .nil)),rS.other hq,.new hq⟩
 .have e:(bY xs ys).length=min xs.length ys.length:=by simp[bY]
  rw[e]at hi;by_cases hle:xs.length<=ys.length
  .exact .inl (by omega)
  .exact .inr (by omega)
def wC(ta tb:ba):ul:=λσ S R E=>ta σ S (λv S1=>tb σ S1 (λw S2=>match v,w with
 | .tup xs,.tup ys=>R ⟨bY xs ys,λ_=>True⟩ S2
 |_,_=>False) E) E
def B5{elts:List Expr}{k0:Nat}{Ke:Pos}(hs:starEach [a,b] X.env=[(false,eval a X.env),(false,eval b X.env)])(hs2:starEach [b] X.env=[(false,eval b X.env)])(hg:Gl X "zip")(hm:X.mg "zip" = none)(hv:bootBuiltins "zip" = some (.type "zip"))(ha:lK X [a,b] [ta,tb]) :
  wx X (.Tuple elts k0 Ke) (.Call (.Name "zip" p) [a,b] [] pos) (wC ta tb):=
 ⟨iP (yd hg hm hv ha.ok hs hs2) λσ H R ⟨σ3,S,R3,E3,rσ,rS,h,xo,k⟩=>⟨σ3,S,_,E3,rσ,rS,h,xo,λv S1 v' H1 h1 rv IZ g1=>⟨σ3,S1,_,E3,rσ.mono g1,IZ,h1,xo.mono g1,λw S2 w' H2 h2 rw' KW g2=>by
  split at h2
  .cases rv with
   |tup hq rs=>
    cases rw' with
    |tup hq2 PM=>exact⟨false,false,_,_,rfl,⟨_,g2.t _ _ hq⟩,⟨_,hq2⟩,k _ S2 _ H2 h2 (kL (.tup (g2.t _ _ hq) (rs.mono g2)) (.tup hq2 PM)) KW (g1.trans g2)⟩
  .exact h2.elim⟩⟩⟩
end
section
variable {X:Cx}{iter tg c:Expr}{body:List Stmt}{ti:ul}{g:Tg}{tb:bv}{tc:kH}{pos:Pos}
noncomputable def sx(g:Tg)(tb:bv)(D:mH)(keep:aA->Prop):List PV->cU->aA->Prop
 |[],σ,S=>keep S/\D.nx σ S
 |x::r,σ,S=>keep S/\match g.put x σ with|some σ'=>tb { D with nx:=sx g tb D keep r,ct:=sx g tb D keep r,bk:=D.nx } σ' S|none=>False
def bS(ti:ul)(g:Tg)(tb:bv):bv:=λD σ S=>ti σ S (λsrc S1=>sx g tb D src.keep src.items σ S1) D.ex
def dy(hp:PassesOwn (model X.prog X.w) X.A X.env X.xe)(hc:X.calm=true)(hi:wx X tg iter ti)(hg:zR X tg g)(hb:lJ X body tb)(hs:∀x,foldedSetIterable iter X.env x=pure x:=by intro _;rfl):sr X (.For tg iter body [] pos) (bS ti g tb):=
 ⟨dH (C1 hp hc hi.ok hg.ok hb.ok hs) λD σ H ⟨σ3,S,D3,rσ,rS,h,xo,n,r,bk,ct⟩=>⟨σ3,S,_,D3.ex,rσ,rS,h,xo,λsrc S1 J H1 h1 sim IZ g1=>by
  refine⟨λi m σ' H'=>i+m=src.items.length/\∃σ4 S',Jb X.K H' σ' σ4/\IQ X.K H' S'/\Grow X.K H1 H'/\sx g tb D3 src.keep (src.items.drop i) σ4 S',⟨src.items.length,U0 _,σ3,S1,rσ.mono g1,IZ,.refl,by simpa using h1⟩,?_⟩;rintro i m σ' H' ⟨hm,σ4,S',OM,Lv,g',hw⟩;cases hd:src.items.drop i with
  |nil=>
   rw[hd]at hw;have hi:i=src.items.length:=by
    have:=Vf List.length hd;rw[VM,UN]at this;omega
   exact .inl ⟨(sim i S' H' g' Lv hw.1).2 hi,n _ S' _ H' hw.2 OM Lv (g1.trans g')⟩
  |cons x rest=>
   rw[hd]at hw;have hx:src.items[i]?=some x:=by
    have:=Vf (λl=>l[0]?) hd
    simpa using this
   have hrest:src.items.drop (i+1)=rest:=by
    have:=Vf List.tail hd
    simpa [List.tail_drop]using this
   have hlt:i < src.items.length:=by
    by_cases z:i < src.items.length
    .exact z
    .rw[V3 (by omega)]at hx;cases hx
   obtain⟨go,yl⟩:=(sim i S' H' g' Lv hw.1).1 x hx;refine .inr ⟨go,λσ5 H5=>∃σ6 S6,Jb X.K H5 σ5 σ6/\IQ X.K H5 S6/\Grow X.K H1 H5/\sx g tb D3 src.keep rest σ6 S6,?_,λv H5 hv=>?_⟩
   .rintro σ5 H5 ⟨σ6,S6,q1,q2,q3,q4⟩;exact⟨m - 1,by omega,by omega,σ6,S6,q1,q2,q3,by rw[hrest];exact q4⟩
   .obtain⟨rv,Ru,g5⟩:=yl v H5 hv;obtain⟨_,hw⟩:=hw
    split at hw
    .rename_i σ6 e6;refine Tg.M9 (own:=0) g rv (OM.mono g5) e6 λσ7 QK _=>?_;exact⟨σ6,S',_,QK,Ru,hw,xo.mono (g1.trans (g'.trans g5)),λσ8 S8 σ9 H9 q1 q2 q3 q4=>⟨σ8,S8,q2,q3,g'.trans (g5.trans q4),q1⟩,r.mono (g1.trans (g'.trans g5)),n.mono (g1.trans (g'.trans g5)),
      λσ8 S8 σ9 H9 q1 q2 q3 q4=>⟨σ8,S8,q2,q3,g'.trans (g5.trans q4),q1⟩⟩
    .exact hw.elim⟩⟩
def j3(tc:kH)(tb:bv):bv:=λD σ S=>∃W:Nat->cU->aA->Prop,(∃m,W m σ S)/\∀m σ S,W m σ S->
 tc σ S (λb S1=>if b=true then ∃N:cU->aA->Prop,(∀σ' S',N σ' S'->∃m',m' < m/\W m' σ' S')/\tb { D with nx:=N,ct:=N,bk:=D.nx } σ S1 else D.nx σ S1) D.ex
def kM(hp:PassesOwn (model X.prog X.w) X.A X.env X.xe)(hc:tM X c tc)(hb:lJ X body tb):sr X (.While c body [] pos) (j3 tc tb):=
 ⟨dH (xC hp hc.ok hb.ok) λD σ H ⟨σ3,S,D3,rσ,rS,⟨W,⟨m0,w0⟩,turn⟩,xo,n,r,bk,ct⟩=>by
  refine⟨λm σ' H'=>∃σ4 S',Jb X.K H' σ' σ4/\IQ X.K H' S'/\Grow X.K H H'/\W m σ4 S',⟨m0,σ3,S,rσ,rS,.refl,w0⟩,?_⟩;rintro m σ' H' ⟨σ4,S',OM,Lv,g',w'⟩;refine⟨σ4,S',_,D3.ex,OM,Lv,turn m σ4 S' w',xo.mono g',λb S1 H1 h1 IZ g1=>?_⟩;cases b with
  |true=>
   rw[if_pos rfl]at h1 ⊢;obtain⟨N,hN,h1⟩:=h1;refine⟨λσ5 H5=>∃σ6 S6,Jb X.K H5 σ5 σ6/\IQ X.K H5 S6/\Grow X.K H H5/\N σ6 S6,?_,?_⟩
   .rintro σ5 H5 ⟨σ6,S6,q1,q2,q3,q4⟩;obtain⟨m',hm,w6⟩:=hN σ6 S6 q4;exact⟨m',hm,σ6,S6,q1,q2,q3,w6⟩
   .exact⟨σ4,S1,_,OM.mono g1,IZ,h1,xo.mono (g'.trans g1),λσ8 S8 σ9 H9 q1 q2 q3 q4=>⟨σ8,S8,q2,q3,g'.trans (g1.trans q4),q1⟩,r.mono (g'.trans g1),n.mono (g'.trans g1),
     λσ8 S8 σ9 H9 q1 q2 q3 q4=>⟨σ8,S8,q2,q3,g'.trans (g1.trans q4),q1⟩⟩
  |false=>
   rw[if_neg (by decide)]at h1 ⊢;exact n _ S1 _ H1 h1 (OM.mono g1) IZ (g'.trans g1)⟩
end
noncomputable def fE:bR:=λ_ _ _=>False
def Oq.no{X:Cx}{H:Hp}:Oq X H fE:=λ_ _ _ _ _ _ _ _ _ _ _ _ _ _ h=>h.elim
section
variable {X:Cx}{elt iter tg c:Expr}{ifs:List Expr}{scope:Scope}{pos:Pos}{ti:ul}{g:Tg}{tc:kH}{te:ba}{fs N:Vs}{own:Nat}{fr:List Nat}
noncomputable def eB(g:Tg)(tc:kH)(te:ba)(σ':cU)(keep:aA->Prop)(fin:List PV->aA->Prop):List PV->List PV->aA->Prop
 |[],ys,S=>keep S/\ys.length<=sizeLine/\fin ys S
 |x::r,ys,S=>keep S/\ys.length<=sizeLine/\match g.put x σ' with
  |some σ2=>tc σ2 S (λb S3=>if b=true then te σ2 S3 (λy S4=>eB g tc te σ' keep fin r (ys++[y]) S4) fE else eB g tc te σ' keep fin r ys S3) fE
  |none=>False
def bZ:kH:=λ_ S Q _=>Q true S
structure EO(X:Cx)(ifs:List Expr)(t:kH):Prop where
 ok:PF X ifs (LT X t)
def um{t t':TT}(h:PF X ifs t)(k:∀σ H Q,t' σ H Q->t σ H Q):PF X ifs t':=λpins s σ H Q I q=>h pins s σ H Q I (k σ H Q q)
def bM:EO X [] bZ:=⟨um Do λσ H Q ⟨σ3,S,Q3,E3,rσ,rS,h,xo,k⟩=>k true S H h rS .refl⟩
def nM(h:tM X c tc):EO X [c] tc:=⟨Dp h.ok⟩
noncomputable def eY(own:Nat)(fr:List Nat)(σ:cU):cU:=List.replicate own none++fr.map λj=>lk σ j
def AY{K:Vo}{H:Hp}{σ:L2.St}{σ3:cU}(r:Jb K H σ σ3)(own:Nat)(fr:List Nat):Jb K H (gu own fr σ) (eY own fr σ3):=by
 refine⟨by unfold gu eY;simp,λi p e=>?_⟩;unfold eY at e;unfold gu;by_cases hi:i < own
 .rw[U9 (by simpa using hi),Wc,if_pos hi]at e;cases e
 .rw[Vg (by simpa using hi),U7,Ut]at e ⊢;cases hj:fr[i - own]? with
  |none=>rw[hj]at e;cases e
  |some j=>
   rw[hj]at e;simp only[Option.map_some,Xr]at e ⊢;obtain⟨v,hv,rv⟩:=r.at' j p (ym e);exact⟨v,by rw[hv];rfl,rv⟩
def aJ(ti:ul)(g:Tg)(tc:kH)(te:ba)(own:Nat)(fr:List Nat):ba:=λσ S Q E=>ti σ S (λsrc S1=>eB g tc te (eY own fr σ) src.keep (λys S2=>∀p,S2 p=none->Q (.ref p) (II S2 p (.lst ys))) src.items [] S1) E
def pL{σ:L2.St}{H:Hp}{Q:VK}(ON:g.under own=true)(B0:Bk):LE X (aJ ti g tc te own fr) σ H Q->xX (LI X ti) (g.g2 X.K) (λσ H Q=>∃σ3 S Q3,Jb X.K H σ σ3/\IQ X.K H S/\tc σ3 S Q3 fE/\∀b S' H',Q3 b S'->IQ X.K H' S'->Grow X.K H H'->Q b H')
  (λσ H Q=>∃σ3 S Q3,Jb X.K H σ σ3/\IQ X.K H S/\te σ3 S Q3 fE/\Os X.K H Q3 Q) own fr σ H Q:=λ⟨σ3,S,Q3,E3,rσ,rS,h,xo,k⟩=>by
 refine⟨σ3,S,_,E3,rσ,rS,h,xo,λsrc S1 J H1 h1 sim IZ g1=>?_⟩;refine⟨λi m ys H'=>i+m=src.items.length/\∃zs S',Reps X.K H' ys zs/\IQ X.K H' S'/\Grow X.K H1 H'/\eB g tc te (eY own fr σ3) src.keep (λys S2=>∀p,S2 p=none->Q3 (.ref p) (II S2 p (.lst ys))) (src.items.drop i) zs S',⟨src.items.length,U0 _,[],S1,.nil,IZ,.refl,by simpa using h1⟩,?_⟩;rintro i m ys H' ⟨hm,zs,S',rz,Lv,g',hw⟩;cases hd:src.items.drop i with
 |nil=>
  rw[hd]at hw;have hi:i=src.items.length:=by
   have:=Vf List.length hd;rw[VM,UN]at this;omega
  refine .inl ⟨(sim i S' H' g' Lv hw.1).2 hi,by rw[rz.length];exact hw.2.1,λD hD=>?_⟩;exact k _ _ _ _ (hw.2.2 D (Lv.free hD)) (.ref D) (Lv.new hD ⟨_,aI,rz.mono (.new hD)⟩) (g1.trans (g'.trans (.new hD)))
 |cons x rest=>
  rw[hd]at hw;have hx:src.items[i]?=some x:=by
   have:=Vf (λl=>l[0]?) hd
   simpa using this
  have hrest:src.items.drop (i+1)=rest:=by
   have:=Vf List.tail hd
   simpa [List.tail_drop]using this
  have hlt:i < src.items.length:=by
   by_cases z:i < src.items.length
   .exact z
   .rw[V3 (by omega)]at hx;cases hx
  obtain⟨go,yl⟩:=(sim i S' H' g' Lv hw.1).1 x hx;refine .inr ⟨go,by rw[rz.length];exact hw.2.1,λys' H5=>∃zs' S6,Reps X.K H5 ys' zs'/\IQ X.K H5 S6/\Grow X.K H1 H5/\eB g tc te (eY own fr σ3) src.keep (λys S2=>∀p,S2 p=none->Q3 (.ref p) (II S2 p (.lst ys))) rest zs' S6,?_,λv H5 hv=>?_⟩
  .rintro ys' H5 ⟨zs',S6,q1,q2,q3,q4⟩;exact⟨m - 1,by omega,by omega,zs',S6,q1,q2,q3,by rw[hrest];exact q4⟩
  .obtain⟨rv,Ru,g5⟩:=yl v H5 hv;obtain⟨_,_,hw⟩:=hw
   split at hw
   .rename_i σ6 e6;refine Tg.M9 (own:=own) g rv ((AY rσ own fr).mono (g1.trans (g'.trans g5))) e6 λσ7 QK d7=>⟨d7 ON,?_⟩
    refine⟨σ6,S',_,QK,Ru,hw,λb S8 H8 h8 Sg g8=>?_⟩;cases b with
    |true=>
     rw[if_pos rfl]at h8 ⊢;exact⟨σ6,S8,_,QK.mono g8,Sg,h8,λy S9 y' H9 h9 ry Tl g9=>⟨zs++[y],S9,(rz.mono (g5.trans (g8.trans g9))).append (.cons ry .nil),Tl,g'.trans (g5.trans (g8.trans g9)),h9⟩⟩
    |false=>
     rw[if_neg (by decide)]at h8 ⊢;exact⟨zs,S8,rz.mono (g5.trans g8),Sg,g'.trans (g5.trans g8),h8⟩
   .exact hw.elim
def DG(fs:Vs)(own:Nat)(fr:List Nat)(N:Vs)(ON:g.under own=true)(hc:X.calm=true)(hclos:closureFor scope X.env=pure (dG X.env fs))(hcell:∀y∈scope.names,y.2 ≠ .cell)(hkind:scope.kind = .function)
  (hnames:∀x∈scope.names,x.2 = .local->scope.names.lookup x.1=some .local) (hcl:du X.env fs) (hhas:qw (relabel scope X.env).names (dG X.env fs)=true)
  (hlen:N.length=own+fr.length) (hN:(N.drop own).map some=fr.map λj=>X.N[j]?) (hF:JW X.env scope (dG X.env fs) (N.drop own))
  (hi:wx X tg iter ti) (hg:∀B,zR (X.Lu N scope fs B) tg g) (hf:∀B,EO (X.Lu N scope fs B) ifs tc) (he:∀B,bw (X.Lu N scope fs B) elt te)
  (hs:∀x,foldedSetIterable iter X.env x=pure x:=by intro _;rfl):bw X (.ListComp elt [⟨tg,iter,ifs,0⟩] scope pos) (aJ ti g tc te own fr):=
 ⟨bb (Ax fs own fr N hc hclos hcell hkind hnames hcl hhas hlen hN hF hi.ok (λB=>(hg B).ok)
  (λB=>um (hf B).ok λσ H Q ⟨σ3,S,Q3,rσ,rS,h,k⟩=>⟨σ3,S,Q3,fE,rσ,rS,h,.no,k⟩) (λB=>bb (he B).ok λσ H Q ⟨σ3,S,Q3,rσ,rS,h,k⟩=>⟨σ3,S,Q3,fE,rσ,rS,h,.no,k⟩) hs) λ_ _ _=>pL ON ⟨0,X.s₀,X.H₀,[],[]⟩⟩
def DH(fs:Vs)(own:Nat)(fr:List Nat)(N:Vs){i:Nat}{y:Str}{py spos:Pos}(hX:X.N.Nodup)(hix:X.N[i]?=some y)(hy:X.env.scope.names.lookup y=some .local)
  (hsw:swapsWith (.ListComp elt [⟨tg,iter,ifs,0⟩] scope pos) (some (.Name y py)) spos.line X.env=pure true)
  (ON:g.under own=true) (hc:X.calm=true) (hclos:closureFor scope X.env=pure (dG X.env fs)) (hcell:∀y∈scope.names,y.2 ≠ .cell) (hkind:scope.kind = .function)
  (hnames:∀x∈scope.names,x.2 = .local->scope.names.lookup x.1=some .local) (hcl:du X.env fs) (hhas:qw (relabel scope X.env).names (dG X.env fs)=true)
  (hlen:N.length=own+fr.length) (hN:(N.drop own).map some=fr.map λj=>X.N[j]?) (hF:JW X.env scope (dG X.env fs) (N.drop own))
  (hi:wx X tg iter ti) (hg:∀B,zR (X.Lu N scope fs B) tg g) (hf:∀B,EO (X.Lu N scope fs B) ifs tc) (he:∀B,bw (X.Lu N scope fs B) elt te)
  (hs:∀x,foldedSetIterable iter X.env x=pure x:=by intro _;rfl):sr X (.Assign [.Name y py] (.ListComp elt [⟨tg,iter,ifs,0⟩] scope pos) spos) (ap i (aJ ti g tc te own fr)):=
 ⟨dH (Ay fs own fr N hX hix hy hsw hc hclos hcell hkind hnames hcl hhas hlen hN hF hi.ok (λB=>(hg B).ok)
  (λB=>um (hf B).ok λσ H Q ⟨σ3,S,Q3,rσ,rS,h,k⟩=>⟨σ3,S,Q3,fE,rσ,rS,h,.no,k⟩) (λB=>bb (he B).ok λσ H Q ⟨σ3,S,Q3,rσ,rS,h,k⟩=>⟨σ3,S,Q3,fE,rσ,rS,h,.no,k⟩) hs)
  λD σ H ⟨σ3,S,D3,rσ,rS,h,xo,n,r,bk,ct⟩=>pL ON ⟨0,X.s₀,X.H₀,[],[]⟩ ⟨σ3,S,_,D3.ex,rσ,rS,h,xo,λp S1 v H1 h1 rv IZ g1=>n _ S1 _ H1 h1 ((rσ.mono g1).set rv i) IZ g1⟩⟩
end
abbrev ay:=List PV->aA->bB->bR->Prop
noncomputable def FU(K:Vo)(n:Nat)(sp:ay):Sp:=λvs H Q _=>vs.length=n/\∃ps S Q3 E3,Reps K H vs ps/\IQ K H S/\sp ps S Q3 E3/\Os K H Q3 Q
structure OO(P:Program)(w:World)(K:Vo)(mg:Vr)(base:Heap)(k:Nat)(f:Addr)(fd:FuncData)(ps:Vs)(sp:ay):Prop where
 ok:oN P w K mg base zQ k f fd ps (FU K ps.length sp)
section
variable {X:Cx}{e o:Expr}{es:List Expr}{te to:ba}{ts:List ba}{x:Str}{p pos apos cpos:Pos}{k:Nat}{f:Addr}{fd:FuncData}{ps:Vs}{sp:ay}
def ad(sp:ay)(ts:List ba):ba:=λσ S Q E=>am ts σ S (λps S1=>sp ps S1 Q E) E
def yD(F:OO X.prog X.w X.K X.mg X.base k f fd ps sp)(hr:Room k X.A)(hg:Gl X x)(hm:X.mg x=some (.ref f))(hk:PySem.W.keepIn X.K (.ref f)=true)(hb:Binds X.K fd ps [])(he:starEach (e::es) X.env=(false,eval e X.env)::starEach es X.env)(ha:lK X (e::es) ts)
  (hl:ts.length=ps.length:=by rfl) (hdb:(x == ("__debug__":Str))=false:=by decide) (hpl:(backTo pos (starEach es X.env)).any (·.1)=false:=by rfl):bw X (.Call (.Name x p) (e::es) [] pos) (ad sp ts):=
 ⟨bb (u5 F.ok hr hg hm hk hb .nil BR ha.ok hdb he hpl) λσ H Q ⟨σ3,S,Q3,E3,rσ,rS,h,xo,k⟩=>c_ rσ rS h xo λps' S' vs H' hl' q rv Lv g=>by
  rw[Vd];exact⟨by rw[rv.length,hl',hl],ps',S',Q3,E3,rv,Lv,q,k.mono g⟩⟩
end
noncomputable def ax(n:Nat)(args:List PV):cU:=args.map some++List.replicate (n - args.length) none
def aT(n:Nat)(t:bv):ay:=λargs S Q _=>t { nx:=λ_ S'=>Q .non S',rt:=Q,ex:=fE } (ax n args) S
def pM{K:Vo}{H:Hp}{N:Vs}{vs:List V}{ps:List PV}(r:Reps K H vs ps):Jb K H (L2.start N vs) (ax N.length ps):=by
 refine⟨by unfold L2.start ax;simp[r.length],λi p e=>?_⟩;unfold ax at e;unfold L2.start;by_cases hi:i < ps.length
 .rw[U9 (by simpa using hi),Ut]at e;cases hp:ps[i]? with
  |none=>rw[hp]at e;cases e
  |some q=>
   rw[hp]at e;cases e;obtain⟨v,hv,rv⟩:=r.get hp;rw[U9 (by rw[Ul,r.length];exact hi),Ut,hv];exact⟨v,rfl,rv⟩
 .rw[Vg (by simpa using hi),Wc]at e
  split at e
  .cases e
  .cases e
section
variable {P:Program}{w:World}{K:Vo}{mg:Vr}{base:Heap}
noncomputable abbrev FV(P:Program)(w:World)(K:Vo)(mg:Vr)(base:Heap)(N:Vs)(qual:Str)(st:Stmt)(f:Addr)(cdv:Value)(A:Around)(outer:List Env)(s:Shared)(H:Hp)(E:XK):Cx:=(se zQ P w K mg base N qual (aK st) f cdv A outer s H E).Py
def HZ{x qual:Str}{st:Stmt}{f:Addr}{fd:FuncData}{N ps:Vs}{k:Nat}{t:bv}(F:Pj K x qual st f fd)(S:eE N ps (aK st))
  (hbody:∀(cdv:Value)(A:Around)(outer:List Env)(s:Shared)(H:Hp)(E:XK),Room k (A.deeper (PyProof.Rows.envOfC qual (aK st) s.heap.objs.size f cdv))->lJ (FV P w K mg base N qual st f cdv A outer s H E) (bq st) t) :
  OO P w K mg base (k+1) f fd ps (aT N.length t):=
 ⟨F.ok S (λvs H Q E h=>h.1) λcdv A outer s H vs Q E hr ⟨hl,ps',S',Q3,E3,rv,rS,q,kk⟩=>⟨_,(hbody cdv A outer s H E hr).ok,ax N.length ps',S',_,pM rv,rS,q,.no,λσ3 S2 σ2 H2 h2 _ KW g2=>kk _ S2 _ H2 h2 .non KW g2,kk,λ_ _ _ _ h2=>h2.elim,λ_ _ _ _ h2=>h2.elim⟩⟩
end
section
variable {X:Cx}{o e f:Expr}{to te tf:ba}{pos apos cpos:Pos}
noncomputable def j4:List (ba×ba)->cU->aA->(List (PV×PV)->aA->Prop)->bR->Prop
 |[],_,S,Q,_=>Q [] S
 |(tk,tv)::r,σ,S,Q,E=>tk σ S (λx S1=>tv σ S1 (λy S2=>j4 r σ S2 (λps S3=>Q ((x,y)::ps) S3) E) E) E
noncomputable def pN:List (PV×PV)->Option (List (bN×PV))
 |[]=>some []
 |(x,y)::r=>match gy x,pN r with|some k,some l=>some ((k,y)::l)|_,_=>none
noncomputable def nN(kvs more:List (bN×PV)):List (bN×PV):=more.foldl (λacc kv=>kK acc kv.1 kv.2) kvs
structure GL(X:Cx)(pos:Pos)(keys:List (Option Expr))(values:List Expr)(MC:List (ba×ba)):Prop where
 ok:FB X pos keys values (MC.map λt=>(LE X t.1,LE X t.2))
def yE:GL X pos [] [] []:=⟨As⟩
def gQ{k v:Expr}{ks:List (Option Expr)}{vs:List Expr}{tk tv:ba}{MC:List (ba×ba)}(hk:bw X k tk)(hv:bw X v tv)(hr:GL X pos ks vs MC):GL X pos (some k::ks) (v::vs) ((tk,tv)::MC):=⟨xU hk.ok hv.ok hr.ok⟩
inductive pO(K:Vo)(H:Hp):List (V×V)->List (PV×PV)->Prop
 |nil:pO K H [] []
 |cons {a b:V} {p q:PV} {vs:List (V×V)} {ps:List (PV×PV)}:Rep K H a p->Rep K H b q->pO K H vs ps->pO K H ((a,b)::vs) ((p,q)::ps)
theorem nO:∀{MC:List (ba×ba)}{σ:L2.St}{H:Hp}{Q:List (V×V)->Hp->Prop}{σ3:cU}{S:aA}{Q3:List (PV×PV)->aA->Prop}{E3:bR},Jb X.K H σ σ3->IQ X.K H S->j4 MC σ3 S Q3 E3->Oq X H E3->
  (∀ps S' vs H',ps.length=MC.length->Q3 ps S'->pO X.K H' vs ps->IQ X.K H' S'->Grow X.K H H'->Q vs H')->qr (MC.map λt=>(LE X t.1,LE X t.2)) σ H Q
 |[],σ,H,Q,σ3,S,Q3,E3,rσ,rS,h,xo,k=>k [] S [] H rfl h .nil rS .refl
 |(tk,tv)::ts,σ,H,Q,σ3,S,Q3,E3,rσ,rS,h,xo,k=>
  ⟨σ3,S,_,E3,rσ,rS,h,xo,λp S1 v H1 h1 rv IZ g1=>⟨σ3,S1,_,E3,rσ.mono g1,IZ,h1,xo.mono g1,λp2 S2 v2 H2 h2 Tm KW g2=>nO (rσ.mono (g1.trans g2)) KW h2 (xo.mono (g1.trans g2)) λps S3 vs H3 hl h3 Rq Nw g3=>
   k ((p,p2)::ps) S3 ((v,v2)::vs) H3 (by rw[UE,UE,hl]) h3 (.cons (rv.mono (g2.trans g3)) (Tm.mono g3) Rq) Nw (g1.trans (g2.trans g3))⟩⟩
theorem pP{K:Vo}{H:Hp}:∀{vs:List (V×V)}{ps:List (PV×PV)}{l:List (bN×PV)},pO K H vs ps->pN ps=some l->∃kvs:List (bN×V),vs=kvs.map (λkv=>(kV kv.1,kv.2))/\Jr K H kvs l
 |_,_,_,.nil,h=>by cases h;exact⟨[],rfl,.nil⟩
 |_,_,l,.cons a b r,h=>by
  unfold pN at h
  split at h
  .rename_i k l' ek el;cases h;obtain⟨kvs,e,q⟩:=pP r el;refine⟨(k,_)::kvs,?_,.cons b q⟩;rw[UA,<-e,fR a ek]
  .cases h
def Jr.merge{K:Vo}{H:Hp}{more:List (bN×V)}{m3:List (bN×PV)}(r:Jr K H more m3):∀{kvs:List (bN×V)}{k3:List (bN×PV)},Jr K H kvs k3->Jr K H (lE kvs more) (nN k3 m3):=by
 induction r with
 |nil=>intro kvs k3 q;exact q
 |cons a r ih=>intro kvs k3 q;exact ih (q.put a)
def nP(MC:List (ba×ba)):ba:=λσ S Q E=>∀p,S p=none->j4 MC σ (II S p (.dct [])) (λps S2=>S2 p=some (.dct [])/\match pN ps with|some kvs=>Q (.ref p) (II S2 p (.dct (nN [] kvs)))|none=>False) E
def yF{keys:List (Option Expr)}{values:List Expr}{MC:List (ba×ba)}(h:GL X pos keys values MC)(hall:keys.all (·.isSome)=true:=by rfl)(hl:keys.length=values.length:=by rfl)(h0:keys≠[]:=by exact List.cons_ne_nil _ _)(Re:keys.length<=15:=by decide)
  (ht:MC.length<=15:=by exact XH rfl):bw X (.Dict keys values pos) (nP MC):=
 ⟨bb (At h.ok hall hl h0 Re) λσ H Q ⟨σ3,S,Q3,E3,rσ,rS,hq,xo,k⟩=>λp hp=>by
  have g0:Grow X.K H (upd H p (.dK [])):=.new hp;refine nO (rσ.mono g0) (rS.new hp (o:=.dct []) ⟨[],aI,.nil⟩) (hq p (rS.free hp)) (xo.mono g0) λps S' vs H' hl' q rv Lv g=>?_;obtain⟨e,q⟩:=q;obtain⟨kv,hv,rk⟩:=Lv _ _ e;cases rk;refine⟨hv,?_⟩
  split at q
  .rename_i kvs ek;obtain⟨l,el,rl⟩:=pP rv ek;refine⟨l,el,?_,k _ _ _ _ q (.ref p) (Lv.put hv trivial ⟨_,aI,(Jr.merge rl .nil).mono (.mut hv trivial)⟩) (g0.trans (g.trans (.mut hv trivial)))⟩;have z1:∀{vs:List (V×V)} {ps:List (PV×PV)},pO X.K H' vs ps->vs.length=ps.length:=by
    intro vs ps r
    induction r with
    |nil=>rfl
    |cons _ _ _ ih=>rw[UE,UE,ih]
   have z2:=Vf List.length el;rw[Ul,z1 rv,hl']at z2;omega
  .exact q.elim⟩
def vh(kvs:List (bN×Int))(te tf:ba):ba:=λσ S Q E=>te σ S (λy S2=>tf σ S2 (λz S3=>match gy y with|some k=>Q (((kvs.find? λkv=>decide (kv.1=k)).map λkv=>PV.int kv.2).getD z) S3|none=>False) E) E
def DI{x:Str}{px:Pos}{a:Addr}{kvs:List (bN×Int)}(hu:X.A.units+1 < cLine)(hg:Gl X x)(hm:X.mg x=some (.ref a))(hD:KD X.prog X.w X.K a (kvs.map λkv=>(kv.1,V.int kv.2)))(he:bw X e te)(hf:bw X f tf)(m:M2 X (.Name x px) "get" apos e f cpos)
  (hd:(x == ("__debug__":Str))=false:=by decide):bw X (.Call (.Attribute (.Name x px) "get" apos) [e,f] [] cpos) (vh kvs te tf):=
 ⟨bb (AB hu hg hm hD he.ok hf.ok m hd) λσ H Q ⟨σ3,S,Q3,E3,rσ,rS,h,xo,k⟩=>⟨σ3,S,_,E3,rσ,rS,h,xo,λy S2 y' H2 h2 ry KW g2=>⟨σ3,S2,_,E3,rσ.mono g2,KW,h2,xo.mono g2,λz S3 z' H3 h3 rz Nw g3=>by
  split at h3
  .rename_i k' ek;have e1:=fR (ry.mono g3) ek;subst e1;refine⟨_,rfl,k _ S3 _ H3 h3 ?_ Nw (g2.trans g3)⟩;have:∀l:List (bN×Int),Rep X.K H3 ((jV (l.map λkv=>(kv.1,V.int kv.2)) k').getD z') (((l.find? λkv=>decide (kv.1=k')).map λkv=>PV.int kv.2).getD z):=by
    intro l
    induction l with
    |nil=>exact rz
    |cons q r ih=>
     rw[UA,List.find?_cons];by_cases e:q.1=k'
     .rw[KL e,UO e];exact .int _
     .rw[KM e,UG e];exact ih
   exact this kvs
  .exact h3.elim⟩⟩⟩
def sy(te:ba):ba:=λσ S Q E=>te σ S (λx S1=>match x with
 | .ref a=>(match S1 a with|some (.lst xs)=>∀p,S1 p=none->Q (.ref p) (II S1 p (.lst xs.reverse))|_=>False)
 |_=>False) E
def DJ{p1 p2 q1 q2:Pos}(hs:starEach [e] X.env=[(false,eval e X.env)])(hc:X.calm=true)(he:bw X e te)(Ro:Gl X "list")(hm1:X.mg "list" = none)(Qh:Gl X "reversed")(hm2:X.mg "reversed" = none):bw X (.Call (.Name "list" p1) [.Call (.Name "reversed" p2) [e] [] q2] [] q1) (sy te):=
 ⟨bb (t8 hc he.ok Ro hm1 Qh hm2 hs rfl) λσ H Q ⟨σ3,S,Q3,E3,rσ,rS,h,xo,k⟩=>⟨σ3,S,_,E3,rσ,rS,h,xo,λx S1 v H1 h1 rx IZ g1=>by
  split at h1
  .cases rx
   split at h1
   .rename_i ea;obtain⟨vs,hv,rs⟩:=IZ _ _ ea;exact⟨_,_,rfl,SqL.of hv,λq hq=>k _ _ _ _ (h1 q (IZ.free hq)) (.ref q) (IZ.new hq ⟨_,aI,rs.reverse.mono (.new hq)⟩) (g1.trans (.new hq))⟩
   .exact h1.elim
  .exact h1.elim⟩⟩
end
def bd:R3:=cA λi j=>.int (i - j)
def iR:R3:=iz (λ_ j=>j≠0) λi j=>.int (i.fmod j)
def iD:R3:=iz pH λi j=>.int (i.fdiv j)
def uo:R3:=iz C3 λi j=>.int (i ^ j.toNat)
def lO:R3:=cA λi j=>.bl (decide (i < j))
def EQ:R3:=cA λi j=>.bl (decide (i<=j))
def m6:R3:=cA λi j=>.bl (decide (j < i))
def FW:R3:=cA λi j=>.bl (decide (j<=i))
section
variable {X:Cx}
def cg:jK X (binaryOp .Sub) bd:=Dy
def iE:jK X (binaryOp .Mod) iR:=Dz
def j5:jK X (binaryOp .FloorDiv) iD:=AG
def B6:jK X (binaryOp .Pow) uo:=DA
def j6:jK X (compareOp .Lt) lO:=FG
def Hs:jK X (compareOp .LtE) EQ:=FH
def mR:jK X (compareOp .Gt) m6:=FJ
def Ht:jK X (compareOp .GtE) FW:=FK
end
def vi{A:Around}{k:Nat}(hr:Room k A):A.units+1 < cLine:=by have:=hr.un;omega
def fF{A:Around}{k:Nat}(hr:Room k A):A.units+150 < cLine:=by have:=hr.un;omega
def eC{A:Around}{k:Nat}(hr:Room k A):A.units+160 < cLine:=by have:=hr.un;omega
structure GM(K:Vo)(mg:Vr)(x:Str)(st:Stmt)(ps:Vs)(f:Addr)(fd:FuncData):Prop where
 F:Pj K x x st f fd
 b:Binds K fd ps []
 k:PySem.W.keepIn K (.ref f)=true
 m:mg x=some (.ref f)
def OO.zero{P:Program}{w:World}{K:Vo}{mg:Vr}{base:Heap}{k:Nat}{f:Addr}{fd:FuncData}{ps:Vs}{sp:ay}(h:sp=λ_ _ _ _=>False):OO P w K mg base k f fd ps sp:=by
 subst h;exact⟨⟨λvs H Q E q=>q.1,λA outer s H args us vs Q E _ _ _ _ ⟨_,_,_,_,_,_,_,q,_⟩=>q.elim⟩⟩
def Hu{K:Vo}{H:Hp}{a:Addr}{ns:Vu}{sp:ay}(hO:Au H)(hS:SqL K H a (ns.map V.int))(h:sp [.cl (ns.map PV.int)] (λ_=>none) (λv _=>v = .bl true) fE):FU K 1 sp [.ref a] H (λv _=>v = .bl true) λ_ _ _=>False:=by
 have hr:∀l:List Int,Reps K H (l.map V.int) (l.map PV.int):=by
  intro l
  induction l with
  |nil=>exact .nil
  |cons x r ih=>exact .cons (.int x) ih
 refine⟨rfl,[.cl (ns.map PV.int)],λ_=>none,_,fE,.cons (.cl (vs:=ns.map V.int) ?_ (hr ns)) .nil,(λb o e=>by simp at e),h,λp S' v H' q rv rS g=>?_⟩
 .rcases hS with(q|q)|q
  .rcases hO a with z|⟨o,xs,z⟩
   .rw[z]at q;cases q
   .rw[z]at q;cases q
  .exact .inl q
  .exact .inr q
 .subst q;cases rv
  rfl
end L3
namespace L2
open PySem PySem.Spec PyProof.Rows
end L2
namespace HT
open PySem PySem.Spec PyProof.Rows
end HT
namespace L2
open PySem PySem.Spec PyProof.Rows
end L2
namespace L3
open PySem L2
section
variable {X:Cx}{e st:Expr}{te ts:ba}{p2 pos:Pos}
noncomputable def j7:List PV->Option (List Int)
 |[]=>some []
 | .int i::r=>(j7 r).map (i::·)
 |_::_=>none
theorem pQ{K:Vo}{H:Hp}:∀{vs:List V}{ps:List PV}{ns:Vu},Reps K H vs ps->j7 ps=some ns->vs=ns.map V.int
 |_,_,_,.nil,h=>by cases h;rfl
 |_,_,ns,.cons (p:=p) a r,h=>by
  cases p with
  |int b=>
   cases a;unfold j7 at h;cases e:j7 _ with
   |none=>rw[e]at h;cases h
   |some l=>rw[e]at h;cases h;rw[pQ r e];rfl
  |_=>cases h
end
end L3
namespace L2
open PySem PySem.Spec PyProof.Rows
section
variable {X:Cx}
noncomputable def AZ:V->List V->Hp->VK->Prop:=λx vs H Q=>∃(l:Addr)(xs:List V)(j:Nat)(y:V),x = .ref l/\vs=[.int j,y]/\H l=some (.lst xs)/\j<=xs.length/\xs.length < sizeLine/\Q .non (upd H l (.lst (xs.take j++y::xs.drop j)))
def wD:Fx X "list.insert" AZ:=by
 intro pins s σ H x vs v us Q I rx rv h;obtain⟨l,xs,j,y,rfl,rfl,hH,hj,hz,q⟩:=h;cases rx;cases rv with
 |@cons _ u0 _ Tn r1 rr=>
  obtain⟨u,rfl,ru⟩:∃u,Tn=[u]/\RelV y u:=by
   cases rr with
   |@cons _ u _ us r2 r3=>cases r3;exact⟨u,rfl,r2⟩
  obtain⟨tk,rfl⟩:∃tk,u0 = .int (j:Int) tk:=r1;obtain⟨z,its,n,r,hl,e⟩:=I.M4 hH;have hfit:¬(!Builtin.List.listFitsIndex (j:Int))=true:=by
   have:j < 2 ^ 62:=WJ hj (UL hz (by decide));simp[Builtin.List.listFitsIndex];omega
  have hs1:its.toArray.size<=sizeLine:=by rw[Uw];omega
  generalize hx:(j:Int)=x at hfit;refine Wq F.slot_list_insert ⟨_,e,rfl⟩ F.entry_list_insert (F.args_list_insert_3 _ _ _) (PySem.AutoSeq1.list_insert_list_int_val_1 l its.toArray n x tk u hfit hs1) ⟨e,?_⟩;refine⟨.non,_,I.Ow (its':=its.take j++u::its.drop j) hH e ?_ ((r.take j).append (.cons ru (r.drop j))) ?_,rfl,q⟩
  .show((its.toArray.extract 0 (if x < 0 then (x+(its.toArray.size:Int)).toNat else min x.toNat its.toArray.size)).push u++its.toArray.extract (if x < 0 then (x+(its.toArray.size:Int)).toNat else min x.toNat its.toArray.size))=_;have hl2:its.length=xs.length:=r.length.symm;have ek:(if x < 0 then (x+(its.toArray.size:Int)).toNat else min x.toNat its.toArray.size)=j:=by
    rw[if_neg (by omega),<-hx,Vk,Uw];omega
   rw[ek];apply Array.toList_inj.mp;simp[List.extract_eq_take_drop];exact Xw (by rw[VM];exact Uo _)
  .rw[Um,UE,Vi,VM];omega
end
end L2
namespace L3
open PySem L2
section
variable {X:Cx}{a b c:Expr}{ta tb tc:ba}{pos:Pos}
def qC(r r':R3)(ta tb tc:ba):ba:=λσ S Q E=>ta σ S (λx S1=>tb σ S1 (λy S2=>r x y S2 λz S3=>match z with | .bl k=>if k=true then tc σ S3 (λw S4=>r' y w S4 Q) E else Q (.bl false) S3|_=>False) E) E
def uq{r r':R3}{σ:L2.St}{H:Hp}{Q:VK}:LE X (qC r r' ta tb tc) σ H Q->xH (LR X r) (LR X r') (LE X ta) (LE X tb) (LE X tc) σ H Q:=λ⟨σ3,S,Q3,E3,rσ,rS,h,xo,k⟩=>
 ⟨σ3,S,_,E3,rσ,rS,h,xo,λx S1 v H1 h1 rx IZ g1=>⟨σ3,S1,_,E3,rσ.mono g1,IZ,h1,xo.mono g1,λy S2 u H2 h2 ry KW g2=>⟨x,y,S2,_,rx.mono g2,ry,KW,h2,λz S3 w H3 h3 rz Nw g3=>by
  split at h3
  .rename_i k';cases rz;refine⟨k',rfl,?_⟩;cases k' with
   |false=>rw[if_neg (by decide)]at h3 ⊢;exact k _ S3 _ H3 h3 (.bl false) Nw (g1.trans (g2.trans g3))
   |true=>
    rw[if_pos rfl]at h3 ⊢;exact⟨σ3,S3,_,E3,rσ.mono (g1.trans (g2.trans g3)),Nw,h3,xo.mono (g1.trans (g2.trans g3)),λw' S4 v4 H4 h4 r4 Rt g4=>⟨y,w',S4,Q3,ry.mono (g3.trans g4),r4,Rt,h4,k.mono (g1.trans (g2.trans (g3.trans g4)))⟩⟩
  .exact h3.elim⟩⟩⟩
def A0{op op':CmpOp}{r r':R3}(ho:jK X (compareOp op) r)(ho':jK X (compareOp op') r')(ha:bw X a ta)(hb:bw X b tb)(hc:bw X c tc)(hm:lastMarks [op,op'] [b,c]=false:=by with_unfolding_all rfl):tM X (.Compare a [op,op'] [b,c] pos) (aG (qC r r' ta tb tc)):=
 ⟨qA (xI ho.ok ho'.ok ha.ok hb.ok hc.ok hm) λσ H Q ⟨σ3,S,Q3,E3,rσ,rS,h,xo,k⟩=>uq ⟨σ3,S,_,E3,rσ,rS,h,xo,λp S' v H' h1 rv Lv g=>by
  cases p with
  |bl z=>cases rv;exact⟨z,rfl,k z S' H' h1 Lv g⟩
  |_=>exact h1.elim⟩⟩
def m7:uk:=λx ps S Q=>match x,ps with
 | .ref a,[.int i,y]=>(match S a with|some (.lst xs)=>0<=i/\i<=xs.length/\xs.length < sizeLine/\Q .non (II S a (.lst (xs.take i.toNat++y::xs.drop i.toNat)))|_=>False)
 |_,_=>False
def yG:xi X "list.insert" m7:=⟨λpins s σ H x xs v us Q I rx rs ⟨px,ps,S,Q3,r1,rp,rS,q,k⟩=>by
 unfold m7 at q
 split at q
 .rename_i i y
  split at q
  .rename_i e;cases r1;cases rp with
   |cons b rr=>
    cases b;cases rr with
    |cons b2 rr=>
     cases rr;obtain⟨vs,hv,rl⟩:=rS _ _ e;obtain⟨j,rfl⟩:=VQ q.1;exact wD pins s σ H _ _ v us Q I rx rs ⟨_,_,j,_,rfl,rfl,hv,by rw[rl.length];have:=q.2.1;omega,by rw[rl.length];exact q.2.2.1,k _ _ _ _ q.2.2.2 .non (rS.put hv trivial ⟨_,aI,((rl.take j).append (.cons b2 (rl.drop j))).mono (.mut hv trivial)⟩) (.mut hv trivial)⟩
  .exact q.elim
 .exact q.elim⟩
end
end L3
namespace L2
open PySem PySem.Spec PyProof.Rows PySem.AutoSeq1
end L2
namespace L3
open PySem L2
end L3
namespace C
open PySem L2 L3
noncomputable def k_SIDES_FROM:List (bN×Int):=[(Sum.inr "then",1),(Sum.inr "either",1),(Sum.inr "take",3),(Sum.inr "often",1)]
def iS:bv:=(ai (ap 3 (aJ (aL (cW (v3 0) (tN (v3 1)) (tN (c3 (.int 63))))) (.n 0) bZ (ak iB [(v3 0),(af bd (c3 (.int 0)) (v3 0))]) 1 []))
  (ai (ap 4 (af aR (c3 (.int 7919)) (v3 1)))
  (ai (bS (aL (v3 3)) (.n 2) (ap 4 (af iR (af aR (af b_ (v3 4) (c3 (.int 48271))) (af iR (v3 2) (c3 (.int 2147483629)))) (c3 (.int 2147483647)))))
  (aw (nP [((c3 (.str "seed")),(v3 4)),((c3 (.str "number")),(c3 (.int 0))),((c3 (.str "left")),(sy (aJ (aL (v3 3)) (.n 0) (aG (af FW (v3 0) (af uo (c3 (.int 10)) (c3 (.int 18))))) (v3 0) 1 [])))])))))
def iT:bv:=(ai (j3 (eU (aG (af (aS false) (af aa (v3 0) (c3 (.str "number"))) (c3 (.int 0)))) (aG (af m6 (ak bx [(af aa (v3 0) (c3 (.str "left")))]) (c3 (.int 0))))) (fT (jp "list" sv (af aa (v3 0) (c3 (.str "left"))) []) (v3 0) (c3 (.str "number"))))
  (ai (ap 2 (af aa (v3 0) (c3 (.str "number"))))
  (ai (bm (aG (af m6 (v3 2) (c3 (.int 0)))) (ai (fT (af iD (v3 2) (v3 1)) (v3 0) (c3 (.str "number")))
  (aw (af iR (v3 2) (v3 1)))) aO)
  (ai (ap 3 (af iR (af aR (af b_ (af aa (v3 0) (c3 (.str "seed"))) (c3 (.int 48271))) (c3 (.int 7919))) (c3 (.int 2147483647))))
  (ai (fT (af iR (af aR (af b_ (v3 3) (c3 (.int 40692))) (c3 (.int 104729))) (c3 (.int 2147483399))) (v3 0) (c3 (.str "seed")))
  (ai (ap 4 (af iR (af b_ (af aa (v3 0) (c3 (.str "seed"))) (af aa (v3 0) (c3 (.str "seed")))) (c3 (.int 2147483563))))
  (aw (af iR (af aR (af b_ (af iR (af b_ (v3 3) (v3 3)) (c3 (.int 2147483629))) (c3 (.int 2147483563))) (v3 4)) (v3 1)))))))))
def j8:bv:=(ai (ww 2 3 (ak iB [(v3 0),(af bd (c3 (.int 0)) (v3 0))]) (v3 1))
  (ai (j3 (aG (af m6 (v3 3) (c3 (.int 0)))) (ww 2 3 (v3 3) (af iR (v3 2) (v3 3))))
  (aw (aD [(af iD (v3 0) (v3 2)),(af iD (v3 1) (v3 2))]))))
def gR(IH:ay):bv:=(ai (ap 2 (c3 (.str "abcdefghijklmnopqrstuvwxyz")))
  (ai (ap 3 (bf [(c3 (.str "jars")),(c3 (.str "deed")),(c3 (.str "rest")),(c3 (.str "pay")),(c3 (.str "put")),(c3 (.str "then")),(c3 (.str "either")),(c3 (.str "take")),(c3 (.str "often")),(c3 (.str "use"))]))
  (ai (ap 5 (jp "str" pK (c3 (.str "")) [(aJ (iQ (ad IH [(v3 0),(c3 (.int 6))])) (.n 0) bZ (af aa (v3 2) (ad IH [(v3 1),(c3 (.int 26))])) 1 [0,2])]))
  (ai (nL 6 7 8 (aD [(ad IH [(v3 0),(af aR (ak bx [(v3 5)]) (c3 (.int 1)))]),(ad IH [(v3 0),(c3 (.int 26))]),(af (aS false) (ad IH [(v3 0),(c3 (.int 2))]) (c3 (.int 0)))]))
  (ai (ap 9 (bf []))
  (ai (bS (iQ (v3 1)) (.n 4) (ai (ap 10 (af aR (af aR (cW (v3 5) vd (tN (v3 6))) (af aa (v3 2) (af iR (af aR (v3 7) (v3 4)) (c3 (.int 26))))) (cW (v3 5) (tN (v3 6)) vd)))
  (ai (bm (cI (aG (v3 8))) (ap 10 (jp "str" pK (c3 (.str "")) [(aJ (iQ (af aR (c3 (.int 1)) (ad IH [(v3 0),(c3 (.int 6))]))) (.n 0) bZ (af aa (v3 2) (ad IH [(v3 1),(c3 (.int 26))])) 1 [0,2])])) aO)
  (ai (j3 (iy (aG (af (jN false) (v3 10) (v3 3))) (aG (af (jN false) (v3 10) (v3 9)))) (ap 10 (af aR (af aa (v3 2) (af iR (af aR (jp "str" lM (v3 2) [(af aa (v3 10) (c3 (.int 0)))]) (c3 (.int 1))) (c3 (.int 26)))) (cW (v3 10) (tN (c3 (.int 1))) vd))))
  (bg (jp "list" cp (v3 9) [(v3 10)]))))))
  (aw (v3 9))))))))
def iU(IH Kg:ay):bv:=(ai (ap 1 (ad IH [(v3 0),(c3 (.int 4))]))
  (ai (bm (aG (af (aS false) (v3 1) (c3 (.int 0)))) (aw (aD [(c3 (.int 0)),(c3 (.int 1))])) aO)
  (ai (bm (aG (af lO (v3 1) (c3 (.int 3)))) (aw (aD [(af aR (c3 (.int 1)) (ad IH [(v3 0),(c3 (.int 5))])),(c3 (.int 1))])) aO)
  (aw (ad Kg [(ad IH [(v3 0),(c3 (.int 1000))]),(af aR (c3 (.int 1)) (ad IH [(v3 0),(c3 (.int 9))]))])))))
def dW(IH Nz:ay):bv:=(ai (ap 2 (ad IH [(v3 0),(c3 (.int 7))]))
  (ai (bm (aG (af (aS false) (v3 2) (c3 (.int 0)))) (aw (aD [(c3 (.str "rest"))])) aO)
  (ai (bm (iy (aG (af lO (v3 2) (c3 (.int 4)))) (aG (af (aS false) (ak bx [(v3 1)]) (c3 (.int 0))))) (aw (aD [(c3 (.str "pay")),(ad Nz [(v3 0)])])) aO)
  (ai (ap 3 (af aa (bf [(c3 (.int 1)),(c3 (.int 2)),(af aR (c3 (.int 1)) (ad IH [(v3 0),(c3 (.int 9))]))]) (ad IH [(v3 0),(c3 (.int 3))])))
  (aw (aD [(c3 (.str "put")),(af aa (v3 1) (ad IH [(v3 0),(ak bx [(v3 1)])])),(v3 3)]))))))
def iV(IH Je s0:ay):bv:=(ai (ap 4 (ad IH [(v3 0),(c3 (.int 12))]))
  (ai (bm (iy (aG (af (aS false) (v3 3) (c3 (.int 0)))) (iy (aG (af lO (af aa (v3 2) (c3 (.int 0))) (c3 (.int 2)))) (aG (af lO (v3 4) (c3 (.int 3)))))) (aw (ad Je [(v3 0),(v3 1)])) aO)
  (ai (bm (aG (af lO (v3 4) (c3 (.int 5)))) (ai (fT (af bd (af aa (v3 2) (c3 (.int 0))) (c3 (.int 1))) (v3 2) (c3 (.int 0)))
  (aw (aD [(c3 (.str "often")),(ad s0 [(v3 0),(v3 1),(v3 2),(af bd (v3 3) (c3 (.int 1)))])]))) aO)
  (ai (fT (af bd (af aa (v3 2) (c3 (.int 0))) (c3 (.int 2))) (v3 2) (c3 (.int 0)))
  (ai (ap 5 (ad s0 [(v3 0),(v3 1),(v3 2),(af bd (v3 3) (c3 (.int 1)))]))
  (ai (ap 6 (ad s0 [(v3 0),(v3 1),(v3 2),(af bd (v3 3) (c3 (.int 1)))]))
  (ai (bm (aG (af lO (v3 4) (c3 (.int 8)))) (aw (aD [(c3 (.str "then")),(v3 5),(v3 6)])) aO)
  (ai (bm (iy (aG (af (aS false) (v3 4) (c3 (.int 8)))) (aG (af (aS false) (ak bx [(v3 1)]) (c3 (.int 0))))) (aw (aD [(c3 (.str "either")),(v3 5),(v3 6)])) aO)
  (ai (ap 7 (af aa (bf [(c3 (.int 1)),(c3 (.int 1)),(c3 (.int 2)),(af aR (c3 (.int 1)) (ad IH [(v3 0),(c3 (.int 9))]))]) (ad IH [(v3 0),(c3 (.int 4))])))
  (aw (aD [(c3 (.str "take")),(af aa (v3 1) (ad IH [(v3 0),(ak bx [(v3 1)])])),(v3 7),(v3 5),(v3 6)])))))))))))
def dA(s0:ay):bv:=(ai (bm (aG (af (aS false) (af aa (v3 0) (c3 (.int 0))) (c3 (.str "then")))) (aw (af b_ (ad s0 [(af aa (v3 0) (c3 (.int 1)))]) (ad s0 [(af aa (v3 0) (c3 (.int 2)))]))) aO)
  (ai (bm (iy (aG (af (aS false) (af aa (v3 0) (c3 (.int 0))) (c3 (.str "either")))) (aG (af (aS false) (af aa (v3 0) (c3 (.int 0))) (c3 (.str "take"))))) (aw (af aR (ad s0 [(af aa (v3 0) (mQ d5 (c3 (.int 2))))]) (ad s0 [(af aa (v3 0) (mQ d5 (c3 (.int 1))))]))) aO)
  (aw (c3 (.int 1)))))
def cX(JH s0:ay):bv:=(ai (bm (aG (af (aS false) (af aa (v3 0) (c3 (.int 0))) (c3 (.str "often")))) (aw (af aR (ad JH [(af aa (v3 0) (c3 (.int 1)))]) (ad s0 [(af aa (v3 0) (c3 (.int 1)))]))) aO)
  (ai (bm (aG (af (jN false) (af aa (v3 0) (c3 (.int 0))) (aD [(c3 (.str "then")),(c3 (.str "either")),(c3 (.str "take"))]))) (aw (af aR (ad s0 [(af aa (v3 0) (mQ d5 (c3 (.int 2))))]) (ad s0 [(af aa (v3 0) (mQ d5 (c3 (.int 1))))]))) aO)
  (aw (c3 (.int 0)))))
def dI(Li JH LD Je:ay):bv:=(ai (ap 4 (ad Li [(v3 0),(v3 1),(bf [(af bd (v3 2) (c3 (.int 1)))]),(c3 (.int 5))]))
  (ai (bm (aG (af m6 (af aR (ad JH [(v3 4)]) (ad LD [(v3 4)])) (v3 3))) (ap 4 (aD [(c3 (.str "then")),(aD [(c3 (.str "often")),(ad Je [(v3 0),(v3 1)])]),(ad Je [(v3 0),(v3 1)])])) aO)
  (aw (v3 4))))
def gS(JI IH Mf:ay):bv:=(ai (ap 4 (ad JI [(v3 0),(c3 (.int 8))]))
  (ai (ap 5 (ak aW [(cW (v3 4) vd (tN (ad IH [(v3 0),(af aR (v3 1) (c3 (.int 1)))])))]))
  (ai (ap 6 (af aa (bf [(c3 (.int 0)),(c3 (.int 4))]) (ad IH [(v3 0),(c3 (.int 2))])))
  (ai (ap 7 (af aR (c3 (.int 1)) (ad IH [(v3 0),(v3 2)])))
  (ai (ap 8 (aJ (iQ (v3 7)) (.n 0) bZ (aD [(af aa (v3 6) (af aR (v3 2) (v3 0))),(ad Mf [(v3 1),(v3 3),(v3 5),(af iD (c3 (.int 24)) (v3 4))])]) 1 [0,6,5,7,3,4]))
  (aw (aD [(v3 5),(ak aW [(v3 8)])])))))))
def j9:bv:=(aw (cW (v3 0) (tN (vh C.k_SIDES_FROM (af aa (v3 0) (c3 (.int 0))) (ak bx [(v3 0)]))) vd))
def j_(LF s0:ay):bv:=(ai (ap 1 (bf [(v3 0)]))
  (ai (bS (aL (ad LF [(v3 0)])) (.n 2) (bg (jp "list" bT (v3 1) [(ad s0 [(v3 2)])])))
  (aw (v3 1))))
def nQ:bv:=(ai (j3 (aG (af (aS true) (v3 1) (c3 (.int 0)))) (ai (ap 2 (af iR (v3 0) (v3 1)))
  (ai (ap 0 (v3 1))
  (ap 1 (v3 2)))))
  (aw (ak wv [(v3 0)])))
def ke(Oz:ay):bv:=(ai (ap 2 (ad Oz [(v3 0),(v3 1)]))
  (ai (bm (aG (af lO (v3 1) (c3 (.int 0)))) (ap 2 (mQ d5 (v3 2))) aO)
  (aw (aD [(af iD (v3 0) (v3 2)),(af iD (v3 1) (v3 2))]))))
def ur(LG:ay):bv:=(aw (ad LG [(af aR (af b_ (af aa (v3 0) (c3 (.int 0))) (af aa (v3 1) (c3 (.int 1)))) (af b_ (af aa (v3 1) (c3 (.int 0))) (af aa (v3 0) (c3 (.int 1))))),(af b_ (af aa (v3 0) (c3 (.int 1))) (af aa (v3 1) (c3 (.int 1))))]))
def qD(LG:ay):bv:=(aw (ad LG [(af b_ (af aa (v3 0) (c3 (.int 0))) (af aa (v3 1) (c3 (.int 0)))),(af b_ (af aa (v3 0) (c3 (.int 1))) (af aa (v3 1) (c3 (.int 1))))]))
def nR:bv:=(aw (af aa (v3 0) (af aR (mQ d5 (c3 (.int 2))) (af aa (v3 1) (c3 (.int 0))))))
def iW:bv:=(aw (ak aW [(aJ (aL (v3 0)) (.n 0) bZ (ss (aG (af (aS false) (v3 0) (v3 1))) (v3 2) (c3 (.int 0))) 1 [1,2])]))
def qE:bv:=(aw (ak aW [(aJ (wC (v3 0) (v3 1)) (.tp (.cons (.n 0) (.cons (.n 1) .nil))) bZ (af aR (v3 0) (v3 1)) 2 [])]))
def gT:bv:=(aw (ak aW [(aJ (aL (v3 0)) (.n 0) bZ (af b_ (v3 0) (v3 1)) 1 [1])]))
def qF(KY OY:ay):bv:=(ai (ap 2 (aJ (wC (af aa (v3 0) (c3 (.int 1))) (af aa (v3 0) (c3 (.int 2)))) (.tp (.cons (.n 0) (.cons (.n 1) .nil))) bZ (af aR (v3 1) (ak iB [(c3 (.int 0)),(af b_ (mQ d5 (v3 0)) (af bd (v3 2) (c3 (.int 1))))])) 2 [1]))
  (aw (aD [(ad OY [(af aa (v3 0) (c3 (.int 0))),(aD [(v3 1),(c3 (.int 1))])]),(ad KY [(af aa (v3 0) (c3 (.int 1))),(v3 1)]),(ak aW [(v3 2)])])))
def d8(Kx:ay):bv:=(aw (aD [(aD [(c3 (.int 0)),(c3 (.int 1))]),(ad Kx [(v3 0),(af aa (v3 1) (c3 (.int 1))),(mQ d5 (af aa (v3 1) (c3 (.int 2))))]),(ad Kx [(v3 0),(af aa (v3 1) (c3 (.int 1))),(af aa (v3 1) (c3 (.int 2)))])]))
def iX(Kg:ay):bv:=(aw (ad Kg [(af aR (af b_ (af aa (v3 0) (c3 (.int 0))) (af aa (v3 1) (c3 (.int 1)))) (af b_ (af aa (v3 1) (c3 (.int 0))) (af aa (v3 0) (c3 (.int 1))))),(af b_ (af aa (v3 0) (c3 (.int 1))) (af aa (v3 1) (c3 (.int 1))))]))
def qG(NJ:ay):bv:=(aw (ak bx [(ad NJ [(v3 0)])]))
def lP:bv:=(aw (af (jN true) (af aa (v3 0) (c3 (.int 0))) (aD [(c3 (.str "rest")),(c3 (.str "then"))])))
def fU(s0:ay):bv:=(ai (bm (aG (af (aS false) (af aa (v3 0) (c3 (.int 0))) (c3 (.str "then")))) (aw (aD [(ad s0 [(af aa (v3 0) (c3 (.int 1)))]),(ad s0 [(af aa (v3 0) (c3 (.int 2)))])])) aO)
  (ai (bm (aG (af (aS false) (af aa (v3 0) (c3 (.int 0))) (c3 (.str "either")))) (aw (aD [(c3 (.int 0)),(ad s0 [(af aa (v3 0) (c3 (.int 1)))])])) aO)
  (ai (bm (aG (af (aS false) (af aa (v3 0) (c3 (.int 0))) (c3 (.str "take")))) (aw (aD [(c3 (.int 1)),(ad s0 [(af aa (v3 0) (c3 (.int 4)))])])) aO)
  (aw (aD [])))))
def fV(OZ LA s0:ay):bv:=(ai (bm (aG (af (aS false) (v3 1) (c3 (.int 0)))) (aw (v3 2)) aO)
  (ai (bm (aG (af (aS false) (af aa (v3 0) (c3 (.int 0))) (c3 (.str "often")))) (aw (aD [(aD [(c3 (.int 1)),(ad s0 [(af aa (v3 0) (c3 (.int 1))),(af bd (v3 1) (c3 (.int 1))),(v3 2)])])])) aO)
  (ai (ap 3 (af aa (v3 0) (mQ d5 (c3 (.int 2)))))
  (ai (ap 4 (af aa (v3 0) (mQ d5 (c3 (.int 1)))))
  (ai (ap 5 (af aR (c3 (.int 1)) (ad OZ [(v3 3)])))
  (ai (ap 6 (ss (aG (af lO (v3 1) (v3 5))) (c3 (.int 0)) (c3 (.int 1))))
  (ai (ap 7 (ss (aG (af (aS false) (v3 6) (c3 (.int 0)))) (ad s0 [(v3 3),(af bd (v3 1) (c3 (.int 1))),(v3 2)]) (ad s0 [(v3 4),(af bd (v3 1) (v3 5)),(v3 2)])))
  (ai (bm (aG (af (aS true) (af aa (v3 0) (c3 (.int 0))) (c3 (.str "then")))) (aw (aD [(v3 6),(v3 7)])) aO)
  (ai (bm (aG (af (aS false) (v3 6) (c3 (.int 0)))) (aw (aD [(v3 7),(ad LA [(v3 4)])])) aO)
  (aw (aD [(ad LA [(v3 3)]),(v3 7)])))))))))))
def gU(IH s0:ay):bv:=(ai (bm (aG (af (aS false) (af aa (v3 1) (c3 (.int 0))) (c3 (.str "then")))) (ai (ap 3 (ad s0 [(v3 0),(af aa (v3 1) (c3 (.int 1))),(v3 2)]))
  (aw (aD [(v3 3),(ad s0 [(v3 0),(af aa (v3 1) (c3 (.int 2))),(v3 2)])]))) aO)
  (ai (bm (iy (aG (af (aS false) (af aa (v3 1) (c3 (.int 0))) (c3 (.str "either")))) (aG (af (aS false) (af aa (v3 1) (c3 (.int 0))) (c3 (.str "take"))))) (ai (ap 4 (ad IH [(v3 0),(c3 (.int 2))]))
  (aw (aD [(v3 4),(ad s0 [(v3 0),(af aa (v3 1) (af bd (v3 4) (c3 (.int 2)))),(v3 2)])]))) aO)
  (ai (ap 5 (bf []))
  (ai (bS (iQ (af b_ (ad IH [(v3 0),(c3 (.int 3))]) (ak eW [(af (aS false) (af aa (v3 1) (c3 (.int 0))) (c3 (.str "often")))]))) (.n 6) (bm (aG (af m6 (af aa (v3 2) (c3 (.int 0))) (c3 (.int 0)))) (ai (fT (af bd (af aa (v3 2) (c3 (.int 0))) (c3 (.int 1))) (v3 2) (c3 (.int 0)))
  (bg (jp "list" cp (v3 5) [(aD [(af aR (c3 (.int 1)) (ad IH [(v3 0),(c3 (.int 3))])),(ad s0 [(v3 0),(af aa (v3 1) (c3 (.int 1))),(v3 2)])])]))) aO))
  (aw (ak aW [(v3 5)]))))))
end C
namespace Zu
open PySem Zt
open Sem (wp)
def nn{a b:Nat}(h:a≠b):@Ne Addr a b:=h
abbrev cG(h:Heap)(T:Nat)(a b c:Value):Prop:=h.get? T=some { cls:=.type "tuple",data:=.seq #[a,b,c] }
section
variable {kd kc:Bool}{prog:Program}{w:World}{A:Around}{E:Vq}{s:Shared}
def qH{T:Addr}{a b c x:Value}{k:Nat}{Q:Unit->Shared->Prop}(hT:cG s.heap T a b c)
  (h:∀h',h'.get? T=some { cls:=.type "tuple",data:=.seq ((#[a,b,c]:Vw).setIfInBounds k x) }->Heap.SameBut T s.heap h'->Q () { s with heap:=h' }) :
  wpAny (model prog w) A (updateSeq T (·.setIfInBounds k x)) Q E s:=by
 refine wpAny_updateSeq hT rfl (h _ ?_ (Yg ..));rw[WN _ hT rfl];simp[Obj.mapSeq]
variable {n l1 l2 l3:Nat}{i:Nat}{xs ys zs:Vw}{x y z a b c:Value}
def qx{Q:Vq}(d1:l1 < n)(d2:l2 < n)(d3:l3 < n)(gz:IsZip s.heap (n+5) (n+3) (n+4) .none)(gI:cG s.heap (n+3) (.ref n) (.ref (n+1)) (.ref (n+2)))(gO:cG s.heap (n+4) a b c)
  (g1:Si kd s.heap n l1 i) (g2:Si kc s.heap (n+1) l2 i) (g3:Si kc s.heap (n+2) l3 i) (t1:Sq kd s.heap l1 xs) (t2:Sq kc s.heap l2 ys) (t3:Sq kc s.heap l3 zs) (hx:xs[i]?=some x) (hy:ys[i]?=some y) (hz:zs[i]?=some z)
  (k:∀g,IsZip g (n+5) (n+3) (n+4) (rawInt s.heap.objs.size)->cG g (n+4) x y z->Si kd g n l1 (i+1)->Si kc g (n+1) l2 (i+1)->Si kc g (n+2) l3 (i+1)->cG g s.heap.objs.size x y z->
   (∀c o,c≠n+5->c≠n+4->c≠n->c≠n+1->c≠n+2->s.heap.get? c=some o->g.get? c=some o)->Q (.ref s.heap.objs.size) { s with heap:=g }) :
  wpAny (model prog w) A (Builtin.«zip.__next__» ⟨[.ref (n+5)],[]⟩) (λfin s'=>∃v,fin = .done (.ret v)/\Q v s') E s:=by
 show wpAny _ _ (field (.ref (n+5)) 2 >>= _) _ _ _;refine Uk (Vb gz rfl (x:=.bool false) rfl ?_);show wpAny _ _ (field (.ref (n+5)) 3 >>= _) _ _ _;refine Uk (Vb gz rfl (x:=.ref (n+3)) rfl (Uk (Vl gI rfl ?_)));show wpAny _ _ (Builtin.SmallTypes.ownedTupleIsFree (.ref (n+5)) >>= _) _ _ _;refine Uk ?_;unfold Builtin.SmallTypes.ownedTupleIsFree;refine Uk (Vb gz rfl (x:=.none) rfl (Uz ?_));simp only[U6];refine Uk (WW (Uk (Vb gz rfl (x:=.ref (n+4)) rfl (Uk (Vm gz (by simp) λh₁ z1 q1=>?_)))))
 replace z1:IsZip h₁ (n+5) (n+3) (n+4) .ellipsis:=z1
 refine Uk ?_;simp only[List.zipIdx_cons,List.zipIdx_nil,Xd,List.forIn_nil];refine Uk (Uk (WA ?_));show wpAny _ _ (Builtin.SmallTypes.nextOf (.ref n) >>= _) _ _ _;refine Uk (EM (g1.extBut q1.extBut (nn (by omega))) (t1.extBut q1.extBut (nn (by omega))) hx λh₂ n1 q2=>Uz ?_);have o2:cG h₂ (n+4) a b c:=q2.extBut _ _ (nn (by omega)) (q1.extBut _ _ (nn (by omega)) gO);refine Uk (Vl o2 rfl (Uk (qH o2 λh₃ o3 q3=>?_)))
 replace o3:cG h₃ (n+4) x b c:=o3
 refine Uk (Xi (Uz ?_));refine Uk (Uk (WA ?_));show wpAny _ _ (Builtin.SmallTypes.nextOf (.ref (n+1)) >>= _) _ _ _;refine Uk (EM (((g2.extBut q1.extBut (nn (by omega))).extBut q2.extBut (nn (by omega))).extBut q3.extBut (nn (by omega))) (((t2.extBut q1.extBut (nn (by omega))).extBut q2.extBut (nn (by omega))).extBut q3.extBut (nn (by omega))) hy λh₄ n2 q4=>Uz ?_);have o4:cG h₄ (n+4) x b c:=q4.extBut _ _ (nn (by omega)) o3;refine Uk (Vl o4 rfl (Uk (qH o4 λh₅ o5 q5=>?_)))
 replace o5:cG h₅ (n+4) x y c:=o5
 refine Uk (Xi (Uz ?_));refine Uk (Uk (WA ?_));show wpAny _ _ (Builtin.SmallTypes.nextOf (.ref (n+2)) >>= _) _ _ _;refine Uk (EM (((((g3.extBut q1.extBut (nn (by omega))).extBut q2.extBut (nn (by omega))).extBut q3.extBut (nn (by omega))).extBut q4.extBut (nn (by omega))).extBut q5.extBut (nn (by omega))) (((((t3.extBut q1.extBut (nn (by omega))).extBut q2.extBut (nn (by omega))).extBut q3.extBut (nn (by omega))).extBut q4.extBut (nn (by omega))).extBut q5.extBut (nn (by omega))) hz λh₆ n3 q6=>Uz ?_);have o6:cG h₆ (n+4) x y c:=q6.extBut _ _ (nn (by omega)) o5;refine Uk (Vl o6 rfl (Uk (qH o6 λh₇ o7 q7=>?_)))
 replace o7:cG h₇ (n+4) x y z:=o7
 refine Uk (Xi (Uz (Uz ?_)));refine Uk (Vl o7 rfl (Uk (wpAny_newTuple ?_)));have sz:h₇.objs.size=s.heap.objs.size:=by rw[q7.1,q6.1,q5.1,q4.1,q3.1,q2.1,q1.1]
 have kk:∀c o,c≠n+5->c≠n+4->c≠n->c≠n+1->c≠n+2->s.heap.get? c=some o->h₇.get? c=some o:=λc o c1 c2 c3 c4 c5 e=>q7.extBut _ _ c2 (q6.extBut _ _ c5 (q5.extBut _ _ c2 (q4.extBut _ _ c4 (q3.extBut _ _ c2 (q2.extBut _ _ c3 (q1.extBut _ _ c1 e))))));have z7:IsZip h₇ (n+5) (n+3) (n+4) .ellipsis:=q7.extBut _ _ (nn (by omega)) (q6.extBut _ _ (nn (by omega)) (q5.extBut _ _ (nn (by omega)) (q4.extBut _ _ (nn (by omega)) (q3.extBut _ _ (nn (by omega)) (q2.extBut _ _ (nn (by omega)) z1)))));have m1:Si kd h₇ n l1 (i+1):=((((n1.extBut q3.extBut (nn (by omega))).extBut q4.extBut (nn (by omega))).extBut q5.extBut (nn (by omega))).extBut q6.extBut (nn (by omega))).extBut q7.extBut (nn (by omega));have m2:Si kc h₇ (n+1) l2 (i+1):=((n2.extBut q5.extBut (nn (by omega))).extBut q6.extBut (nn (by omega))).extBut q7.extBut (nn (by omega));have m3:Si kc h₇ (n+2) l3 (i+1):=n3.extBut q7.extBut (nn (by omega));have zl:n+5 < h₇.objs.size:=Ux z7;show wpAny _ _ (Builtin.SmallTypes.ownedTupleHandOut (.ref (n+5)) (.ref h₇.objs.size) >>= _) _ _ _;refine Uk ?_;unfold Builtin.SmallTypes.ownedTupleHandOut;have z8:IsZip (h₇.push { cls:=.type "tuple",data:=.seq #[x,y,z] }) (n+5) (n+3) (n+4) .ellipsis:=Up _ z7;refine Uk (Vm z8 (by simp) λh₉ z9 q9=>?_)
 replace z9:IsZip h₉ (n+5) (n+3) (n+4) (rawInt h₇.objs.size):=z9
 refine Vm z9 (by simp) λg za qa=>?_
 replace za:IsZip g (n+5) (n+3) (n+4) (rawInt h₇.objs.size):=za
 have up:∀c o,c≠n+5->h₇.get? c=some o->g.get? c=some o:=λc o c1 e=>qa.extBut _ _ c1 (q9.extBut _ _ c1 (Up _ e));have T8:cG g h₇.objs.size x y z:=qa.extBut _ _ (Wj zl) (q9.extBut _ _ (Wj zl) (UC _ rfl));rw[sz]at za T8;refine Uz ⟨_,rfl,?_⟩;show Q (.ref h₇.objs.size) _;rw[sz];exact k g za (up _ _ (nn (by omega)) o7) (m1.at λo e=>up _ o (nn (by omega)) e) (m2.at λo e=>up _ o (nn (by omega)) e) (m3.at λo e=>up _ o (nn (by omega)) e) T8 λc o c1 c2 c3 c4 c5 e=>up c o c1 (kk c o c1 c2 c3 c4 c5 e)
def t_{Q:Fin->Shared->Prop}(hh:A.handled=none)(d1:l1 < n)(gz:IsZip s.heap (n+5) (n+3) (n+4) .none)(gI:cG s.heap (n+3) (.ref n) (.ref (n+1)) (.ref (n+2)))
  (g1:Si kd s.heap n l1 i) (t1:Sq kd s.heap l1 xs) (hx:xs[i]?=none)
  (k:∀(g:Heap) (e:Addr),(∀c o,c≠n+5->c≠n+4->c≠n->c≠n+1->c≠n+2->s.heap.get? c=some o->g.get? c=some o)->(∃o,g.get? e=some o/\o.cls = .type "StopIteration")->E (.ref e) { s with heap:=g }) :
  wpAny (model prog w) A (Builtin.«zip.__next__» ⟨[.ref (n+5)],[]⟩) Q E s:=by
 show wpAny _ _ (field (.ref (n+5)) 2 >>= _) _ _ _;refine Uk (Vb gz rfl (x:=.bool false) rfl ?_);show wpAny _ _ (field (.ref (n+5)) 3 >>= _) _ _ _;refine Uk (Vb gz rfl (x:=.ref (n+3)) rfl (Uk (Vl gI rfl ?_)));show wpAny _ _ (Builtin.SmallTypes.ownedTupleIsFree (.ref (n+5)) >>= _) _ _ _;refine Uk ?_;unfold Builtin.SmallTypes.ownedTupleIsFree;refine Uk (Vb gz rfl (x:=.none) rfl (Uz ?_));simp only[U6];refine Uk (WW (Uk (Vb gz rfl (x:=.ref (n+4)) rfl (Uk (Vm gz (by simp) λh₁ z1 q1=>?_)))))
 replace z1:IsZip h₁ (n+5) (n+3) (n+4) .ellipsis:=z1
 refine Uk ?_;simp only[List.zipIdx_cons,List.zipIdx_nil,Xd,List.forIn_nil];refine Uk (Uk (WA ?_));show wpAny _ _ (Builtin.SmallTypes.nextOf (.ref n) >>= _) _ _ _;refine Uk (Dt hh (g1.extBut q1.extBut (nn (by omega))) (t1.extBut q1.extBut (nn (by omega))) hx λh₂ e q2 ⟨oe,ge,ce⟩=>?_);have z2:IsZip h₂ (n+5) (n+3) (n+4) .ellipsis:=q2 _ _ (nn (by omega)) z1;have ez:e≠n+5:=λu=>by subst u;rw[z2]at ge;cases ge;simp at ce
 exact Vm z2 (by simp) λh₃ _ q3=>k h₃ e (λc o c1 _ c3 _ _ u=>q3.extBut _ _ c1 (q2 _ _ c3 (q1.extBut _ _ c1 u))) ⟨oe,q3.extBut _ _ ez ge,ce⟩
def lI{Q:Option Value->Shared->Prop}(d1:l1 < n)(d2:l2 < n)(d3:l3 < n)(gz:IsZip s.heap (n+5) (n+3) (n+4) .none)(gI:cG s.heap (n+3) (.ref n) (.ref (n+1)) (.ref (n+2)))(gO:cG s.heap (n+4) a b c)
  (g1:Si kd s.heap n l1 i) (g2:Si kc s.heap (n+1) l2 i) (g3:Si kc s.heap (n+2) l3 i) (t1:Sq kd s.heap l1 xs) (t2:Sq kc s.heap l2 ys) (t3:Sq kc s.heap l3 zs) (hx:xs[i]?=some x) (hy:ys[i]?=some y) (hz:zs[i]?=some z)
  (k:∀g,IsZip g (n+5) (n+3) (n+4) (rawInt s.heap.objs.size)->cG g (n+4) x y z->Si kd g n l1 (i+1)->Si kc g (n+1) l2 (i+1)->Si kc g (n+2) l3 (i+1)->cG g s.heap.objs.size x y z->
   (∀c o,c≠n+5->c≠n+4->c≠n->c≠n+1->c≠n+2->s.heap.get? c=some o->g.get? c=some o)->Q (some (.ref s.heap.objs.size)) { s with heap:=g }):wpAny (model prog w) A (pyNext (.ref (n+5))) Q E s:=by
 have ty:s.TypeIs (.ref (n+5)) "zip":=⟨_,gz,rfl⟩
 unfold pyNext;exact Uk (wpAny_attempt (Vy (name:=Str.ofString "__next__") ty We (V5 We ty XJ
  (qx d1 d2 d3 gz gI gO g1 g2 g3 t1 t2 t3 hx hy hz λg a1 a2 a3 a4 a5 a6 a7=>Uz (k g a1 a2 a3 a4 a5 a6 a7)) (Xs _))))
def nC{Q:Option Value->Shared->Prop}(hh:A.handled=none)(d1:l1 < n)(gz:IsZip s.heap (n+5) (n+3) (n+4) .none)(gI:cG s.heap (n+3) (.ref n) (.ref (n+1)) (.ref (n+2)))
  (g1:Si kd s.heap n l1 i) (t1:Sq kd s.heap l1 xs) (hx:xs[i]?=none)
  (k:∀g:Heap,(∀c o,c≠n+5->c≠n+4->c≠n->c≠n+1->c≠n+2->s.heap.get? c=some o->g.get? c=some o)->Q none { s with heap:=g }):wpAny (model prog w) A (pyNext (.ref (n+5))) Q E s:=by
 have ty:s.TypeIs (.ref (n+5)) "zip":=⟨_,gz,rfl⟩
 unfold pyNext;refine Uk (wpAny_attempt (Vy (name:=Str.ofString "__next__") ty We (V5 We ty XJ (t_ hh d1 gz gI g1 t1 hx λg e kk ⟨o,ho,hc⟩=>?_) (Xs _))));exact Uk (wpAny_isInstance (T:="StopIteration") (b:=true) ⟨o,ho,hc⟩ isSubtype_stop (Uz (k _ kk)))
end
def Is(a b c:Value):checkTypeCall "zip" ⟨[a,b,c],[]⟩=pure ():=by kernel_rfl
def Iu(a b c:Value):checkBuiltinCall "zip.__new__" ⟨[.type "zip",a,b,c],[]⟩=pure ():=by kernel_rfl
def Iw(a b c d:Value):argsOk "object.__init__" ⟨[a,b,c,d],[]⟩:=by
 unfold argsOk;rw[signature?_of (id:="object.__init__") (n:="__init__".toList.reverse) (o:="object".toList.reverse) (by kernel_rfl) F.owner_object];kernel_rfl
noncomputable abbrev K3(kd kc:Bool)(h:Heap)(l1 l2 l3:Addr):Heap:=((h.push (it kd l1)).push (it kc l2)).push (it kc l3)
noncomputable abbrev K4(kd kc:Bool)(h:Heap)(l1 l2 l3:Addr):Heap:=(K3 kd kc h l1 l2 l3).push { cls:=.type "tuple",data:=.seq #[.ref h.objs.size,.ref (h.push (it kd l1)).objs.size,.ref ((h.push (it kd l1)).push (it kc l2)).objs.size] }
noncomputable abbrev K5(kd kc:Bool)(h:Heap)(l1 l2 l3:Addr):Heap:=(K4 kd kc h l1 l2 l3).push { cls:=.type "tuple",data:=.seq #[.none,.none,.none] }
noncomputable abbrev K6(kd kc:Bool)(h:Heap)(l1 l2 l3:Addr):Heap:=(K5 kd kc h l1 l2 l3).push { cls:=.type "zip",data:=.fields #[.none,.bool false,.bool false,.ref (K3 kd kc h l1 l2 l3).objs.size,.ref (K4 kd kc h l1 l2 l3).objs.size] }
def gv(kd kc:Bool)(l1 l2 l3:Addr)(xs ys zs:Vw) :
  Meets (Builtin.«zip.__new__» ⟨[.type "zip",.ref l1,.ref l2,.ref l3],[]⟩) (λ_ R s=>Sq kd s.heap l1 xs/\Sq kc s.heap l2 ys/\Sq kc s.heap l3 zs/\R (.ok (.ret (.ref (K5 kd kc s.heap l1 l2 l3).objs.size))) { s with heap:=K6 kd kc s.heap l1 l2 l3 }):=
 .of_wp λprog w A R s h=>by
  obtain⟨hp,g,d,tk,os⟩:=s;obtain⟨e1,e2,e3,h⟩:=h;have hsub:=sub_zip;cases kd with
  |false=>
   cases kc with
   |false=>
    have L1:Heap.IsTuple (Shared.heap ⟨hp,g,d,tk,os⟩) l1 xs:=e1;have L2:Heap.IsTuple (Shared.heap ⟨hp.push { cls:=.type "tuple_iterator",data:=.fields #[.ref l1,.int 0 0] },g,d,tk,os⟩) l2 ys:=VY e2 _;have L3:Heap.IsTuple (Shared.heap ⟨(hp.push { cls:=.type "tuple_iterator",data:=.fields #[.ref l1,.int 0 0] }).push { cls:=.type "tuple_iterator",data:=.fields #[.ref l2,.int 0 0] },g,d,tk,os⟩) l3 zs:=VY (VY e3 _) _
    wp_walk using U5 L1,U5 L2,U5 L3
    exact⟨_,rfl,h⟩
   |true=>
    have L1:Heap.IsTuple (Shared.heap ⟨hp,g,d,tk,os⟩) l1 xs:=e1;have L2:Heap.IsList (Shared.heap ⟨hp.push { cls:=.type "tuple_iterator",data:=.fields #[.ref l1,.int 0 0] },g,d,tk,os⟩) l2 ys:=V8 e2 _;have L3:Heap.IsList (Shared.heap ⟨(hp.push { cls:=.type "tuple_iterator",data:=.fields #[.ref l1,.int 0 0] }).push { cls:=.type "list_iterator",data:=.fields #[.ref l2,.int 0 0] },g,d,tk,os⟩) l3 zs:=V8 (V8 e3 _) _
    wp_walk using U5 L1,Ve L2,Ve L3
    exact⟨_,rfl,h⟩
  |true=>
   cases kc with
   |false=>
    have L1:Heap.IsList (Shared.heap ⟨hp,g,d,tk,os⟩) l1 xs:=e1;have L2:Heap.IsTuple (Shared.heap ⟨hp.push { cls:=.type "list_iterator",data:=.fields #[.ref l1,.int 0 0] },g,d,tk,os⟩) l2 ys:=VY e2 _;have L3:Heap.IsTuple (Shared.heap ⟨(hp.push { cls:=.type "list_iterator",data:=.fields #[.ref l1,.int 0 0] }).push { cls:=.type "tuple_iterator",data:=.fields #[.ref l2,.int 0 0] },g,d,tk,os⟩) l3 zs:=VY (VY e3 _) _
    wp_walk using Ve L1,U5 L2,U5 L3
    exact⟨_,rfl,h⟩
   |true=>
    have L1:Heap.IsList (Shared.heap ⟨hp,g,d,tk,os⟩) l1 xs:=e1;have L2:Heap.IsList (Shared.heap ⟨hp.push { cls:=.type "list_iterator",data:=.fields #[.ref l1,.int 0 0] },g,d,tk,os⟩) l2 ys:=V8 e2 _;have L3:Heap.IsList (Shared.heap ⟨(hp.push { cls:=.type "list_iterator",data:=.fields #[.ref l1,.int 0 0] }).push { cls:=.type "list_iterator",data:=.fields #[.ref l2,.int 0 0] },g,d,tk,os⟩) l3 zs:=V8 (V8 e3 _) _
    wp_walk using Ve L1,Ve L2,Ve L3
    exact⟨_,rfl,h⟩
section
variable {kd kc:Bool}{prog:Program}{w:World}{A:Around}{E:Vq}{s:Shared}
def iL{l1 l2 l3:Addr}{xs ys zs:Vw}{Q:Vq}(e1:Sq kd s.heap l1 xs)(e2:Sq kc s.heap l2 ys)(e3:Sq kc s.heap l3 zs)
  (k:∀g,IsZip g (s.heap.objs.size+5) (s.heap.objs.size+3) (s.heap.objs.size+4) .none->cG g (s.heap.objs.size+3) (.ref s.heap.objs.size) (.ref (s.heap.objs.size+1)) (.ref (s.heap.objs.size+2))->
   cG g (s.heap.objs.size+4) .none .none .none->Si kd g s.heap.objs.size l1 0->Si kc g (s.heap.objs.size+1) l2 0->Si kc g (s.heap.objs.size+2) l3 0->
   (∀c o,s.heap.get? c=some o->g.get? c=some o)->Q (.ref (s.heap.objs.size+5)) { s with heap:=g }) :
  wpAny (model prog w) A (call (.type "zip") [.ref l1,.ref l2,.ref l3]) Q E s:=by
 refine callType_new F.called_zip (by decide) (Is _ _ _) (Iu _ _ _) (λobj=>Iw obj _ _ _) F.entry_zip_new (gv kd kc l1 l2 l3 xs ys zs) ⟨e1,e2,e3,?_⟩;have z1:(s.heap.push (it kd l1)).objs.size=s.heap.objs.size+1:=VH ..;have z2:((s.heap.push (it kd l1)).push (it kc l2)).objs.size=s.heap.objs.size+2:=by rw[VH,z1]
 have z3:(K3 kd kc s.heap l1 l2 l3).objs.size=s.heap.objs.size+3:=by rw[VH,z2]
 have z4:(K4 kd kc s.heap l1 l2 l3).objs.size=s.heap.objs.size+4:=by rw[VH,z3]
 have z5:(K5 kd kc s.heap l1 l2 l3).objs.size=s.heap.objs.size+5:=by rw[VH,z4]
 have p:∀{h:Heap} {b:Addr} {o o':Obj},h.get? b=some o->(h.push o').get? b=some o:=λe=>Up _ e;have g6:(K6 kd kc s.heap l1 l2 l3).get? (K5 kd kc s.heap l1 l2 l3).objs.size=some _:=UC _ rfl;have g5:(K6 kd kc s.heap l1 l2 l3).get? (K4 kd kc s.heap l1 l2 l3).objs.size=some _:=p (UC _ rfl);have g4:(K6 kd kc s.heap l1 l2 l3).get? (K3 kd kc s.heap l1 l2 l3).objs.size=some _:=p (p (UC _ rfl));have g3:(K6 kd kc s.heap l1 l2 l3).get? ((s.heap.push (it kd l1)).push (it kc l2)).objs.size=some _:=p (p (p (UC _ rfl)));have g2:(K6 kd kc s.heap l1 l2 l3).get? (s.heap.push (it kd l1)).objs.size=some _:=p (p (p (p (UC _ rfl))));have g1:(K6 kd kc s.heap l1 l2 l3).get? s.heap.objs.size=some _:=p (p (p (p (p (UC _ rfl)))));show _/\_;rw[z3,z4,z5]at g6;rw[z4]at g5;rw[z1,z2,z3]at g4;rw[z2]at g3;rw[z1]at g2;rw[z5];exact⟨⟨_,g6,rfl⟩,k _ g6 g4 g5 (.mk g1) (.mk g2) (.mk g3) λc o x=>p (p (p (p (p (p x)))))⟩
end
end Zu
namespace L2
open PySem PySem.Spec PyProof.Rows
noncomputable def GN(kd kc:Bool)(K:Vo)(a b c:Addr):It:=
  ⟨λi H=>∃xs ys zs x y z,nE kd K H a xs/\nE kc K H b ys/\nE kc K H c zs/\xs[i]?=some x/\ys[i]?=some y/\zs[i]?=some z,
   λi H v H'=>∃p x y z,v = .ref p/\H p=none/\H'=upd H p (.tup [x,y,z])/\∀xs ys zs,nE kd K H a xs->nE kc K H b ys->nE kc K H c zs->xs[i]?=some x/\ys[i]?=some y/\zs[i]?=some z,
   λi H=>∃xs,nE kd K H a xs/\xs.length<=i⟩
def yH{kd kc:Bool}{P:Program}{w:World}{K:Vo}{elts:List Expr}{k0:Nat}{Ke:Pos}{n a b c:Nat}(d1:a < n)(d2:b < n)(d3:c < n) :
  nl P w K (.Tuple elts k0 Ke) (GN kd kc K a b c) [n+5,n+3,n+4,n,n+1,n+2] (n+5) (λi h=>IsZip h (n+5) (n+3) (n+4) .none/\Zu.cG h (n+3) (.ref n) (.ref (n+1)) (.ref (n+2))/\(∃x y z,Zu.cG h (n+4) x y z)/\Zt.Si kd h n a i/\Zt.Si kc h (n+1) b i/\Zt.Si kc h (n+2) c i) where
 mem:=by simp
 obj:=λi h st c hc=>by
  obtain⟨gz,gI,⟨x,y,z,gO⟩,g1,g2,g3⟩:=st;obtain⟨o1,_,e1,f1⟩:=g1.ob;obtain⟨o2,_,e2,f2⟩:=g2.ob;obtain⟨o3,_,e3,f3⟩:=g3.ob;simp only[Uv,UK,Vp]at hc;rcases hc with rfl|rfl|rfl|rfl|rfl|rfl
  .exact⟨_,gz,λv q=>by cases q⟩
  .exact⟨_,gI,λv q=>by cases q⟩
  .exact⟨_,gO,λv q=>by cases q⟩
  .exact⟨_,e1,λv q=>by rw[f1]at q;cases q⟩
  .exact⟨_,e2,λv q=>by rw[f2]at q;cases q⟩
  .exact⟨_,e3,λv q=>by rw[f3]at q;cases q⟩
 keep:=λi h h' st k=>by
  obtain⟨gz,gI,⟨x,y,z,gO⟩,g1,g2,g3⟩:=st;exact⟨k _ (by simp) _ gz,k _ (by simp) _ gI,⟨x,y,z,k _ (by simp) _ gO⟩,g1.at λo e=>k _ (by simp) o e,g2.at λo e=>k _ (by simp) o e,g3.at λo e=>k _ (by simp) o e⟩
 item:=by
  walk_at "2";subst hP hw hK;obtain⟨gz,gI,⟨ta,tb,tc,gO⟩,g1,g2,g3⟩:=st;obtain⟨xs,ys,zs,x,y,z,M7,PL,Sh,hx,hy,hz⟩:=hg;obtain⟨ia,ra,pa⟩:=I.Me M7;obtain⟨ib,rb,pb⟩:=I.Me PL;obtain⟨ic,rc,pc⟩:=I.Me Sh;obtain⟨u,hu,ru⟩:=ra.get hx;obtain⟨v,hv,rv⟩:=rb.get hy;obtain⟨t,ht,rt⟩:=rc.get hz;refine Zu.lI (kd:=kd) (kc:=kc) d1 d2 d3 gz gI gO g1 g2 g3 pa pb pc (x:=u) (y:=v) (z:=t) (by simpa using hu) (by simpa using hv) (by simpa using ht) λg a1 a2 a3 a4 a5 a6 a7=>?_;refine⟨_,rfl,wpAny_letOwnedTupleGo_zip (s:={ s with heap:=g }) a1 λg' z' q'=>?_⟩;have kk:∀c o,c ∉ ([n+5,n+3,n+4,n,n+1,n+2]:List Addr)->s.heap.get? c=some o->g'.get? c=some o:=λc o hc e=>by
   simp only[Uv,UK,Vp,not_or]at hc;exact q'.extBut _ _ hc.1 (a7 c o hc.1 hc.2.2.1 hc.2.2.2.1 hc.2.2.2.2.1 hc.2.2.2.2.2 e)
  have I1:Inv X pins σ H { s with heap:=g' }:=I.Kw (t':=s.toks) kk hf;have f0:gM X pins H s.heap.objs.size:=I.LB (Uo _) (I.hok.fresh (Uo _));have eT:JG g' s.heap.objs.size [u,v,t].toArray:=⟨_,q'.extBut _ _ (Wj (Ux gz)) a6,rfl,rfl,_,rfl⟩
  have I2:=I1.M6 f0 eT (.cons ru (.cons rv (.cons rt .nil))) (by show 3<=sizeLine;decide);refine⟨.ref s.heap.objs.size,_,I2,rfl,⟨s.heap.objs.size,x,y,z,rfl,f0.1,rfl,λxs' ys' zs' h1 h2 h3=>by rw[I.Lf h1 M7,I.Lf h2 PL,I.Lf h3 Sh];exact⟨hx,hy,hz⟩⟩,
   ⟨z',q'.extBut _ _ (Zu.nn (by omega)) (a7 _ _ (Zu.nn (by omega)) (Zu.nn (by omega)) (Zu.nn (by omega)) (Zu.nn (by omega)) (Zu.nn (by omega)) gI),⟨_,_,_,q'.extBut _ _ (Zu.nn (by omega)) a2⟩,a3.extBut q'.extBut (Zu.nn (by omega)),a4.extBut q'.extBut (Zu.nn (by omega)),a5.extBut q'.extBut (Zu.nn (by omega))⟩,λc hc=>?_⟩
  have hlt:c < s.heap.objs.size:=by
   obtain⟨_,_,e1,_⟩:=g1.ob;obtain⟨_,_,e2,_⟩:=g2.ob;obtain⟨_,_,e3,_⟩:=g3.ob;simp only[Uv,UK,Vp]at hc;rcases hc with rfl|rfl|rfl|rfl|rfl|rfl
   .exact Ux gz
   .exact Ux gI
   .exact Ux gO
   .exact Ux e1
   .exact Ux e2
   .exact Ux e3
  rw[aM (US hlt)];exact(hf c hc).1
 done:=by
  walk_at "2";subst hP hw hK;obtain⟨gz,gI,⟨ta,tb,tc,gO⟩,g1,g2,g3⟩:=st;obtain⟨xs,M7,hl⟩:=hg;obtain⟨ia,ra,pa⟩:=I.Me M7;have la:=ra.length;refine Zu.nC (kd:=kd) (I.ok.hd hc) d1 gz gI g1 pa (by simp;omega) λg kk=>⟨rfl,I.Kw (t':=s.toks) (λc o hc e=>?_) hf⟩
  simp only[Uv,UK,Vp,not_or]at hc;exact kk c o hc.1 hc.2.2.1 hc.2.2.2.1 hc.2.2.2.2.1 hc.2.2.2.2.2 e
 self:=λ_ _ _ _ _ st h=>XM st.1 h
section
variable {X:Cx}
def Hv(kd kc:Bool)(K:Vo)(ta:TA):TI:=λσ H R=>ta σ H λvs H1=>∃a b c,vs=[.ref a,.ref b,.ref c]/\(∃xs,nE kd K H1 a xs)/\(∃ys,nE kc K H1 b ys)/\(∃zs,nE kc K H1 c zs)/\R (GN kd kc K a b c) H1
def yI{kd kc:Bool}{elts:List Expr}{k0:Nat}{Ke:Pos}{a b c:Expr}{ta:TA}{p pos:Pos}(hg:Gl X "zip")(hm:X.mg "zip" = none)(hv:bootBuiltins "zip" = some (.type "zip"))(ha:PA X [a,b,c] ta)
  (hs:starEach [a,b,c] X.env=[(false,eval a X.env),(false,eval b X.env),(false,eval c X.env)]) (hs2:starEach [b,c] X.env=[(false,eval b X.env),(false,eval c X.env)]):PI X (.Tuple elts k0 Ke) (.Call (.Name "zip" p) [a,b,c] [] pos) (Hv kd kc X.K ta):=by
 intro pins s σ H R I h;refine Call_ (fQ I hg hm hv (Vc (IK (ha pos pins s σ H _ I h) λus s1 ⟨vs,H1,I1,r1,q1⟩=>?_) (by rw[hs,hs2]) (by rw[hs2];rfl)));obtain⟨a,b,c,e,⟨xs,qa⟩,⟨ys,qb⟩,⟨zs,qc⟩,q⟩:=q1;subst e;obtain⟨u,us,rfl⟩:∃u us',us=u::us':=by cases r1;exact⟨_,_,rfl⟩
 cases r1 with
 |cons ru r1=>
 obtain⟨v,t,rfl,rv,rt⟩:=xJ r1;cases ru;cases rv;cases rt;obtain⟨ia,ra,pa⟩:=I1.Me qa;obtain⟨ib,rb,pb⟩:=I1.Me qb;obtain⟨ic,rc,pc⟩:=I1.Me qc;have la:a < s1.heap.objs.size:=pa.lt;have lb:b < s1.heap.objs.size:=pb.lt;have lc:c < s1.heap.objs.size:=pc.lt;refine Zu.iL (kd:=kd) (kc:=kc) pa pb pc λg gz gI gO g1 g2 g3 kk=>?_;refine XM (s:={ s1 with heap:=g }) gz ?_;refine⟨_,[s1.heap.objs.size+5,s1.heap.objs.size+3,s1.heap.objs.size+4,s1.heap.objs.size,s1.heap.objs.size+1,s1.heap.objs.size+2],_,_,H1,rfl,I1.kept (t':=s1.toks) kk,yH la lb lc,⟨gz,gI,⟨_,_,_,gO⟩,g1,g2,g3⟩,λc hc=>?_,q⟩;have hle:s1.heap.objs.size<=c:=by
  simp only[Uv,UK,Vp]at hc;rcases hc with rfl|rfl|rfl|rfl|rfl|rfl
  .exact Vz _ _
  .exact Vz _ _
  .exact Vz _ _
  .exact Uo _
  .exact Vz _ _
  .exact Vz _ _
 exact I1.LB hle (I1.hok.fresh hle)
end
end L2
namespace L3
open PySem L2
section
variable {X:Cx}{a b c:Expr}{ta tb tc:ba}{p pos:Pos}
noncomputable def FX(z:PV×PV×PV):PV:=.tup [z.1,z.2.1,z.2.2]
noncomputable def bE(xs ys zs:List PV):List PV:=(xs.zip (ys.zip zs)).map FX
def yJ{K:Vo}{H0:Hp}{a b c:Addr}{vs us ws:List V}{xs ys zs:List PV}(h1:SqT K H0 a vs)(h2:SqT K H0 b us)(h3:SqT K H0 c ws)(r1:Reps K H0 vs xs)(r2:Reps K H0 us ys)(r3:Reps K H0 ws zs)(To:xs.length<=ys.length)(Tp:xs.length<=zs.length):iC K H0 (GN false false K a b c) ⟨bE xs ys zs,λ_=>True⟩:=by
 intro i S H g rS _;have hv:=g.t _ _ h1;have hu:=g.t _ _ h2;have hw:=g.t _ _ h3;have l1:=r1.length;refine⟨λp hp=>?_,λhi=>⟨vs,hv,?_⟩⟩
 .unfold bE at hp;rw[Ut]at hp;cases hz:(xs.zip (ys.zip zs))[i]? with
  |none=>rw[hz]at hp;cases hp
  |some z=>
   rw[hz]at hp;cases hp;obtain⟨e1,Rv⟩:=Vh.mp hz;obtain⟨e2,e3⟩:=Vh.mp Rv;obtain⟨v,hx',rv⟩:=r1.get e1;obtain⟨u,hy',ru⟩:=r2.get e2;obtain⟨t,hz',rt⟩:=r3.get e3;refine⟨⟨vs,us,ws,v,u,t,hv,hu,hw,hx',hy',hz'⟩,λx H' ⟨q,x2,y2,z2,e3,hq,e4,h⟩=>?_⟩;subst e3 e4;obtain⟨k1,k2,k3⟩:=h vs us ws hv hu hw;rw[hx']at k1;rw[hy']at k2;rw[hz']at k3;cases k1;cases k2;cases k3;exact⟨.tup (SqT.of aI) (.cons ((rv.mono g).mono (.new hq)) (.cons ((ru.mono g).mono (.new hq)) (.cons ((rt.mono g).mono (.new hq)) .nil))),rS.other hq,.new hq⟩
 .have e:(bE xs ys zs).length=min xs.length (min ys.length zs.length):=by simp[bE]
  rw[e]at hi;omega
def sA(ta tb tc:ba):ul:=λσ S R E=>ta σ S (λv S1=>tb σ S1 (λw S2=>tc σ S2 (λx S3=>match v,w,x with
 | .tup xs,.tup ys,.tup zs=>xs.length<=ys.length/\xs.length<=zs.length/\R ⟨bE xs ys zs,λ_=>True⟩ S3
 |_,_,_=>False) E) E) E
def yK{elts:List Expr}{k0:Nat}{Ke:Pos}(hs:starEach [a,b,c] X.env=[(false,eval a X.env),(false,eval b X.env),(false,eval c X.env)])(hs2:starEach [b,c] X.env=[(false,eval b X.env),(false,eval c X.env)])(hg:Gl X "zip")(hm:X.mg "zip" = none)(hv:bootBuiltins "zip" = some (.type "zip"))(ha:lK X [a,b,c] [ta,tb,tc]) :
  wx X (.Tuple elts k0 Ke) (.Call (.Name "zip" p) [a,b,c] [] pos) (sA ta tb tc):=
 ⟨iP (yI (kd:=false) (kc:=false) hg hm hv ha.ok hs hs2) λσ H R ⟨σ3,S,R3,E3,rσ,rS,h,xo,k⟩=>⟨σ3,S,_,E3,rσ,rS,h,xo,λv S1 v' H1 h1 rv IZ g1=>⟨σ3,S1,_,E3,rσ.mono g1,IZ,h1,xo.mono g1,λw S2 w' H2 h2 rw' KW g2=>⟨σ3,S2,_,E3,(rσ.mono g1).mono g2,KW,h2,(xo.mono g1).mono g2,λx S3 x' H3 h3 Qi Nw g3=>by
  split at h3
  .cases rv with
   |tup hq rs=>
    cases rw' with
    |tup hq2 PM=>
     cases Qi with
     |tup Sj Tq=>exact⟨_,_,_,rfl,⟨_,g3.t _ _ (g2.t _ _ hq)⟩,⟨_,g3.t _ _ hq2⟩,⟨_,Sj⟩,k _ S3 _ H3 h3.2.2 (yJ (g3.t _ _ (g2.t _ _ hq)) (g3.t _ _ hq2) Sj ((rs.mono g2).mono g3) (PM.mono g3) Tq h3.1 h3.2.1) Nw ((g1.trans g2).trans g3)⟩
  .exact h3.elim⟩⟩⟩⟩
end
end L3
namespace L2
open PySem PySem.Spec PyProof.Rows
def lQ:fillsNumberSlot (.type "tuple") "mul" = pure false:=
 PySem.fillsNumberSlot_seq (id:="tuple.__mul__") (r:=some (.builtin "tuple.__rmul__")) W0.lookup (by decide +kernel) F.slot_tuple_rmul.lookup (by decide +kernel)
def qI:seqRepeat? (.type "tuple")=pure (some (.builtin "tuple.__mul__")):=by
 unfold seqRepeat?;rw[PySem.seqSlot_of (T:="tuple") (name:="__mul__") (id:="tuple.__mul__") W0.lookup (by decide +kernel),PySem.seqSlot_of (T:="tuple") (name:="__rmul__") (id:="tuple.__rmul__") F.slot_tuple_rmul.lookup (by decide +kernel)]
 rfl
def nS(a:Int)(t:Tok)(l:Addr)(its:Vw)(n:Nat)(dd:Option Addr)(sl:Array (Option Value)) :
  Meets (Builtin.«int.__rmul__» ⟨[.int a t,.ref l],[]⟩) (λ_ R s=>s.heap.get? l=some { cls:=.type "tuple",dict:=dd,data:=.seq its n,slots:=sl }/\R (.ok (.ret Value.notImplemented)) s):=
 .of_wp λprog w A R s h=>by obtain⟨hp,g,d,tk,os⟩:=s;obtain⟨hl,h⟩:=h;wp_walk;exact⟨_,rfl,h⟩
def FY(l:Addr)(x:Value)(n:Nat)(dd:Option Addr)(sl:Array (Option Value))(t:Tok) :
  Meets (Builtin.«tuple.__mul__» ⟨[.ref l,.int 1 t],[]⟩) (λ_ R s=>s.heap.get? l=some { cls:=.type "tuple",dict:=dd,data:=.seq #[x] n,slots:=sl }/\R (.ok (.ret (.ref l))) s):=
 .of_wp λprog w A R s h=>by
  obtain⟨hp,g,d,tk,os⟩:=s;obtain⟨hl,h⟩:=h;have t1:=AutoSeq1.idx_int
  wp_walk using Vj hl
  exact⟨_,rfl,h⟩
def FZ(l:Addr)(x:Value)(n:Nat)(dd:Option Addr)(sl:Array (Option Value))(t:Tok) :
  Meets (Builtin.«tuple.__mul__» ⟨[.ref l,.int 0 t],[]⟩) (λ_ R s=>s.heap.get? l=some { cls:=.type "tuple",dict:=dd,data:=.seq #[x] n,slots:=sl }/\R (.ok (.ret (.ref s.heap.objs.size))) { s with heap:=s.heap.push { cls:=.type "tuple",data:=.seq #[] } }):=
 .of_wp λprog w A R s h=>by
  obtain⟨hp,g,d,tk,os⟩:=s;obtain⟨hl,h⟩:=h;have t1:=AutoSeq1.idx_int
  wp_walk using Vj hl
  exact⟨_,rfl,h⟩
def vj(x:Value)(m:Nat):(List.replicate m (#[x]:Vw)).foldl (·++·) #[]=(List.replicate m x).toArray:=by
 have:=lD [x] m [];rw[UX]at this;refine this.trans ?_;rw[List.flatten_replicate_singleton]
def F0(l:Addr)(x:Value)(n:Nat)(dd:Option Addr)(sl:Array (Option Value))(k:Int)(t:Tok)(h2:2<=k)(hk:k<=2 ^ 20) :
  Meets (Builtin.«tuple.__mul__» ⟨[.ref l,.int k t],[]⟩) (λ_ R s=>s.heap.get? l=some { cls:=.type "tuple",dict:=dd,data:=.seq #[x] n,slots:=sl }/\R (.ok (.ret (.ref s.heap.objs.size))) { s with heap:=s.heap.push { cls:=.type "tuple",data:=.seq ((List.replicate k.toNat #[x]).foldl (·++·) #[]) } }):=
 .of_wp λprog w A R s h=>by
  obtain⟨hp,g,d,tk,os⟩:=s;obtain⟨hl,h⟩:=h;have t1:=AutoSeq1.idx_int;have c1:¬((decide (k < -(2 ^ 63)) || decide (k>=2 ^ 63))=true):=by rw[Bool.or_eq_true,Us,Us];omega
  have c2:¬(((#[x]:Vw).isEmpty || k == 1)=true):=by
   have:(k == 1)=false:=by rw[Yd];omega
   rw[this];simp
  have c3:¬((decide (k<=0) || (#[x]:Vw).isEmpty)=true):=by
   have:decide (k<=0)=false:=UG (by omega);rw[this];simp
  have c4:¬(((#[x]:Vw).size:Int) * k > (2 ^ 63 - 1) / 8):=by show ¬((1:Int) * k > _);omega
  have sl:(2:Int) ^ 20<=(sizeLine:Int):=by decide
  have c5:¬(Builtin.Tuple.tupleTooMany (((#[x]:Vw).size:Int) * k)=true):=by show ¬(decide ((1:Int) * k > (sizeLine:Int))=true);rw[Us];omega
  wp_walk using Vj hl
  rw[if_neg c1]
  wp_walk using Vj hl
  rw[if_neg c2]
  wp_walk using Vj hl
  rw[if_neg c3]
  wp_walk using Vj hl
  rw[if_neg c4]
  wp_walk using Vj hl
  rw[if_neg c5]
  wp_walk using Vj hl
  have c6:¬((List.replicate k.toNat (#[x]:Vw)).foldl (·++·) #[]).size > sizeLine:=by
   rw[vj,Uw,U7];have:=Int.toNat_of_nonneg (show 0<=k by omega);omega
  rw[if_neg c6]
  wp_walk using Vj hl
  exact⟨_,rfl,h⟩
section
variable {X:Cx}
def F1(H H':Hp):Prop:=∀c o,H c=some o->H' c=some o
def F3(K:Vo):R2:=λx y H Q=>∃l k x0,x = .ref l/\y = .int k/\SqT K H l [x0]/\0<=k/\k<=2 ^ 20/\∀r H',F1 H H'->SqT K H' r (List.replicate k.toNat x0)->Q (.ref r) H'
def A4:jD X (binaryOp .Mult) (F3 X.K):=by
 walk_at "4";obtain⟨l,k,x0,rfl,rfl,hH,h1,h2,q⟩:=h;cases rx;obtain⟨t,rfl⟩:=ry;obtain⟨its,r1,p1,_⟩:=I.tuple hH;obtain⟨w,rfl,Tr⟩:=r1.one;obtain⟨⟨cls,dd,data,sl⟩,ho,hc,n,hd⟩:=id p1;simp only at hc hd;subst hc hd;have new:∀(ys:List V) (us:Vv),Vals ys us->ys.length<=sizeLine->ys=List.replicate k.toNat x0->∃v H1,Inv X pins σ H1 { s with heap:=s.heap.push { cls:=.type "tuple",data:=.seq us.toArray } }/\RelV v (.ref s.heap.objs.size)/\Q v H1:=λys us r hz e=>
  ⟨.ref s.heap.objs.size,_,I.laid (t':=s.toks) (o:=.tup ys) (λb ob q=>Up _ q) (Uo _) ⟨hz,_,r,JG.new _ _⟩,rfl,
   q _ _ (λc o z=>by rw[aM (bu z (I.hok.fresh (Uo _)))];exact z) (by rw[<-e];exact SqT.of aI)⟩
 refine wpAny_binaryOp_repeat_ref (T:="tuple") (U:="int") (by decide) ⟨_,ho,rfl⟩ (λs'=>typeIs_int s' k t) lQ F.fills_int_mul Yc qI F.slot_int_index.lookup
  (Wq Yc (typeIs_int s k t) F.entry_int_rmul (F.args_int_rmul_2 _ _) (nS k t l _ n dd sl) ⟨ho,rfl,⟨_,ho,rfl⟩,?_⟩)
 by_cases k0:k=0
 .subst k0;exact Wq W0 ⟨_,ho,rfl⟩ F.entry_tuple_mul (F.args_tuple_mul_2 _ _) (FZ l w n dd sl t) ⟨ho,new [] [] .nil (UT _) rfl⟩
 by_cases k1:k=1
 .subst k1;exact Wq W0 ⟨_,ho,rfl⟩ F.entry_tuple_mul (F.args_tuple_mul_2 _ _) (FY l w n dd sl t) ⟨ho,⟨.ref l,H,I,rfl,q l H (λ_ _ e=>e) hH⟩⟩
 .refine Wq W0 ⟨_,ho,rfl⟩ F.entry_tuple_mul (F.args_tuple_mul_2 _ _) (F0 l w n dd sl k t (by omega) h2) ⟨ho,?_⟩;rw[vj];have hz:(2:Nat) ^ 20<=sizeLine:=by decide
  have e:∀m:Nat,Vals (List.replicate m x0) (List.replicate m w):=λm=>by
   induction m with
   |zero=>exact .nil
   |succ m ih=>rw[U1,U1];exact .cons Tr ih
  exact new _ _ (e k.toNat) (by rw[U7];omega) rfl
end
end L2
namespace L3
open PySem L2
section
variable {X:Cx}
def nU:R3:=λx y S Q=>match x,y with
 | .tup [v],.int k=>0<=k/\k<=2 ^ 20/\Q (.tup (List.replicate k.toNat v)) S
 |_,_=>False
def qJ:jK X (binaryOp .Mult) nU:=⟨λpins s σ H x y v u Q I rx ry ⟨px,py,S,Q3,r1,r2,rS,q,k⟩=>by
 unfold nU at q
 split at q
 .cases r2;cases r1 with
  |tup hq rs=>
   cases rs with
   |cons r0 rn=>
    cases rn;refine A4 pins s σ H _ _ v u Q I rx ry ⟨_,_,_,rfl,rfl,hq,q.1,q.2.1,λr H' hh hr=>k _ S _ H' q.2.2 (.tup hr ?_) (rS.grow hh) (.same hh)⟩;have e:∀m:Nat,Reps X.K H (List.replicate m _) (List.replicate m _):=λm=>by
     induction m with
     |zero=>exact .nil
     |succ m ih=>rw[U1,U1];exact .cons r0 ih
    exact(e _).mono (.same hh)
 .exact q.elim⟩
end
end L3
namespace C
open PySem L2 L3
def kf:bv:=(aw (aD [(aD [(c3 (.int 0)),(c3 (.int 1))]),(af nU (aD [(c3 (.int 0))]) (ak bx [(v3 0)])),(af nU (aD [(c3 (.int 0))]) (ak bx [(v3 0)]))]))
def nV(MD PN:ay):bv:=(ai (ap 2 (aJ (sA (af aa (v3 0) (c3 (.int 1))) (af aa (v3 0) (c3 (.int 2))) (af aa (v3 1) (c3 (.int 2)))) (.tp (.cons (.n 0) (.cons (.n 1) (.cons (.n 2) .nil)))) bZ (ak iB [(v3 1),(af bd (v3 2) (v3 0))]) 3 []))
  (aw (aD [(ad PN [(af aa (v3 0) (c3 (.int 0))),(af aa (v3 1) (c3 (.int 0)))]),(ad MD [(af aa (v3 0) (c3 (.int 1))),(af aa (v3 1) (c3 (.int 1)))]),(ak aW [(v3 2)])])))
def cC(Kh Ki M_ s0 s1:ay):bv:=(ai (ap 3 (ad Kh [(v3 0)]))
  (ai (bS (aL (v3 2)) (.n 4) (ap 3 (ad Ki [(v3 3),(ad M_ [(ad s1 [(v3 0),(af aa (v3 1) (c3 (.int 1))),(af aa (v3 4) (c3 (.int 1)))]),(af aa (v3 4) (c3 (.int 0)))])])))
  (aw (v3 3))))
def gV(Kh Kx Ki OC Mz s0 s1:ay):bv:=(ai (ap 3 (af aa (v3 1) (c3 (.int 0))))
  (ai (ap 4 (ad Kh [(v3 0)]))
  (ai (bm (aG (af (aS false) (v3 3) (c3 (.str "pay")))) (aw (aD [(af aa (v3 1) (c3 (.int 1))),(af aa (v3 4) (c3 (.int 1))),(af aa (v3 4) (c3 (.int 2)))])) aO)
  (ai (bm (aG (af (aS false) (v3 3) (c3 (.str "put")))) (aw (aD [(af aa (v3 4) (c3 (.int 0))),(ad Kx [(v3 0),(af aa (v3 1) (c3 (.int 1))),(af aa (v3 1) (c3 (.int 2)))]),(af aa (v3 4) (c3 (.int 2)))])) aO)
  (ai (bm (aG (af (aS false) (v3 3) (c3 (.str "then")))) (aw (ad Ki [(ad s1 [(v3 0),(af aa (v3 1) (c3 (.int 1))),(af aa (v3 2) (c3 (.int 0)))]),(ad s1 [(v3 0),(af aa (v3 1) (c3 (.int 2))),(af aa (v3 2) (c3 (.int 1)))])])) aO)
  (ai (bm (aG (af (aS false) (v3 3) (c3 (.str "often")))) (aw (ad s0 [(v3 0),(v3 1),(v3 2)])) aO)
  (ai (bm (aG (af (jN true) (v3 3) (aD [(c3 (.str "either")),(c3 (.str "take"))]))) (aw (v3 4)) aO)
  (ai (ap 5 (ad s1 [(v3 0),(ad OC [(v3 1),(v3 2)]),(af aa (v3 2) (c3 (.int 1)))]))
  (ai (bm (eU (aG (af (aS false) (v3 3) (c3 (.str "take")))) (aG (af (aS false) (af aa (v3 2) (c3 (.int 0))) (c3 (.int 0))))) (aw (ad Ki [(ad Mz [(v3 0),(v3 1)]),(v3 5)])) aO)
  (aw (v3 5)))))))))))
def qK(NK:ay):bv:=(aw (ad NK [(af aa (v3 0) (c3 (.int 0))),(af aa (af aa (af aa (v3 0) (c3 (.int 1))) (v3 1)) (c3 (.int 1))),(v3 2)]))
def dJ(Kh Ki Na M_ s0:ay):bv:=(ai (ap 2 (ad Kh [(af aa (v3 0) (c3 (.int 0)))]))
  (ai (bS (aL (v3 1)) (.n 3) (bm (aG (af (aS false) (af aa (v3 3) (c3 (.int 0))) (c3 (.str "do")))) (ap 2 (ad Ki [(v3 2),(ad Na [(v3 0),(af aa (v3 3) (c3 (.int 1))),(af aa (v3 3) (c3 (.int 2)))])])) (ap 2 (ad Ki [(v3 2),(ad M_ [(ad s0 [(v3 0),(af aa (v3 3) (c3 (.int 2)))]),(af aa (v3 3) (c3 (.int 1)))])]))))
  (aw (v3 2))))
def dB(MD KY s0:ay):bv:=(ai (ap 2 (af nU (aD [(c3 (.int 0))]) (ak bx [(af aa (v3 0) (c3 (.int 1)))])))
  (ai (bS (aL (v3 1)) (.n 3) (bm (aG (af (aS false) (af aa (v3 3) (c3 (.int 0))) (c3 (.str "do")))) (ai (ap 4 (ak aW [(aJ (iQ (ak bx [(v3 2)])) (.n 0) bZ (ss (aG (af (aS false) (v3 0) (af aa (v3 1) (c3 (.int 1))))) (c3 (.int 1)) (c3 (.int 0))) 1 [3])]))
  (ap 2 (ad MD [(v3 2),(v3 4)]))) (ap 2 (ad MD [(v3 2),(ad KY [(ad s0 [(v3 0),(af aa (v3 3) (c3 (.int 2)))]),(af aa (v3 3) (c3 (.int 1)))])]))))
  (aw (v3 2))))
def fW(Mg LZ:ay):bv:=(ai (ap 2 (ad Mg [(v3 0),(v3 1)]))
  (aw (aD [(af aa (v3 2) (c3 (.int 0))),(ad LZ [(v3 0),(v3 1)]),(af aa (v3 2) (c3 (.int 1))),(af aa (v3 2) (c3 (.int 2)))])))
end C
namespace Zv
open PySem
open Sem (wp)
end Zv
namespace L2
open PySem PySem.Spec PyProof.Rows
structure O8(K:Vo)(x:Str)(st:Stmt)(T:Addr)(f:Addr)(fd:FuncData):Prop where
 ex:∃(oc:Value)(od:Option Addr)(kV doc pm:Value)(an:Option Addr)(cdv ct:Value)(osl:Array (Option Value)),
  fd=PySem.W.fnOf x x (cy st) (bq st) (aK st) (.ref T) kV doc pm an cdv ct/\K.lookup f=some ⟨oc,od,.func fd,osl⟩/\PySem.W.codeIn K cdv x=true
 kp:PySem.W.keepIn K (.ref f)=true
section
variable {P:Program}{w:World}{K:Vo}{mg:Vr}{base:Heap}
def O8.ok{x:Str}{st:Stmt}{T f:Addr}{fd:FuncData}{N ps:Vs}{k:Nat}{sp:Sp}(F:O8 K x st T f fd)(S:eE N ps (aK st))(len:∀vs H Q E,sp vs H Q E->vs.length=ps.length)
  (hbody:∀(cdv:Value)(A:Around)(outer:List Env)(s:Shared)(H:Hp)(vs:List V)(Q:VK)(E:XK),Room k (A.deeper (envOfC x (aK st) s.heap.objs.size f cdv))->sp vs H Q E->
   ∃t,Nu (se zQ P w K mg base N x (aK st) f cdv A outer s H E).Py (bq st) t/\t { nx:=λ_ H'=>Q .non H',rt:=Q } (start N vs) H):oN P w K mg base zQ (k+1) f fd ps sp:=by
 obtain⟨oc,od,kV,doc,pm,an,cdv,ct,osl,rfl,lk,hcd⟩:=F.ex;refine BO lk hcd S len λA outer s H vs Q E hr OL=>?_;obtain⟨t,h,q⟩:=hbody cdv A outer s H vs Q E hr OL;exact⟨t,h.Py,q⟩
end
end L2
namespace L3
open PySem L2
section
variable {P:Program}{w:World}{K:Vo}{mg:Vr}{base:Heap}
def Hw{x:Str}{st:Stmt}{T f:Addr}{fd:FuncData}{N ps:Vs}{k:Nat}{t:bv}(F:O8 K x st T f fd)(S:eE N ps (aK st))
  (hbody:∀(cdv:Value)(A:Around)(outer:List Env)(s:Shared)(H:Hp)(E:XK),Room k (A.deeper (PyProof.Rows.envOfC x (aK st) s.heap.objs.size f cdv))->lJ (FV P w K mg base N x st f cdv A outer s H E) (bq st) t) :
  OO P w K mg base (k+1) f fd ps (aT N.length t):=
 ⟨F.ok S (λvs H Q E h=>h.1) λcdv A outer s H vs Q E hr ⟨hl,ps',S',Q3,E3,rv,rS,q,kk⟩=>⟨_,(hbody cdv A outer s H E hr).ok,ax N.length ps',S',_,pM rv,rS,q,.no,λσ3 S2 σ2 H2 h2 _ KW g2=>kk _ S2 _ H2 h2 .non KW g2,kk,λ_ _ _ _ h2=>h2.elim,λ_ _ _ _ h2=>h2.elim⟩⟩
structure Hx(K:Vo)(mg:Vr)(x:Str)(st:Stmt)(ps:Vs)(T:Addr)(f:Addr)(fd:FuncData):Prop where
 F:O8 K x st T f fd
 b:Binds K fd ps []
 d:Binds K fd ps [.bool true]
 k:PySem.W.keepIn K (.ref f)=true
 m:mg x=some (.ref f)
end
section
variable {X:Cx}{e o:Expr}{es:List Expr}{te to:ba}{ts:List ba}{x:Str}{p pos apos cpos:Pos}{k:Nat}{f:Addr}{fd:FuncData}{ps:Vs}{sp:ay}
def lR(sp:ay)(ts:List ba):ba:=λσ S Q E=>am ts σ S (λps S1=>sp (ps++[.bl true]) S1 Q E) E
def A5(F:OO X.prog X.w X.K X.mg X.base k f fd ps sp)(hr:Room k X.A)(hg:Gl X x)(hm:X.mg x=some (.ref f))(hk:PySem.W.keepIn X.K (.ref f)=true)(hb:Binds X.K fd ps [.bool true])(he:starEach (e::es) X.env=(false,eval e X.env)::starEach es X.env)(ha:lK X (e::es) ts)
  (hl:ts.length+1=ps.length:=by rfl) (hdb:(x == ("__debug__":Str))=false:=by decide) (hpl:(backTo pos (starEach es X.env)).any (·.1)=false:=by rfl):bw X (.Call (.Name x p) (e::es) [] pos) (lR sp ts):=
 ⟨bb (u5 (dvs:=[.bl true]) F.ok hr hg hm hk hb (.cons rfl .nil) BR ha.ok hdb he hpl) λσ H Q ⟨σ3,S,Q3,E3,rσ,rS,h,xo,k⟩=>c_ rσ rS h xo λps' S' vs H' hl' q rv Lv g=>by
  refine⟨by rw[Um,rv.length,hl'];exact hl,ps'++[.bl true],S',Q3,E3,rv.append (.cons (.bl true) .nil),Lv,q,k.mono g⟩⟩
end
end L3
namespace L2
open PySem PySem.Spec PyProof.Rows
noncomputable def kN(its:Vw)(z:Str)(u:Tok)(i:Nat)(_:Option Fin×Unit):Sem (ForInStep (Option Fin×Unit)):=
 match its[i]? with
 |some y=>do
  let __do_lift <-eqBool y (Value.str z u)
  if __do_lift=true then do
   let __do_lift <-retInt (i:Int)
   pure (ForInStep.done (some __do_lift,()))
  else pure (ForInStep.yield (none,()))
 |_=>pure (ForInStep.yield (none,()))
theorem sB{prog:Program}{w:World}{A:Around}{E:Vq}{z:Str}{u:Tok}{its:Vw}{k:Nat}{Q:Option Fin×Unit->Shared->Prop}(hk:∃t,its[k]?=some (.str z t)) :
  ∀(m i:Nat)(s:Shared),i+m=its.size->i<=k->(∀j v,i<=j->j < k->its[j]?=some v->∃a t,v = .str a t/\a≠z)->(∀tk,Q (some (.done (.ret (.int k tk))),()) { s with toks:=s.toks+1 })->
  wpAny (model prog w) A (forIn (List.range' i m 1) ((none,()):Option Fin×Unit) (kN its z u)) Q E s
 |0,i,s,hm,hi,h,q=>by
  obtain⟨t,hk⟩:=hk;have:=(Array.getElem?_eq_some_iff.mp hk).1;omega
 |m+1,i,s,hm,hi,h,q=>by
  rw[List.range'_succ,Xd];have hlt:i < its.size:=by omega
  by_cases e:i=k
  .subst e;obtain⟨t,hk⟩:=hk;refine Uk ?_;unfold kN;rw[hk];refine Uk (wpAny_eqBool_str ?_);rw[UO rfl,if_pos rfl];exact Uk (Uk (wpAny_mkInt (Uz (Uz (Uz (q _))))))
  .have hv:=W2 hlt;obtain⟨a,t,ea,ne⟩:=h i _ (Uo _) (by omega) hv;refine Uk ?_;have eb:kN its z u i (none,())=(do let __do_lift <-eqBool (Value.str a t) (Value.str z u);if __do_lift=true then do { let __do_lift <-retInt (i:Int);pure (ForInStep.done (some __do_lift,())) } else pure (ForInStep.yield (none,()))):=by
    unfold kN;rw[hv,ea]
   rw[eb];refine Uk (wpAny_eqBool_str ?_);rw[UG ne,if_neg (by decide)];exact Uz (sB hk m (i+1) s (by omega) (by omega) (λj v h1 h2=>h j v (by omega) h2) q)
def DK(l:Addr)(its:Vw)(n:Nat)(dd:Option Addr)(sl:Array (Option Value))(z:Str)(u:Tok)(k:Nat)(hk:∃t,its[k]?=some (.str z t))(h:∀j v,j < k->its[j]?=some v->∃a t,v = .str a t/\a≠z) :
  Meets (Builtin.«tuple.index» ⟨[.ref l,.str z u],[]⟩) (λ_ R s=>s.heap.get? l=some { cls:=.type "tuple",dict:=dd,data:=.seq its n,slots:=sl }/\∀tk,R (.ok (.ret (.int k tk))) { s with toks:=s.toks+1 }):=
 .of_wp λprog w A R s hh=>by
  obtain⟨hp,g,d,tk,os⟩:=s;obtain⟨hl,q⟩:=hh
  wp_walk using Vj hl
  show wpAny _ _ (forIn (⟨0,min its.size its.size,1,Nat.one_pos⟩:Std.Legacy.Range) ((none,()):Option Fin×Unit) (kN its z u)) _ _ _;rw[Std.Legacy.Range.forIn_eq_forIn_range'];have e:Std.Legacy.Range.size ⟨0,min its.size its.size,1,Nat.one_pos⟩=its.size:=by unfold Std.Legacy.Range.size;simp
  rw[e];exact sB hk its.size 0 _ (by omega) (UT _) (λj v _ hj hv=>h j v hj hv) λtk'=>Uz ⟨_,rfl,q tk'⟩
section
variable {X:Cx}
noncomputable def A7(K:Vo):V->List V->Hp->VK->Prop:=λx vs H Q=>∃(l:Addr)(zs:Vs)(z:Str)(k:Nat),x = .ref l/\vs=[.str z]/\SqT K H l (zs.map V.str)/\zs[k]?=some z/\(∀j:Nat,j < k->zs[j]?≠some z)/\Q (.int k) H
def wE:Df X "tuple.index" (A7 X.K):=by
 intro pins s σ H x vs v us Q I rx rv h;obtain⟨l,zs,z,k,rfl,rfl,hT,hk,hf,q⟩:=h;cases rx;obtain⟨w,rfl,u,rfl⟩:=eA rv;obtain⟨its,r1,p1,_⟩:=I.tuple hT;obtain⟨⟨cls,dd,data,sl⟩,ho,hc,n,hd⟩:=id p1;simp only at hc hd;subst hc hd;refine Wq WC ⟨_,ho,rfl⟩ PySem.F.entry_tuple_index (PySem.F.args_tuple_index_2 _ _) (DK l its.toArray n dd sl z u k ?_ ?_) ⟨ho,λtk=>⟨.int k,H,I.tok _,⟨_,rfl⟩,q⟩⟩
 .obtain⟨v,hv,t,rfl⟩:=r1.get (i:=k) (x:=.str z) (by rw[Ut,hk];rfl);exact⟨t,by simpa using hv⟩
 .intro j v hj hv;have hjl:j < its.length:=by simpa using(Array.getElem?_eq_some_iff.mp hv).1
  have hl:=r1.length;rw[Ul]at hl;obtain⟨v',hv',t,rfl⟩:=r1.get (i:=j) (x:=.str (zs[j]'(by omega))) (by rw[Ut,Uq (by omega)];rfl);have e:v = .str (zs[j]'(by omega)) t:=by
   have h1:its[j]?=some v:=by simpa using hv
   rw[hv']at h1;cases h1;rfl
  exact⟨_,t,e,λh=>hf j hj (by rw[Uq (by omega),h])⟩
def A8{pins:Va}{σ:St}{H:Hp}{s:Shared}{a:Addr}{xs:List V}(I:Inv X pins σ H s)(h:SqT X.K H a xs):s.TypeIs (.ref a) "tuple"/\∀b,Value.ref a = .ref b->∃ob,s.heap.get? b=some ob/\ob.dict=none:=by
 rcases h with h|⟨o,its,n,hk,hc,hd,_⟩
 .obtain⟨z,its,r,o,e,hd,hc,_⟩:=h.ok I.hok;exact⟨⟨o,e,hc⟩,λb q=>by cases q;exact⟨o,e,hd⟩⟩
 .exact⟨⟨o,I.Ov a o hk,hc⟩,λb q=>by cases q;exact⟨o,I.Ov _ o hk,hd⟩⟩
variable {o e:Expr}{es:List Expr}{to:TE}{t:TA}{name:Str}{apos cpos:Pos}{id:String}{r:V->List V->Hp->VK->Prop}
def Hy(K:Vo)(r:V->List V->Hp->VK->Prop)(to:TE)(t:TA):TE:=λσ H Q=>to σ H λx H1=>(∃a xs,x = .ref a/\SqT K H1 a xs)/\t σ H1 λxs H2=>r x xs H2 Q
def DL(pa:PlainAttrs "tuple")(slot:Slot "tuple" name id)(hty:typeOf (.builtin id)=pure (.type "method_descriptor"))(hm:Df X id r)(ho:PE X o to)(ha:PA X (e::es) t)
  (hbase:attributeBase o name X.env (eval o X.env)=eval o X.env:=by rfl)
  (hfew:((backTo cpos (starEach (e::es) X.env)).all (λx=>!x.1)&&(backToKw cpos (keywordEach [] X.env)).all (λx=>x.1.isSome)
   && decide ((e::es).length+([]:List Keyword).length+(if ([]:List Keyword).isEmpty then 0 else 1) < 30))=true:=by rfl)
  (hline:(apos.endLine == cpos.line)=true:=by rfl) (hs:starEach (e::es) X.env=(false,eval e X.env)::starEach es X.env:=by rfl) (hplain:(backTo cpos (starEach es X.env)).any (·.1)=false:=by rfl) :
  PE X (.Call (.Attribute o name apos) (e::es) [] cpos) (Hy X.K r to t):=by
 walk_at "7";refine wpAny_Call_method_late hbase hfew hline rfl (IK (ho pins s σ H _ I h) λv s1 ⟨x,H1,I1,r1,⟨a,xs,ex,hT⟩,q1⟩=>?_);subst ex;have r1':=r1;cases r1;obtain⟨h1,h2⟩:=A8 I1 hT;refine⟨"tuple",id,pa,slot,hty,h1,h2,?_⟩;have hA:=ha cpos pins s1 σ H1 _ I1 q1;rw[hs]at hA ⊢;refine WI (by show(false || (backTo cpos (starEach es X.env)).any (·.1))=false;rw[hplain]<;>rfl) (XU ?_);exact IK hA λus s2 ⟨vs,H2,I2,r2,q2⟩=>hm pins s2 σ H2 _ vs _ us Q I2 r1' r2 q2
end
end L2
namespace L3
open PySem L2
section
variable {X:Cx}
noncomputable def gW:List PV->Option (List Str)
 |[]=>some []
 | .str z::r=>(gW r).map (z::·)
 |_::_=>none
theorem eZ:∀zs:List Str,gW (zs.map PV.str)=some zs
 |[]=>rfl
 |z::r=>by show(gW (r.map PV.str)).map (z::·)=_;rw[eZ r];rfl
theorem pR:∀{ps:List PV}{zs:Vs},gW ps=some zs->ps=zs.map PV.str
 |[],zs,h=>by cases h;rfl
 | .str z::r,zs,h=>by
  unfold gW at h;cases e:gW r with
  |none=>rw[e]at h;cases h
  |some ws=>rw[e]at h;cases h;rw[pR e];rfl
def fG:uk:=λx ps S Q=>match x,ps with
 | .tup xs,[.str z]=>(match gW xs with|some zs=>∃k:Nat,zs[k]?=some z/\(∀j:Nat,j < k->zs[j]?≠some z)/\Q (.int k) S|none=>False)
 |_,_=>False
theorem pS{K:Vo}{H:Hp}:∀{vs:List V}{zs:Vs},Reps K H vs (zs.map PV.str)->vs=zs.map V.str
 |[],[],_=>rfl
 |v::vs,z::zs,.cons a r=>by cases a;rw[pS r];rfl
def nW:xi X "tuple.index" fG:=⟨λpins s σ H x xs v us Q I rx rs ⟨px,ps,S,Q3,r1,rp,rS,q,k⟩=>by
 unfold fG at q
 split at q
 .split at q
  .rename_i e;obtain⟨j,hk,hf,q⟩:=q;cases r1 with
   |tup hq rs'=>
    rw[pR e]at rs';have ev:=pS rs';subst ev;cases rp with
    |cons b rr=>
     cases rr;cases b;exact wE pins s σ H _ _ v us Q I rx rs ⟨_,_,_,j,rfl,rfl,hq,hk,hf,k _ S _ H q (.int _) rS .refl⟩
  .exact q.elim
 .exact q.elim⟩
variable {o e:Expr}{es:List Expr}{to:ba}{ts:List ba}{name:Str}{apos cpos:Pos}{id:String}
def ut(r:uk)(to:ba)(ts:List ba):ba:=λσ S Q E=>to σ S (λx S1=>match x with | .tup _=>am ts σ S1 (λps S2=>r x ps S2 Q) E|_=>False) E
def yL{r:uk}(pa:PlainAttrs "tuple")(slot:Slot "tuple" name id)(hty:typeOf (.builtin id)=pure (.type "method_descriptor"))(hm:xi X id r)(hs:starEach (e::es) X.env=(false,eval e X.env)::starEach es X.env)(ho:bw X o to)(ha:lK X (e::es) ts)
  (hbase:attributeBase o name X.env (eval o X.env)=eval o X.env:=by rfl)
  (hfew:((backTo cpos (starEach (e::es) X.env)).all (λx=>!x.1)&&(backToKw cpos (keywordEach [] X.env)).all (λx=>x.1.isSome)
   && decide ((e::es).length+([]:List Keyword).length+(if ([]:List Keyword).isEmpty then 0 else 1) < 30))=true:=by rfl)
  (hline:(apos.endLine == cpos.line)=true:=by rfl) (hplain:(backTo cpos (starEach es X.env)).any (·.1)=false:=by rfl):bw X (.Call (.Attribute o name apos) (e::es) [] cpos) (ut r to ts):=
 ⟨bb (DL pa slot hty hm.ok ho.ok ha.ok hbase hfew hline hs hplain) λσ H Q ⟨σ3,S,Q3,E3,rσ,rS,h,xo,k⟩=>⟨σ3,S,_,E3,rσ,rS,h,xo,λx S1 v H1 h1 rx IZ g1=>by
  split at h1
  .have Qi:=rx;cases rx with
   |tup hq rs=>exact⟨⟨_,_,rfl,hq⟩,c_ (rσ.mono g1) IZ h1 (xo.mono g1) λps S2 vs H2 hl q rv KW g2=>⟨_,ps,S2,Q3,Qi.mono g2,rv,KW,q,k.mono (g1.trans g2)⟩⟩
  .exact h1.elim⟩⟩
end
section
variable {X:Cx}{a b:Expr}{ta tb:ba}{p pos:Pos}
def kO(ta tb:ba):ul:=λσ S R E=>ta σ S (λv S1=>tb σ S1 (λw S2=>match v,w with
 | .tup xs,.tup ys=>R ⟨bY xs ys,λ_=>True⟩ S2
 | .ref a,.ref b=>(match S2 a,S2 b with|some (.lst xs),some (.lst ys)=>R ⟨bY xs ys,λS'=>S' a=some (.lst xs)/\S' b=some (.lst ys)⟩ S2|_,_=>False)
 | .ref a,.tup ys=>(match S2 a with|some (.lst xs)=>R ⟨bY xs ys,λS'=>S' a=some (.lst xs)⟩ S2|_=>False)
 | .tup xs,.ref b=>(match S2 b with|some (.lst ys)=>R ⟨bY xs ys,λS'=>S' b=some (.lst ys)⟩ S2|_=>False)
 |_,_=>False) E) E
def qL{elts:List Expr}{k0:Nat}{Ke:Pos}(hs:starEach [a,b] X.env=[(false,eval a X.env),(false,eval b X.env)])(hs2:starEach [b] X.env=[(false,eval b X.env)])(hg:Gl X "zip")(hm:X.mg "zip" = none)(hv:bootBuiltins "zip" = some (.type "zip"))(ha:lK X [a,b] [ta,tb]) :
  wx X (.Tuple elts k0 Ke) (.Call (.Name "zip" p) [a,b] [] pos) (kO ta tb):=
 ⟨iP (yd hg hm hv ha.ok hs hs2) λσ H R ⟨σ3,S,R3,E3,rσ,rS,h,xo,k⟩=>⟨σ3,S,_,E3,rσ,rS,h,xo,λv S1 v' H1 h1 rv IZ g1=>⟨σ3,S1,_,E3,rσ.mono g1,IZ,h1,xo.mono g1,λw S2 w' H2 h2 rw' KW g2=>by
  have L:∀{a:Addr}{xs:List PV},S2 a=some (.lst xs)->∃vs,nE true X.K H2 a vs:=λe=>let ⟨_,h,_⟩:=KW _ _ e;⟨_,SqL.of h⟩
  split at h2
  .cases rv with
   |tup hq rs=>
    cases rw' with
    |tup hq2 PM=>exact⟨false,false,_,_,rfl,⟨_,g2.t _ _ hq⟩,⟨_,hq2⟩,k _ S2 _ H2 h2 (kL (.tup (g2.t _ _ hq) (rs.mono g2)) (.tup hq2 PM)) KW (g1.trans g2)⟩
  .cases rv;cases rw'
   split at h2
   .rename_i ea eb;exact⟨true,true,_,_,rfl,L ea,L eb,k _ S2 _ H2 h2 (kL (.lst λ_ q=>q.1) (.lst λ_ q=>q.2)) KW (g1.trans g2)⟩
   .exact h2.elim
  .cases rv;cases rw' with
   |tup hq2 PM=>
    split at h2
    .rename_i ea;exact⟨true,false,_,_,rfl,L ea,⟨_,hq2⟩,k _ S2 _ H2 h2 (kL (.lst λ_ q=>q) (.tup hq2 PM)) KW (g1.trans g2)⟩
    .exact h2.elim
  .cases rv with
   |tup hq rs=>
    cases rw'
    split at h2
    .rename_i eb;exact⟨false,true,_,_,rfl,⟨_,g2.t _ _ hq⟩,L eb,k _ S2 _ H2 h2 (kL (.tup (g2.t _ _ hq) (rs.mono g2)) (.lst λ_ q=>q)) KW (g1.trans g2)⟩
    .exact h2.elim
  .exact h2.elim⟩⟩⟩
end
end L3
namespace C
open PySem L2 L3
def d9(LF s0:ay):bv:=(ai (ap 3 (bf [(aD [(v3 0),(v3 2)])]))
  (ai (bS (eX (ad LF [(v3 0)])) (.tp (.cons (.n 4) (.cons (.n 5) .nil))) (ai (ap 6 (cw (af (aS false) (af aa (v3 0) (c3 (.int 0))) (c3 (.str "take"))) (cw (af (aS false) (v3 4) (c3 (.int 0))) (af (jN true) (af aa (v3 0) (c3 (.int 1))) (v3 1)))))
  (bg (jp "list" bT (v3 3) [(ad s0 [(v3 5),(v3 1),(cw (v3 2) (mI (v3 6)))])]))))
  (aw (v3 3))))
def iY(JX MU:ay):bv:=(ai (bS (eX (af aa (v3 0) (c3 (.int 1)))) (.tp (.cons (.n 2) (.cons (.n 3) .nil))) (bS (eX (lR JX [(af aa (v3 3) (c3 (.int 1))),(v3 1)])) (.tp (.cons (.n 4) (.cons (.n 5) .nil))) (ai (ap 6 (af aa (v3 5) (c3 (.int 0))))
  (bm (eU (aG (af aa (v3 5) (c3 (.int 1)))) (eU (aG (af (aS false) (af aa (v3 6) (c3 (.int 0))) (c3 (.str "put")))) (aG (af (jN true) (af aa (v3 6) (c3 (.int 1))) (v3 1))))) (aw (aD [(ut fG (af aa (v3 0) (c3 (.int 0))) [(af aa (v3 6) (c3 (.int 1)))]),(v3 2),(ad MU [(af aa (v3 3) (c3 (.int 1))),(v3 4),(aD [])])])) aO))))
  (aw (c3 .non)))
def lS(Mv:ay):bv:=(ai (ap 1 (bf []))
  (ai (ap 2 (bf []))
  (ai (ap 3 (ad Mv [(v3 0),(v3 2)]))
  (ai (j3 (aG (af (BY true) (v3 3) (c3 .non))) (ai (bg (jp "list" cp (v3 1) [(v3 3)]))
  (ai (bg (jp "list" cp (v3 2) [(af aa (af aa (v3 0) (c3 (.int 0))) (af aa (v3 3) (c3 (.int 0))))]))
  (ap 3 (ad Mv [(v3 0),(v3 2)])))))
  (aw (v3 1))))))
def kg(KO:ay):bv:=(aw (aJ (aL (ad KO [(v3 0)])) (.n 0) bZ (af aa (af aa (v3 1) (c3 (.int 0))) (af aa (v3 0) (c3 (.int 0)))) 1 [0]))
def gX(JI IH Je:ay):bv:=(ai (ap 1 (ad JI [(v3 0),(c3 (.int 8))]))
  (ai (ap 2 (cW (v3 1) vd (tN (af aR (c3 (.int 1)) (ad IH [(v3 0),(c3 (.int 4))])))))
  (ai (ap 3 (ak aW [(v3 2)]))
  (ai (ap 5 (aJ (aL (v3 3)) (.n 0) bZ (jp "list" sv (v3 2) [(ad IH [(v3 1),(ak bx [(v3 2)])])]) 1 [0,2]))
  (ai (ap 6 (bf []))
  (ai (bS (eX (v3 5)) (.tp (.cons (.n 7) (.cons (.n 4) .nil))) (ai (ap 8 (aD [(c3 (.str "put")),(v3 4),(af aR (c3 (.int 1)) (ad IH [(v3 0),(c3 (.int 9))]))]))
  (ai (bm (iy (aG (af m6 (v3 7) (c3 (.int 0)))) (aG (af (aS false) (ad IH [(v3 0),(c3 (.int 4))]) (c3 (.int 0))))) (ap 8 (aD [(c3 (.str "take")),(af aa (v3 5) (af bd (v3 7) (c3 (.int 1)))),(af aR (c3 (.int 1)) (ad IH [(v3 0),(c3 (.int 9))])),(v3 8),(ad Je [(v3 0),(bf [])])])) aO)
  (ai (ap 9 (bf [(aD [(c3 (.str "then")),(ad Je [(v3 0),(bf [])]),(v3 8)]),(aD [(c3 (.str "often")),(v3 8)]),(aD [(c3 (.str "either")),(ad Je [(v3 0),(bf [])]),(v3 8)])]))
  (bg (jp "list" m7 (v3 6) [(ad IH [(v3 0),(af aR (ak bx [(v3 6)]) (c3 (.int 1)))]),(af aa (bf [(v3 8),(af aa (v3 9) (c3 (.int 0))),(af aa (v3 9) (c3 (.int 1))),(af aa (v3 9) (c3 (.int 2)))]) (ad IH [(v3 0),(c3 (.int 4))]))]))))))
  (aw (aD [(v3 3),(ak aW [(aJ (eX (v3 6)) (.tp (.cons (.n 0) (.cons (.n 1) .nil))) bZ (aD [(af aa (v3 2) (af aR (c3 (.int 4)) (v3 0))),(v3 1)]) 2 [1])])]))))))))
def e7(JX Oi:ay):bv:=(ai (ap 2 (aJ (aL (lR JX [(v3 0),(v3 1)])) (.n 0) (aG (ad Oi [(af aa (v3 0) (c3 (.int 0)))])) (v3 0) 1 []))
  (ai (ap 3 (aJ (eX (v3 2)) (.tp (.cons (.n 0) (.cons (.n 1) .nil))) (aG (af aa (v3 1) (c3 (.int 1)))) (v3 0) 2 []))
  (aw (ak aW [(af aR (v3 3) (bf [(ak bx [(v3 2)])]))]))))
def e8(NL MF:ay):bv:=(ai (ap 1 (ad NL [(v3 0)]))
  (aw (ak aW [(aJ (aL (af aa (v3 0) (c3 (.int 1)))) (.n 0) bZ (ad MF [(af aa (v3 0) (c3 (.int 1))),(v3 1)]) 1 [1])])))
def iZ(s0:ay):bv:=(ai (bm (eU (aG (af (aS true) (af aa (v3 0) (c3 (.int 0))) (c3 (.str "rest")))) (aG (af (aS true) (af aa (v3 0) (c3 (.int 0))) (c3 (.str "then"))))) (ai (bm (aG (v3 3)) (bg (jp "list" cp (v3 4) [(v3 1)])) aO)
  (ap 1 (af aR (v3 1) (c3 (.int 1))))) aO)
  (ai (bm (aG (af (aS false) (af aa (v3 0) (c3 (.int 0))) (c3 (.str "often")))) (aw (ad s0 [(af aa (v3 0) (c3 (.int 1))),(v3 1),(v3 2),(v3 3),(v3 4)])) aO)
  (ai (bm (aG (af (jN false) (af aa (v3 0) (c3 (.int 0))) (aD [(c3 (.str "then")),(c3 (.str "either")),(c3 (.str "take"))]))) (ai (ap 1 (ad s0 [(af aa (v3 0) (mQ d5 (c3 (.int 2)))),(v3 1),(v3 2),(cw (v3 3) (oR (af (aS true) (af aa (v3 0) (c3 (.int 0))) (c3 (.str "take"))) (af (jN false) (af aa (v3 0) (c3 (.int 1))) (v3 2)))),(v3 4)]))
  (aw (ad s0 [(af aa (v3 0) (mQ d5 (c3 (.int 1)))),(v3 1),(v3 2),(v3 3),(v3 4)]))) aO)
  (aw (v3 1)))))
end C
namespace L3
open PySem L2 Xc
end L3
namespace L3
open PySem L2
end L3
namespace L2
open PySem PySem.Spec PyProof.Rows Xc
end L2
namespace L3
open PySem L2 Xc
section
variable {P:Program}{w:World}{K:Vo}{mg:Vr}{base:Heap}
structure aY(K:Vo)(mg:Vr)(x:Str)(st:Stmt)(ps:Vs):Prop where
 ex:∃f fd,GM K mg x st ps f fd
structure Jc(P:Program)(w:World)(K:Vo)(mg:Vr)(base:Heap)(k:Nat)(x:Str)(n:Nat)(sp:ay):Prop where
 ex:∃f fd ps,ps.length=n/\OO P w K mg base k f fd ps sp/\mg x=some (.ref f)/\PySem.W.keepIn K (.ref f)=true/\Binds K fd ps []
def df{x:Str}{st:Stmt}{ps:Vs}{k n:Nat}{t:bv}{sp:ay}(N:Vs)(O:aY K mg x st ps)
  (hbody:∀(f:Addr)(cdv:Value)(A:Around)(outer:List Env)(s:Shared)(H:Hp)(E:XK),Room k (A.deeper (PyProof.Rows.envOfC x (aK st) s.heap.objs.size f cdv))->N.Nodup->lJ (FV P w K mg base N x st f cdv A outer s H E) (bq st) t) (e:sp=aT N.length t)
  (hn:ps.length=n:=by rfl) (S:eE N ps (aK st):=by walk_at "8"):Jc P w K mg base (k+1) x n sp:=by
 subst e;obtain⟨f,fd,o⟩:=O.ex;exact⟨f,fd,ps,hn,HZ o.F S λcdv A outer s H E hr=>hbody f cdv A outer s H E hr S.nd,o.m,o.k,o.b⟩
def Ix{x:Str}{st:Stmt}{ps:Vs}{k:Nat}{t:bv}{sp:ay}{f:Addr}{fd:FuncData}(N:Vs)(o:GM K mg x st ps f fd)
  (hbody:∀(f:Addr)(cdv:Value)(A:Around)(outer:List Env)(s:Shared)(H:Hp)(E:XK),Room k (A.deeper (PyProof.Rows.envOfC x (aK st) s.heap.objs.size f cdv))->N.Nodup->lJ (FV P w K mg base N x st f cdv A outer s H E) (bq st) t) (e:sp=aT N.length t)
  (S:eE N ps (aK st):=by walk_at "8"):OO P w K mg base (k+1) f fd ps sp:=by
 subst e;exact HZ o.F S λcdv A outer s H E hr=>hbody f cdv A outer s H E hr S.nd
def m8:ay:=λ_ _ _ _=>False
theorem Jc.zero{x:Str}{st:Stmt}{ps:Vs}{k n:Nat}(O:aY K mg x st ps)(hn:ps.length=n:=by rfl):Jc P w K mg base k x n m8:=by
 obtain⟨f,fd,o⟩:=O.ex;exact⟨f,fd,ps,hn,.zero rfl,o.m,o.k,o.b⟩
theorem jE{b n:Nat}{x:Str}{st:Stmt}{ps:Vs}{r:Nat->ay}(O:aY K mg x st ps)(h:∀j,Jc P w K mg base (b+j) x n (r j)->Jc P w K mg base (b+j+1) x n (r (j+1)))(h0:r 0=m8)(hn:ps.length=n:=by rfl):∀j,Jc P w K mg base (b+j) x n (r j)
 |0=>by rw[h0];exact .zero O hn
 |j+1=>h j (jE O h h0 hn j)
end
section
variable {X:Cx}{a b e o:Expr}{es:List Expr}{ta tb te to:ba}{ts:List ba}{x c m f:Str}{p pos apos cpos:Pos}{j k n:Nat}{sp:ay}
def c4(O:Jc X.prog X.w X.K X.mg X.base k x n sp)(hr:Room j X.A)(ha:lK X (e::es) ts)(hj:k<=j:=by omega)(hl:ts.length=n:=by rfl)(hg:Gl X x:=by rfl)(he:starEach (e::es) X.env=(false,eval e X.env)::starEach es X.env:=by rfl)(hdb:(x == ("__debug__":Str))=false:=by decide)(hpl:(backTo pos (starEach es X.env)).any (·.1)=false:=by rfl) :
  bw X (.Call (.Name x p) (e::es) [] pos) (ad sp ts):=by
 obtain⟨f,fd,ps,hn,F,h1,h2,h3⟩:=O.ex;exact yD F (hr.mono hj) hg h1 h2 h3 he ha (hl.trans hn.symm) hdb hpl
def cB{id:String}{r:rW}(hc:fD X (.builtin id) r)(hm:X.mg x=none)(ha:lK X (e::es) ts)(hg:Gl X x:=by rfl)(hv:bootBuiltins x=some (.builtin id):=by decide +kernel)(he:starEach (e::es) X.env=(false,eval e X.env)::starEach es X.env:=by rfl)
  (hnn:x ≠ "__name__":=by decide) (hdb:(x == ("__debug__":Str))=false:=by decide) (hpl:(backTo pos (starEach es X.env)).any (·.1)=false:=by rfl):bw X (.Call (.Name x p) (e::es) [] pos) (ak r ts):=AL hc hg hm hv he ha hnn hdb hpl
def cT{id:String}{r:rW}(hc:fD X (.type id) r)(hm:X.mg x=none)(ha:lK X (e::es) ts)(hg:Gl X x:=by rfl)(hv:bootBuiltins x=some (.type id):=by decide +kernel)(he:starEach (e::es) X.env=(false,eval e X.env)::starEach es X.env:=by rfl)
  (hnn:x ≠ "__name__":=by decide) (hdb:(x == ("__debug__":Str))=false:=by decide) (hpl:(backTo pos (starEach es X.env)).any (·.1)=false:=by rfl):bw X (.Call (.Name x p) (e::es) [] pos) (ak r ts):=AM hc hg hm hv he ha hnn hdb hpl
def lc{r:List Expr}(ha:bw X a ta)(hr:lK X r ts)(hs:starEach (a::r) X.env=(false,eval a X.env)::starEach r X.env:=by rfl):lK X (a::r) (ta::ts):=yo hs ha hr
def l1(ha:bw X a ta)(hs:starEach [a] X.env=(false,eval a X.env)::starEach [] X.env:=by rfl):lK X [a] [ta]:=yo hs ha cK
def aB{i:Int}{q:Nat}{p2:Pos}(hr:Room j X.A)(ha:bw X a ta)(hs:mX (.Constant (.int i) q p2):=by exact λ_ _=>rfl):bw X (.Subscript a (.Constant (.int i) q p2) pos) (af aa ta (c3 (.int i))):=FN (HY (vi hr)) ha ah hs
def cM(hr:Room j X.A)(ha:bw X a ta)(hb:bw X b tb)(hs:mX b:=by exact λ_ _=>rfl):bw X (.Subscript a b pos) (af aa ta tb):=FN (HY (vi hr)) ha hb hs
def dg(hr:Room j X.A)(ha:bw X a ta)(hb:bw X b tb):tM X (.Compare a [.Eq] [b] pos) (aG (af (aS false) ta tb)):=bh (iA (fF hr)) ha hb (aN _)
def B7(hr:Room j X.A)(ha:bw X a ta)(hb:bw X b tb):tM X (.Compare a [.NotEq] [b] pos) (aG (af (aS true) ta tb)):=bh (BX (fF hr)) ha hb (aN _)
def s4(i:Nat){pos':Pos}(nd:X.N.Nodup)(he:bw X e te)(hi:X.N[i]?=some x:=by rfl)(hx:BJ X.env.scope x:=by walk_at "f")(hs:swapsWith e (some (.Name x pos')) pos.line X.env=pure false:=by rfl)
  (hf:X.fn x=true\/X.env.scope.names.lookup x=some .local:=by walk_at "9"):sr X (.Assign [.Name x pos'] e pos) (ap i te):=FT nd hi hx he hs hf
def gn(i:Nat)(nd:X.N.Nodup)(hi:X.N[i]?=some x:=by rfl)(hx:BJ X.env.scope x:=by walk_at "f")(hf:X.fn x=true\/X.env.scope.names.lookup x=some .local:=by walk_at "9"):zR X (.Name x pos) (.n i):=Ir i nd hi hx hf
def yM:bv:=λD _ S=>D.rt .non S
def DM:sr X (.Return none pos) yM:=⟨dH zY λD σ H ⟨σ3,S,D3,rσ,rS,h,xo,n,r,bk,ct⟩=>r _ S _ H h .non rS .refl⟩
def Iy{px:Pos}{kvs:List (bN×Int)}{g:Expr}{tg:ba}(hr:Room j X.A)(hD:∃a,X.mg x=some (.ref a)/\KD X.prog X.w X.K a (kvs.map λkv=>(kv.1,V.int kv.2)))(he:bw X e te)(hf:bw X g tg)(hg:Gl X x:=by rfl)(m:M2 X (.Name x px) "get" apos e g cpos:=by exact⟨rfl,rfl,rfl,rfl⟩)
  (hd:(x == ("__debug__":Str))=false:=by decide):bw X (.Call (.Attribute (.Name x px) "get" apos) [e,g] [] cpos) (vh kvs te tg):=let ⟨_,h1,h2⟩:=hD;DI (vi hr) hg h1 h2 he hf m hd
end
structure B8(T:String)(name:Str)(id:String):Prop where
 pa:PlainAttrs T
 slot:Slot T name id
 ty:typeOf (.builtin id)=pure (.type "method_descriptor")
section
variable {X:Cx}{e o:Expr}{es:List Expr}{to:ba}{ts:List ba}{name:Str}{T id:String}{p pos apos cpos:Pos}{r:uk}
def eO:B8 "list" "append" "list.append":=⟨WE,PySem.F.slot_list_append,PySem.F.type_list_append⟩
def gB:B8 "list" "extend" "list.extend":=⟨WE,PySem.F.slot_list_extend,PySem.F.type_list_extend⟩
def wF:B8 "list" "insert" "list.insert":=⟨WE,PySem.F.slot_list_insert,PySem.F.type_list_insert⟩
def yN:B8 "list" "pop" "list.pop":=⟨WE,PySem.F.slot_list_pop,PySem.F.type_list_pop⟩
def vk:B8 "str" "join" "str.join":=⟨PySem.F.plainAttrs_str,PySem.F.slot_str_join,PySem.F.type_str_join⟩
def yO:B8 "str" "index" "str.index":=⟨PySem.F.plainAttrs_str,PySem.F.slot_str_index,PySem.F.type_str_index⟩
def tO(k:B8 T name id)(hm:xi X id r)(ho:bw X o to)(ha:lK X (e::es) ts)(hs:starEach (e::es) X.env=(false,eval e X.env)::starEach es X.env:=by rfl)
  (hbase:attributeBase o name X.env (eval o X.env)=eval o X.env:=by rfl)
  (hfew:((backTo cpos (starEach (e::es) X.env)).all (λx=>!x.1)&&(backToKw cpos (keywordEach [] X.env)).all (λx=>x.1.isSome)
   && decide ((e::es).length+([]:List Keyword).length+(if ([]:List Keyword).isEmpty then 0 else 1) < 30))=true:=by rfl)
  (hline:(apos.endLine == cpos.line)=true:=by rfl) (hplain:(backTo cpos (starEach es X.env)).any (·.1)=false:=by rfl):bw X (.Call (.Attribute o name apos) (e::es) [] cpos) (jp T r to ts):=Hn k.pa k.slot k.ty hm hs ho ha hbase hfew hline hplain
def Hz(k:B8 T name id)(hm:xi X id r)(ho:bw X o to)
  (hbase:attributeBase o name X.env (eval o X.env)=eval o X.env:=by rfl) (hline:(apos.endLine == cpos.line)=true:=by rfl):bw X (.Call (.Attribute o name apos) [] [] cpos) (jp T r to []):=FS k.pa k.slot k.ty hm ho hbase hline
end
section
variable {X:Cx}{tg iter elt:Expr}{ifs:List Expr}{scope:Scope}{pos:Pos}{ti:ul}{g:Tg}{tc:kH}{te:ba}
def oM(fs:Vs)(own:Nat)(fr:List Nat)(N:Vs)(hi:wx X tg iter ti)(hg:∀B,zR (X.Lu N scope fs B) tg g)(hf:∀B,EO (X.Lu N scope fs B) ifs tc)(he:∀B,bw (X.Lu N scope fs B) elt te)
  (ON:g.under own=true:=by rfl) (hc:X.calm=true:=by rfl) (hclos:closureFor scope X.env=pure (dG X.env fs):=by rfl) (hcell:∀y∈scope.names,y.2 ≠ .cell:=by decide +kernel) (hkind:scope.kind = .function:=by rfl)
  (hnames:∀x∈scope.names,x.2 = .local->scope.names.lookup x.1=some .local:=by decide +kernel) (hcl:du X.env fs:=by walk_at "b") (hhas:qw (relabel scope X.env).names (dG X.env fs)=true:=by rfl)
  (hlen:N.length=own+fr.length:=by rfl) (hN:(N.drop own).map some=fr.map (λj=>X.N[j]?):=by rfl) (hF:JW X.env scope (dG X.env fs) (N.drop own):=by walk_at "a")
  (hs:∀x,foldedSetIterable iter X.env x=pure x:=by intro _;rfl):bw X (.ListComp elt [⟨tg,iter,ifs,0⟩] scope pos) (aJ ti g tc te own fr):=DG fs own fr N ON hc hclos hcell hkind hnames hcl hhas hlen hN hF hi hg hf he hs
def vm(fs:Vs)(own:Nat)(fr:List Nat)(N:Vs)(i:Nat){y:Str}{py spos:Pos}(hX:X.N.Nodup)(hi:wx X tg iter ti)(hg:∀B,zR (X.Lu N scope fs B) tg g)(hf:∀B,EO (X.Lu N scope fs B) ifs tc)(he:∀B,bw (X.Lu N scope fs B) elt te)
  (hix:X.N[i]?=some y:=by rfl) (hy:X.env.scope.names.lookup y=some .local:=by rfl) (hsw:swapsWith (.ListComp elt [⟨tg,iter,ifs,0⟩] scope pos) (some (.Name y py)) spos.line X.env=pure true:=by rfl)
  (ON:g.under own=true:=by rfl) (hc:X.calm=true:=by rfl) (hclos:closureFor scope X.env=pure (dG X.env fs):=by rfl) (hcell:∀y∈scope.names,y.2 ≠ .cell:=by decide +kernel) (hkind:scope.kind = .function:=by rfl)
  (hnames:∀x∈scope.names,x.2 = .local->scope.names.lookup x.1=some .local:=by decide +kernel) (hcl:du X.env fs:=by walk_at "b") (hhas:qw (relabel scope X.env).names (dG X.env fs)=true:=by rfl)
  (hlen:N.length=own+fr.length:=by rfl) (hN:(N.drop own).map some=fr.map (λj=>X.N[j]?):=by rfl) (hF:JW X.env scope (dG X.env fs) (N.drop own):=by walk_at "a")
  (hs:∀x,foldedSetIterable iter X.env x=pure x:=by intro _;rfl):sr X (.Assign [.Name y py] (.ListComp elt [⟨tg,iter,ifs,0⟩] scope pos) spos) (ap i (aJ ti g tc te own fr)):=DH fs own fr N hX hix hy hsw ON hc hclos hcell hkind hnames hcl hhas hlen hN hF hi hg hf he hs
end
section
variable {X:Cx}{e:Expr}{es:List Expr}{ts:List ba}{x:Str}{p pos cpos:Pos}{ks:Vs}{j:Nat}
def ER{n:String}(hm:X.mg x=none)(hg:Gl X x:=by rfl)(hv:bootBuiltins x=some (.type n):=by decide +kernel)(hn:x ≠ "__name__":=by decide)(hd:(x == ("__debug__":Str))=false:=by decide):bw X (.Name x pos) (c3 (.ty n)):=Hl hg hm hv hn hd
end
section
variable {P:Program}{w:World}{K:Vo}{mg:Vr}{base:Heap}
structure sC(K:Vo)(mg:Vr)(x:Str)(st:Stmt)(ps:Vs):Prop where
 ex:∃T f fd,Hx K mg x st ps T f fd
structure O9(P:Program)(w:World)(K:Vo)(mg:Vr)(base:Heap)(k:Nat)(x:Str)(n:Nat)(sp:ay):Prop where
 ex:∃f fd ps,ps.length=n/\OO P w K mg base k f fd ps sp/\mg x=some (.ref f)/\PySem.W.keepIn K (.ref f)=true/\Binds K fd ps []/\Binds K fd ps [.bool true]
def Iz{x:Str}{st:Stmt}{ps:Vs}{k n:Nat}{t:bv}{sp:ay}(N:Vs)(O:sC K mg x st ps)
  (hbody:∀(f:Addr)(cdv:Value)(A:Around)(outer:List Env)(s:Shared)(H:Hp)(E:XK),Room k (A.deeper (PyProof.Rows.envOfC x (aK st) s.heap.objs.size f cdv))->N.Nodup->lJ (FV P w K mg base N x st f cdv A outer s H E) (bq st) t) (e:sp=aT N.length t)
  (hn:ps.length=n:=by rfl) (S:eE N ps (aK st):=by walk_at "8"):O9 P w K mg base (k+1) x n sp:=by
 subst e;obtain⟨T,f,fd,o⟩:=O.ex;exact⟨f,fd,ps,hn,Hw o.F S λcdv A outer s H E hr=>hbody f cdv A outer s H E hr S.nd,o.m,o.k,o.b,o.d⟩
theorem O9.zero{x:Str}{st:Stmt}{ps:Vs}{k n:Nat}(O:sC K mg x st ps)(hn:ps.length=n:=by rfl):O9 P w K mg base k x n m8:=by
 obtain⟨T,f,fd,o⟩:=O.ex;exact⟨f,fd,ps,hn,.zero rfl,o.m,o.k,o.b,o.d⟩
theorem F4{b n:Nat}{x:Str}{st:Stmt}{ps:Vs}{r:Nat->ay}(O:sC K mg x st ps)(h:∀j,O9 P w K mg base (b+j) x n (r j)->O9 P w K mg base (b+j+1) x n (r (j+1)))(h0:r 0=m8)(hn:ps.length=n:=by rfl):∀j,O9 P w K mg base (b+j) x n (r j)
 |0=>by rw[h0];exact .zero O hn
 |j+1=>h j (F4 O h h0 hn j)
end
section
variable {X:Cx}{e:Expr}{es:List Expr}{ts:List ba}{x:Str}{p pos:Pos}{j k n:Nat}{sp:ay}
def cD(O:O9 X.prog X.w X.K X.mg X.base k x n sp)(hr:Room j X.A)(ha:lK X (e::es) ts)(hj:k<=j:=by omega)(hl:ts.length+1=n:=by rfl)(hg:Gl X x:=by rfl)(he:starEach (e::es) X.env=(false,eval e X.env)::starEach es X.env:=by rfl)(hdb:(x == ("__debug__":Str))=false:=by decide)(hpl:(backTo pos (starEach es X.env)).any (·.1)=false:=by rfl) :
  bw X (.Call (.Name x p) (e::es) [] pos) (lR sp ts):=by
 obtain⟨f,fd,ps,hn,F,h1,h2,h3,h4⟩:=O.ex;exact A5 F (hr.mono hj) hg h1 h2 h4 he ha (hl.trans hn.symm) hdb hpl
def IA(O:O9 X.prog X.w X.K X.mg X.base k x n sp)(hr:Room j X.A)(ha:lK X (e::es) ts)(hj:k<=j:=by omega)(hl:ts.length=n:=by rfl)(hg:Gl X x:=by rfl)(he:starEach (e::es) X.env=(false,eval e X.env)::starEach es X.env:=by rfl)(hdb:(x == ("__debug__":Str))=false:=by decide)(hpl:(backTo pos (starEach es X.env)).any (·.1)=false:=by rfl) :
  bw X (.Call (.Name x p) (e::es) [] pos) (ad sp ts):=by
 obtain⟨f,fd,ps,hn,F,h1,h2,h3,h4⟩:=O.ex;exact yD F (hr.mono hj) hg h1 h2 h3 he ha (hl.trans hn.symm) hdb hpl
end
end L3
namespace L3
open PySem L2
section
variable {X:Cx}{a b c:Expr}{ta tb tc:ba}{p pos:Pos}
def yP{K:Vo}{H0:Hp}{a b c:Addr}{xs ys zs:List PV}(To:xs.length<=ys.length)(Tp:xs.length<=zs.length):iC K H0 (GN true true K a b c) ⟨bE xs ys zs,λS'=>S' a=some (.lst xs)/\S' b=some (.lst ys)/\S' c=some (.lst zs)⟩:=by
 intro i S H g rS ⟨ha,hb,hc⟩;obtain⟨vs,hv,r1⟩:=rS _ _ ha;obtain⟨us,hu,r2⟩:=rS _ _ hb;obtain⟨ws,hw,r3⟩:=rS _ _ hc;have hv:=SqL.of (K:=K) hv;have hu:=SqL.of (K:=K) hu;have hw:=SqL.of (K:=K) hw;have l1:=r1.length;refine⟨λp hp=>?_,λhi=>⟨vs,hv,?_⟩⟩
 .unfold bE at hp;rw[Ut]at hp;cases hz:(xs.zip (ys.zip zs))[i]? with
  |none=>rw[hz]at hp;cases hp
  |some z=>
   rw[hz]at hp;cases hp;obtain⟨e1,Rv⟩:=Vh.mp hz;obtain⟨e2,e3⟩:=Vh.mp Rv;obtain⟨v,hx',rv⟩:=r1.get e1;obtain⟨u,hy',ru⟩:=r2.get e2;obtain⟨t,hz',rt⟩:=r3.get e3;refine⟨⟨vs,us,ws,v,u,t,hv,hu,hw,hx',hy',hz'⟩,λx H' ⟨q,x2,y2,z2,e3,hq,e4,h⟩=>?_⟩;subst e3 e4;obtain⟨k1,k2,k3⟩:=h vs us ws hv hu hw;rw[hx']at k1;rw[hy']at k2;rw[hz']at k3;cases k1;cases k2;cases k3;exact⟨.tup (SqT.of aI) (.cons (rv.mono (.new hq)) (.cons (ru.mono (.new hq)) (.cons (rt.mono (.new hq)) .nil))),rS.other hq,.new hq⟩
 .have e:(bE xs ys zs).length=min xs.length (min ys.length zs.length):=by simp[bE]
  rw[e]at hi;omega
def uu(ta tb tc:ba):ul:=λσ S R E=>ta σ S (λv S1=>tb σ S1 (λw S2=>tc σ S2 (λx S3=>match v,w,x with
 | .ref a,.ref b,.ref c=>(match S3 a,S3 b,S3 c with|some (.lst xs),some (.lst ys),some (.lst zs)=>xs.length<=ys.length/\xs.length<=zs.length/\R ⟨bE xs ys zs,λS'=>S' a=some (.lst xs)/\S' b=some (.lst ys)/\S' c=some (.lst zs)⟩ S3|_,_,_=>False)
 |_,_,_=>False) E) E) E
def A9{elts:List Expr}{k0:Nat}{Ke:Pos}(hs:starEach [a,b,c] X.env=[(false,eval a X.env),(false,eval b X.env),(false,eval c X.env)])(hs2:starEach [b,c] X.env=[(false,eval b X.env),(false,eval c X.env)])(hg:Gl X "zip")(hm:X.mg "zip" = none)(hv:bootBuiltins "zip" = some (.type "zip"))(ha:lK X [a,b,c] [ta,tb,tc]) :
  wx X (.Tuple elts k0 Ke) (.Call (.Name "zip" p) [a,b,c] [] pos) (uu ta tb tc):=
 ⟨iP (yI (kd:=true) (kc:=true) hg hm hv ha.ok hs hs2) λσ H R ⟨σ3,S,R3,E3,rσ,rS,h,xo,k⟩=>⟨σ3,S,_,E3,rσ,rS,h,xo,λv S1 v' H1 h1 rv IZ g1=>⟨σ3,S1,_,E3,rσ.mono g1,IZ,h1,xo.mono g1,λw S2 w' H2 h2 rw' KW g2=>⟨σ3,S2,_,E3,(rσ.mono g1).mono g2,KW,h2,(xo.mono g1).mono g2,λx S3 x' H3 h3 Qi Nw g3=>by
  split at h3
  .cases rv;cases rw';cases Qi
   split at h3
   .rename_i ea eb ec;obtain⟨vs,hv',_⟩:=Nw _ _ ea;obtain⟨us,Ts,_⟩:=Nw _ _ eb;obtain⟨ws,hw',_⟩:=Nw _ _ ec;exact⟨_,_,_,rfl,⟨_,SqL.of hv'⟩,⟨_,SqL.of Ts⟩,⟨_,SqL.of hw'⟩,k _ S3 _ H3 h3.2.2 (yP h3.1 h3.2.1) Nw ((g1.trans g2).trans g3)⟩
   .exact h3.elim
  .exact h3.elim⟩⟩⟩⟩
end
end L3
namespace L2
open PySem PySem.Spec PyProof.Rows
end L2
namespace L3
open PySem L2
end L3
namespace CY
open PySem L2 L3
def i3(Lj s0:ay):bv:=(ai (bm (aG (af aa (v3 2) (c3 (.str "stuck")))) yM aO)
  (ai (ap 3 (af aa (v3 0) (c3 (.int 0))))
  (bm (aG (af (aS false) (v3 3) (c3 (.str "pay")))) (fT (ad Lj [(af aa (v3 2) (c3 (.str "cost"))),(af aa (v3 0) (c3 (.int 1)))]) (v3 2) (c3 (.str "cost"))) (bm (aG (af (aS false) (v3 3) (c3 (.str "put")))) (ai (ap 4 (ut fG (af aa (v3 2) (c3 (.str "names"))) [(af aa (v3 0) (c3 (.int 1)))]))
  (fT (af aR (af aa (af aa (v3 2) (c3 (.str "jars"))) (v3 4)) (af aa (v3 0) (c3 (.int 2)))) (af aa (v3 2) (c3 (.str "jars"))) (v3 4))) (bm (aG (af (aS false) (v3 3) (c3 (.str "then")))) (ai (bg (ad s0 [(af aa (v3 0) (c3 (.int 1))),(af aa (v3 1) (c3 (.int 0))),(v3 2)]))
  (bg (ad s0 [(af aa (v3 0) (c3 (.int 2))),(af aa (v3 1) (c3 (.int 1))),(v3 2)]))) (bm (aG (af (aS false) (v3 3) (c3 (.str "either")))) (bg (ad s0 [(af aa (v3 0) (af aR (c3 (.int 1)) (af aa (v3 1) (c3 (.int 0))))),(af aa (v3 1) (c3 (.int 1))),(v3 2)])) (bm (aG (af (aS false) (v3 3) (c3 (.str "take")))) (ai (ap 4 (ut fG (af aa (v3 2) (c3 (.str "names"))) [(af aa (v3 0) (c3 (.int 1)))]))
  (ai (bm (aG (af (aS false) (af aa (v3 1) (c3 (.int 0))) (c3 (.int 0)))) (ai (fT (af lO (af aa (af aa (v3 2) (c3 (.str "jars"))) (v3 4)) (af aa (v3 0) (c3 (.int 2)))) (v3 2) (c3 (.str "stuck")))
  (fT (af bd (af aa (af aa (v3 2) (c3 (.str "jars"))) (v3 4)) (af aa (v3 0) (c3 (.int 2)))) (af aa (v3 2) (c3 (.str "jars"))) (v3 4))) aO)
  (bg (ad s0 [(af aa (v3 0) (af aR (c3 (.int 3)) (af aa (v3 1) (c3 (.int 0))))),(af aa (v3 1) (c3 (.int 1))),(v3 2)])))) (bm (aG (af (aS false) (v3 3) (c3 (.str "often")))) (bS (aL (v3 1)) (.tp (.cons (.n 5) (.cons (.n 6) .nil))) (bS (iQ (v3 5)) (.n 7) (bg (ad s0 [(af aa (v3 0) (c3 (.int 1))),(v3 6),(v3 2)])))) aO))))))))
end CY
namespace L2
open PySem PySem.Spec PyProof.Rows
noncomputable def HA(K:Vo)(a:Addr)(n:Nat):It:=
 ⟨λi H=>∃xs x,SqL K H a xs/\xs.length=n/\i < n/\xs[n - 1 - i]?=some x,λi H x H'=>H'=H/\∀xs,SqL K H a xs->xs[n - 1 - i]?=some x,λi _=>n<=i⟩
def yQ{P:Program}{w:World}{K:Vo}{tg:Expr}(a it:Addr)(n:Nat):nl P w K tg (HA K a n) [it] it (λi h=>i<=n/\h.IsRevIter it a ((n:Int) - 1 - (i:Int))) where
 mem:=by simp
 obj:=λi h st b hb=>by
  have e:b=it:=by simpa using hb
  subst e;obtain⟨_,o,e,c,d⟩:=st;exact⟨o,e,λv z=>by rw[d]at z;cases z⟩
 keep:=λi h h' st k=>⟨st.1,st.2.at λo e=>k it (by simp) o e⟩
 item:=by
  walk_at "2";subst hP hw hK;obtain⟨xs,x,hq,hn,hi,hx⟩:=hg;obtain⟨its,rv,p,hz⟩:=I.list hq;obtain⟨u,hu,ru⟩:=rv.get hx;walk_at "5";have e1:(n:Int) - 1 - (i:Int)=((n - 1 - i:Nat):Int):=by omega
  have st2:=st.2;rw[e1]at st2;refine wpAny_pyNext_rev_item st2 p.isList (x:=u) (by simpa using hu) λh' st' sb=>?_;have I1:Inv X pins σ H { s with heap:=h' }:=I.turned (t':=s.toks) (λb o hb e=>(sb.2 b hb).trans e) f0 f1 f3 f4 f5;have e2:((n - 1 - i:Nat):Int) - 1=(n:Int) - 1 - ((i+1:Nat):Int):=by omega
  rw[e2]at st';obtain⟨o,e,c,d⟩:=id st';exact⟨u,rfl,cJ (s:={ s with heap:=h' }) e c d (by decide) ⟨x,H,I1,ru,⟨rfl,λys hy=>by rw[I.LX hy hq];exact hx⟩,⟨hi,st'⟩,λb hb=>(hf b hb).1⟩⟩
 done:=by
  walk_at "2";subst hP hw hK;have hg:n<=i:=hg;walk_at "5";have e1:(n:Int) - 1 - (i:Int) = -1:=by have:=st.1;omega
  have st2:=st.2;rw[e1]at st2;exact wpAny_pyNext_rev_end (I.ok.hd hc) st2 λh' eb=>⟨rfl,I.turned (t':=s.toks) (λb o hb e=>eb b o hb e) f0 f1 f3 f4 f5⟩
 self:=λ_ _ _ _ _ st h=>wpAny_pyIter_revIter st.2 h
section
variable {X:Cx}{tg:Expr}
def HC(K:Vo)(te:TE):TI:=λσ H R=>te σ H λx H1=>∃a xs,x = .ref a/\SqL K H1 a xs/\R (HA K a xs.length) H1
def DN{e:Expr}{te:TE}{p pos:Pos}(hg:Gl X "reversed")(hm:X.mg "reversed" = none)(he:PE X e te)(hs:starEach [e] X.env=[(false,eval e X.env)]:=by rfl):PI X tg (.Call (.Name "reversed" p) [e] [] pos) (HC X.K te):=by
 intro pins s σ H R I h;refine Wo (fQ I hg hm (u:=.type "reversed") boot_reversed ?_);refine Vc ?_ hs rfl;rw[hs];show wpAny _ _ (spliced ((false,eval e X.env)::backTo pos [])) _ _ s;refine Wn (IK (he pins s σ H _ I h) λu s1 ⟨x,H1,I1,r1,a,xs,ex,hx,q⟩=>?_);subst ex;cases r1;obtain⟨its,rv,pl,hz⟩:=I1.list hx;have hl:=rv.length;refine WQ (call_reversed_list pl.isList ?_);have st:(s1.heap.push (revObj a ((its.toArray.size:Int) - 1))).IsRevIter s1.heap.objs.size a ((xs.length:Int) - 1 - ((0:Nat):Int)):=⟨_,UC _ rfl,rfl,by
  show Data.fields #[.ref a,rawInt ((its.toArray.size:Int) - 1)]=_;rw[Uw,<-hl];simp⟩
 refine wpAny_pyIter_revIter (s:={ s1 with heap:=s1.heap.push (revObj a ((its.toArray.size:Int) - 1)) }) st ?_;refine⟨s1.heap.objs.size,[s1.heap.objs.size],_,_,H1,rfl,I1.kept (t':=s1.toks) λb o e=>Up _ e,yQ a _ xs.length,⟨UT _,st⟩,λb hb=>?_,q⟩;have e:b=s1.heap.objs.size:=by simpa using hb
 subst e;exact I1.LB (Uo _) (I1.hok.fresh (Uo _))
end
end L2
namespace L3
open PySem PySem.Spec PyProof.Rows L2
section
variable {X:Cx}{e tg:Expr}{te:ba}{p pos:Pos}
def A_{K:Vo}{H0:Hp}{a:Addr}{xs:List PV}{n:Nat}(hn:n=xs.length):iC K H0 (HA K a n) ⟨xs.reverse,λS'=>S' a=some (.lst xs)⟩:=by
 intro i S H g rS hk;subst hn;obtain⟨vs,hv,rs⟩:=rS a _ hk;have hl:=rs.length;refine⟨λp hp=>?_,λhi=>by show xs.length<=i;rw[hi,Wg];exact Uo _⟩;have hi:i < xs.length:=by
  have:=(UH.mp hp).1
  rwa [Wg]at this
 rw[XG hi]at hp;obtain⟨v,hx,rv⟩:=rs.get hp;refine⟨⟨vs,v,SqL.of hv,hl,hi,hx⟩,λx H' ⟨e,h⟩=>?_⟩;subst e;have:=h vs (SqL.of hv);rw[hx]at this;cases this;exact⟨rv,rS,.refl⟩
def yR(te:ba):ul:=λσ S R E=>te σ S (λv S1=>match v with
 | .ref a=>(match S1 a with|some (.lst xs)=>R ⟨xs.reverse,λS'=>S' a=some (.lst xs)⟩ S1|_=>False)
 |_=>False) E
def F5(hs:starEach [e] X.env=[(false,eval e X.env)])(hg:Gl X "reversed")(hm:X.mg "reversed" = none)(he:bw X e te):wx X tg (.Call (.Name "reversed" p) [e] [] pos) (yR te):=
 ⟨iP (DN hg hm he.ok hs) λσ H R ⟨σ3,S,R3,E3,rσ,rS,h,xo,k⟩=>⟨σ3,S,_,E3,rσ,rS,h,xo,λv S1 v' H1 h1 rv IZ g1=>by
  split at h1
  .cases rv
   split at h1
   .rename_i ea;obtain⟨vs,hv,rs⟩:=IZ _ _ ea;exact⟨_,_,rfl,SqL.of hv,k _ S1 _ H1 h1 (A_ rs.length) IZ g1⟩
   .exact h1.elim
  .exact h1.elim⟩⟩
end
end L3
namespace L2
open PySem PySem.Spec PyProof.Rows
section
variable {X:Cx}
def wG(hc:X.calm=true):eR X (.builtin "max") (λxs H Q=>∃(p:Addr)(ns:Vu),xs=[.ref p]/\SqL X.K H p (ns.map V.int)/\0 < ns.length/\∀M,M∈ns->(∀a∈ns,a<=M)->Q (.int M) H):=by
 intro pins s σ H xs us Q I r h;obtain⟨p,ns,rfl,hp,hn,q⟩:=h;obtain⟨u,rfl,rx⟩:=eA r;cases rx;obtain⟨its,rv,pl,hz⟩:=I.list hp;have hi:IntsAre its ns:=t4 rv;obtain⟨xs,e⟩:=hi.allInts.items;have hns:ns=xs.toList.map (·.1):=by rw[<-hi.numsOf,<-nums_intItems,<-e]
 have hsz:0 < xs.size:=by have h3:=hn;rw[hns,Ul,V1]at h3;exact h3
 have hl:=pl.isList;rw[e]at hl;refine max_intList (I.ok.hd hc) hl hsz λv h' tk hv hk=>?_;obtain⟨t,rfl⟩:=intItems_at hv;obtain⟨h1,h2⟩:=argBest_gt (numAt xs) (xs.size - 1);refine⟨.int _,H,(I.kept (t':=tk) (h':=h') hk),⟨_,rfl⟩,q _ ?_ λa ha=>?_⟩
 .rw[hns,numAt_eq];exact getD_mem (by rw[Ul,V1];omega)
 .rw[hns]at ha;obtain⟨j,hj,rfl⟩:=mem_getD ha;rw[Ul,V1]at hj;rw[<-numAt_eq];exact h2 j (by omega)
end
end L2
namespace L3
open PySem L2
section
variable {X:Cx}
def vn:rW:=λps S Q=>match ps with
 |[.ref a]=>(match S a with|some (.lst xs)=>(match j7 xs with|some ns=>0 < ns.length/\∀M,M∈ns->(∀a∈ns,a<=M)->Q (.int M) S|none=>False)|_=>False)
 |_=>False
def DO(hc:X.calm=true):fD X (.builtin "max") vn:=⟨λpins s σ H xs us Q I r ⟨ps,S,Q3,rp,rS,q,k⟩=>by
 unfold vn at q
 split at q
 .cases rp with
  |cons a rr=>
   cases rr;cases a
   split at q
   .rename_i e
    split at q
    .rename_i eb;obtain⟨vs,hv,rs⟩:=rS _ _ e;have e2:=pQ rs eb;subst e2;exact wG hc pins s σ H _ us Q I r ⟨_,_,rfl,SqL.of hv,q.1,λM h1 h2=>k _ S _ H (q.2 M h1 h2) (.int _) rS .refl⟩
    .exact q.elim
   .exact q.elim
 .exact q.elim⟩
end
end L3
namespace Sa
open PySem PyProof.Rows
end Sa
namespace L2
open PySem PySem.Spec PyProof.Rows
end L2
namespace L3
open PySem L2
end L3
namespace L2
open PySem PySem.Spec PyProof.Rows
end L2
namespace L3
open PySem L2
theorem sD:∀{a b:List Char},a.map Char.toNat=b.map Char.toNat->a=b
 |[],[],_=>rfl
 |[],_::_,h=>by simp at h
 |_::_,[],h=>by simp at h
 |x::a,y::b,h=>by
  simp only[UA,List.cons.injEq]at h;rw[sD h.2,Char.toNat_inj.mp h.1]
def av{a b:String}:(Str.ofString a=Str.ofString b)↔a=b:=by
 refine⟨λh=>?_,λh=>by rw[h]⟩;rw[Str.ofString_eq_toList,Str.ofString_eq_toList]at h;have h':a.toList.map Char.toNat=b.toList.map Char.toNat:=by
  have:=Vf (λs:Str=>s.cps.toList) h
  simpa using this
 exact String.toList_inj.mp (sD h')
def sS{a b:String}:((Sum.inr (Str.ofString a):bN)=Sum.inr (Str.ofString b))↔a=b:=by
 rw[Sum.inr.injEq,av]
def sE{i j:Int}(h1:-(2 ^ 64) < i)(h2:i < 2 ^ 64):IntMulOk i j:=(show Og i j from .inl ⟨h1,h2⟩).ok
def mS{i j:Int}(h1:-(2 ^ 64) < j)(h2:j < 2 ^ 64):IntMulOk i j:=(show Og i j from .inr ⟨h1,h2⟩).ok
def jP{i j:Int}(h:0<=j):i.fmod j=i % j:=Int.fmod_eq_emod_of_nonneg i h
def B9{i j:Int}(h:0<=j):i.fdiv j=i / j:=Int.fdiv_eq_ediv_of_nonneg i h
def DP{i j:Int}(h:0 < j)(h2:j < 2 ^ 64):pH i j:=⟨by omega,Yq (show j.natAbs < 2 ^ 64 by omega) (Nat.pow_lt_pow_right (by decide) (by decide))⟩
def JF(d l:Addr)(S S':aA):Prop:=∀a o,S a=some o->a≠d->a≠l->S' a=some o
def JF.refl{d l:Addr}{S:aA}:JF d l S S:=λ_ _ h _ _=>h
def JF.trans{d l:Addr}{S S1 S2:aA}(a:JF d l S S1)(b:JF d l S1 S2):JF d l S S2:=λx o h h1 h2=>b x o (a x o h h1 h2) h1 h2
def JF.upd{d l:Addr}{S:aA}{o:SO}:JF d l S (II S d o):=λx u h h1 h2=>by rw[ar h1];exact h
def JF.Tt{d l:Addr}{S:aA}{o:SO}:JF d l S (II S l o):=λx u h h1 h2=>by rw[ar h2];exact h
def JF.new{d l p:Addr}{S:aA}{o:SO}(h:S p=none):JF d l S (II S p o):=λx u hx h1 h2=>by rw[ar (λe=>by rw[e,h]at hx;cases hx)];exact hx
end L3
local macro_rules | `(tactic| walk_at "x")=>`(tactic| ((try dsimp only [L3.ai,L3.ap,L3.aw,L3.bg,L3.bm,L3.aO,L3.af,L3.v3,L3.c3,L3.lk,L3.am,L3.ak,L3.ad,L3.jp,L3.aG,L3.eU,L3.iy,L3.cI,L3.cw,L3.oR,L3.mI,L3.ss,L3.fT,L3.ww,L3.nL,L3.aD,L3.bf,L3.mQ,L3.d5,L3.aa,L3.gy,L3.cW,L3.vd,L3.tN,L3.ug,L3.cA,L3.iz,L3.bd,L3.iR,L3.iD,L3.uo,L3.lO,L3.EQ,L3.m6,L3.FW,L3.aS,L3.BY,L3.aR,L3.b_,L3.bx,L3.wv,L3.iB,L3.eW,L3.aW,L3.jZ,L3.lL,List.set_cons_zero,List.set_cons_succ,List.set_nil,L3.vg,L3.d6,L3.sv,L3.aJ,L3.aL,L3.bW,L3.bS,L3.eY,L3.Tg.put,L3.Tg.IL,L3.sw,L3.nP,L3.j4,L3.sy,L3.iQ,L3.eX,L3.wC,L3.cp,L3.bT,List.reduceReplicate,List.map_cons,List.map_nil,List.cons_append,List.nil_append]); (try simp only [L3.ai,L3.ap,L3.aw,L3.bg,L3.bm,L3.aO,L3.af,L3.v3,L3.c3,L3.lk,L3.am,L3.ak,L3.ad,L3.jp,L3.aG,L3.eU,L3.iy,L3.cI,L3.cw,L3.oR,L3.mI,L3.ss,L3.fT,L3.ww,L3.nL,L3.aD,L3.bf,L3.mQ,L3.d5,L3.aa,L3.gy,L3.cW,L3.vd,L3.tN,L3.ug,L3.cA,L3.iz,L3.bd,L3.iR,L3.iD,L3.uo,L3.lO,L3.EQ,L3.m6,L3.FW,L3.aS,L3.BY,L3.aR,L3.b_,L3.bx,L3.wv,L3.iB,L3.eW,L3.aW,L3.jZ,L3.lL,List.set_cons_zero,List.set_cons_succ,List.set_nil,L3.vg,L3.d6,L3.sv,L3.aJ,L3.aL,L3.bW,L3.bS,L3.eY,L3.Tg.put,L3.Tg.IL,L3.sw,L3.nP,L3.j4,L3.sy,L3.iQ,L3.eX,L3.wC,L3.cp,L3.bT,List.reduceReplicate,UA,U4,List.cons_append,List.nil_append])))
namespace C
open PySem L2 L3
noncomputable def cH(seed number:Int)(l:Addr):List (bN×PV):=[(Sum.inr "seed",.int seed),(Sum.inr "number",.int number),(Sum.inr "left",.ref l)]
structure Mh(S:aA)(d l:Addr)(seed number:Int)(left:Vu):Prop where
 d:S d=some (.dct (cH seed number l))
 l:S l=some (.lst (left.map PV.int))
 s0:0<=seed
 s1:seed < 2147483647
 nm:0<=number
 lf:∀x∈left,0<=x
 ln:left.length<=100
def IR(S:aA)(d l:Addr):Prop:=∃seed number left,Mh S d l seed number left
def Mh.ne{S:aA}{d l:Addr}{seed number:Int}{left:Vu}(D:Mh S d l seed number left):d≠l:=λe=>by
 have h:=D.d;rw[e,D.l]at h;cases h
def IR.new{S:aA}{d l p:Addr}{o:SO}(D:IR S d l)(h:S p=none):IR (II S p o) d l:=by
 obtain⟨s,n,f,D⟩:=D;refine⟨s,n,f,?_,?_,D.s0,D.s1,D.nm,D.lf,D.ln⟩
 .rw[ar (λe=>by have:=D.d;rw[e,h]at this;cases this)];exact D.d
 .rw[ar (λe=>by have:=D.l;rw[e,h]at this;cases this)];exact D.l
def IR.upd{S:aA}{d l p:Addr}{o:SO}(D:IR S d l)(h1:p≠d)(h2:p≠l):IR (II S p o) d l:=by
 obtain⟨s,n,f,D⟩:=D;exact⟨s,n,f,by rw[ar h1.symm];exact D.d,by rw[ar h2.symm];exact D.l,D.s0,D.s1,D.nm,D.lf,D.ln⟩
def IR.free{S:aA}{d l p:Addr}(D:IR S d l)(h:S p=none):p≠d/\p≠l:=by
 obtain⟨s,n,f,D⟩:=D;exact⟨(λe=>by have:=D.d;rw[<-e,h]at this;cases this),(λe=>by have:=D.l;rw[<-e,h]at this;cases this)⟩
def nX(s n m:Int)(l:Addr):kK (cH s n l) (Sum.inr "number") (.int m)=cH s m l:=by
 simp[kK,cH,sS,av]
def yS(s n m:Int)(l:Addr):kK (cH s n l) (Sum.inr "seed") (.int m)=cH m n l:=by
 simp[kK,cH,sS,av]
def DQ(s n:Int)(l:Addr):iH (cH s n l) (Sum.inr "seed")=some (.int s):=by simp[iH,cH,sS,av]
def yT(s n:Int)(l:Addr):iH (cH s n l) (Sum.inr "number")=some (.int n):=by simp[iH,cH,sS,av]
def DR(s n:Int)(l:Addr):iH (cH s n l) (Sum.inr "left")=some (.ref l):=by simp[iH,cH,sS,av]
abbrev b8(w:ay):Prop:=∀{S:aA}{d l:Addr}{m:Int}{Q:bB}{E:bR},IR S d l->0 < m->m < 2 ^ 62->(∀r S',0<=r->r < m->IR S' d l->JF d l S S'->Q (.int r) S')->w [.ref d,.int m] S Q E
def IJ:b8 (aT 5 iT):=by
  intro S d l m Q E D h0 h1 k;obtain⟨seed,number,left,D⟩:=D;have hne:=D.ne;have hsz:∀a b,(cH a b l).length < sizeLine:=λ_ _=>gq (by show 3<=1000;decide);have fin:∀num N4 S1,Mh S1 d l seed num N4->JF d l S S1->¬(num=0/\0 < N4.length)->
      (if 0 < num then pH num m/\(cH seed num l).length < sizeLine/\m≠0/\Q (PV.int (num.fmod m)) (II S1 d (SO.dct (cH seed (num.fdiv m) l)))
       else IntMulOk seed 48271/\(2147483647:Int)≠0/\IntMulOk ((seed * 48271+7919).fmod 2147483647) 40692/\(2147483399:Int)≠0/\(cH seed num l).length < sizeLine/\
        IntMulOk (((seed * 48271+7919).fmod 2147483647 * 40692+104729).fmod 2147483399) (((seed * 48271+7919).fmod 2147483647 * 40692+104729).fmod 2147483399)/\(2147483563:Int)≠0/\
        IntMulOk ((seed * 48271+7919).fmod 2147483647) ((seed * 48271+7919).fmod 2147483647)/\(2147483629:Int)≠0/\
        IntMulOk (((seed * 48271+7919).fmod 2147483647 * (seed * 48271+7919).fmod 2147483647).fmod 2147483629) 2147483563/\m≠0/\
        Q (PV.int ((((seed * 48271+7919).fmod 2147483647 * (seed * 48271+7919).fmod 2147483647).fmod 2147483629 * 2147483563+((((seed * 48271+7919).fmod 2147483647 * 40692+104729).fmod 2147483399) * (((seed * 48271+7919).fmod 2147483647 * 40692+104729).fmod 2147483399)).fmod 2147483563).fmod m))
          (II S1 d (SO.dct (cH (((seed * 48271+7919).fmod 2147483647 * 40692+104729).fmod 2147483399) num l)))):=by
    intro num N4 S1 D1 O1 hz
    split
    . rename_i hp
      rw[jP (Wx h0),B9 (Wx h0)];refine⟨DP h0 (by omega),hsz _ _,by omega,k _ _ (Xf _ (by omega)) (WL _ h0) ⟨seed,num / m,N4,ac,by rw[ar hne.symm];exact D1.l,D1.s0,D1.s1,Wu D1.nm (Wx h0),D1.lf,D1.ln⟩ (O1.trans .upd)⟩
    . have e1:∀x:Int,x.fmod 2147483647=x % 2147483647:=λx=>jP (by decide)
      have e2:∀x:Int,x.fmod 2147483399=x % 2147483399:=λx=>jP (by decide);simp only[e1,e2,jP (Wx h0)];have p1:=D1.s0;have p2:=D1.s1;refine⟨mS (by decide) (by decide),by decide,mS (by decide) (by decide),by decide,hsz _ _,sE (by omega) (by omega),by decide,sE (by omega) (by omega),by decide,mS (by decide) (by decide),by omega,
        k _ _ (Xf _ (by omega)) (WL _ h0) ⟨_,num,N4,ac,by rw[ar hne.symm];exact D1.l,by omega,by omega,D1.nm,D1.lf,D1.ln⟩ (O1.trans .upd)⟩
  unfold aT iT;rw[show ax 5 [PV.ref d,PV.int m]=[some (.ref d),some (.int m),none,none,none] from rfl];simp only[ai];refine⟨λn σ S'=>σ=[some (.ref d),some (.int m),none,none,none]/\∃number left,Mh S' d l seed number left/\left.length=n/\JF d l S S',⟨_,rfl,number,left,D,rfl,.refl⟩,?_⟩;rintro n σ S1 ⟨rfl,num,N4,D1,hn,O1⟩;walk_at "x";simp only[D1.d,D1.l,yT,DR,DQ,yS,nX,ac,Uu,Us];have hlen:(List.map PV.int N4).length=N4.length:=Ul ..;rw[hlen]
  split
  . rename_i hz
    subst hz
    split
    . rename_i hl
      refine⟨λσ S'=>σ=[some (.ref d),some (.int m),none,none,none]/\∃number left,Mh S' d l seed number left/\left.length < n/\JF d l S S',?_,?_⟩
      . rintro σ' S' ⟨rfl,a,b,h2,h3,h4⟩
        exact⟨_,h3,rfl,a,b,h2,rfl,h4⟩
      . have hl':0 < N4.length:=by omega
        obtain⟨pre,x,rfl⟩:∃pre x,N4=pre++[x]:=by
          refine⟨N4.dropLast,N4.getLast (by intro e;rw[e]at hl';simp at hl'),(List.dropLast_concat_getLast _).symm⟩
        refine⟨trivial,?_⟩;rw[show(List.map PV.int (pre++[x]))[(pre++[x]).length - 1]?=some (.int x) by simp,show(List.map PV.int (pre++[x])).dropLast=pre.map PV.int by simp];simp only[ar hne,D1.d,nX];refine⟨hsz _ _,trivial,x,pre,⟨ac,by rw[ar hne.symm,ac],D1.s0,D1.s1,D1.lf x (by simp),λy hy=>D1.lf y (by simp[hy]),by have:=D1.ln;simp at this;omega⟩,?_,O1.trans (JF.Tt.trans .upd)⟩;rw[<-hn];simp
    . rename_i hl
      exact fin 0 N4 S1 D1 O1 (λz=>hl (by omega))
  . rename_i hz
    rw[if_neg (by decide)];exact fin num N4 S1 D1 O1 (λz=>hz z.1)
end C
namespace L3
open PySem L2
def Ext(S S':aA):Prop:=∀a o,S a=some o->S' a=some o
def Ext.refl{S:aA}:Ext S S:=λ_ _ h=>h
def Ext.trans{S S1 S2:aA}(a:Ext S S1)(b:Ext S1 S2):Ext S S2:=λx o h=>b x o (a x o h)
def Ext.new{S:aA}{p:Addr}{o:SO}(h:S p=none):Ext S (II S p o):=λx u hx=>by rw[ar (λe=>by rw[e,h]at hx;cases hx)];exact hx
def Ext.free{S S':aA}(e:Ext S S'){p:Addr}(h:S' p=none):S p=none:=by
 cases q:S p with
 |none=>rfl
 |some o=>rw[e p o q]at h;cases h
theorem gY{g:Tg}{tc:kH}{te:ba}{σ':cU}{keep:aA->Prop}{fin:List PV->aA->Prop}{S:aA}(f:PV->PV)(c:PV->Bool)(hk:keep S):∀(items ys:List PV),
  (∀x∈items,∃σ2,g.put x σ'=some σ2/\(∀Q:Bool->aA->Prop,Q (c x) S->tc σ2 S Q fE)/\(c x=true->∀Q:bB,Q (f x) S->te σ2 S Q fE))->ys.length+items.length<=sizeLine->fin (ys++(items.filter c).map f) S->eB g tc te σ' keep fin items ys S
 |[],ys,_,hl,hf=>⟨hk,by simpa using hl,by simpa using hf⟩
 |x::r,ys,h,hl,hf=>by
  obtain⟨σ2,e,h1,h2⟩:=h x (by simp);refine⟨hk,by simp at hl;omega,?_⟩;rw[e];refine h1 _ ?_;cases hc:c x with
  |true=>
   rw[if_pos rfl];refine h2 hc _ (gY f c hk r (ys++[f x]) (λy hy=>h y (by simp[hy])) (by simp at hl ⊢;omega) ?_);rw[XN,hc,if_pos rfl]at hf
   simpa using hf
  |false=>
   rw[if_neg (by decide)];refine gY f c hk r ys (λy hy=>h y (by simp[hy])) (by simp at hl ⊢;omega) ?_;rw[XN,hc,if_neg (by decide)]at hf;exact hf
def wH{g:Tg}{te:ba}{σ':cU}{keep:aA->Prop}{fin:List PV->aA->Prop}{S:aA}(f:PV->PV){items:List PV}(hk:keep S)
  (h:∀x∈items,∃σ2,g.put x σ'=some σ2/\∀Q:bB,Q (f x) S->te σ2 S Q fE) (hl:items.length<=sizeLine) (hf:fin (items.map f) S):eB g bZ te σ' keep fin items [] S:=by
 refine gY f (λ_=>true) hk items [] (λx hx=>?_) (by simpa using hl) (by rw[List.filter_eq_self.mpr (λ_ _=>rfl)];exact hf);obtain⟨σ2,e,k⟩:=h x hx;exact⟨σ2,e,λQ q=>q,λ_=>k⟩
theorem pU{g:Tg}{tc:kH}{te:ba}{σ':cU}{keep:aA->Prop}{fin:List PV->aA->Prop}{items:List PV}(Iv:List PV->List PV->aA->Prop)(hk:∀done ys S,Iv done ys S->keep S/\ys.length<=sizeLine)
  (step:∀done x rest ys S (K:List PV->aA->Prop),items=done++x::rest->Iv done ys S->(∀ys' S',Iv (done++[x]) ys' S'->K ys' S')->match g.put x σ' with
   |some σ2=>tc σ2 S (λb S3=>if b=true then te σ2 S3 (λy S4=>K (ys++[y]) S4) fE else K ys S3) fE
   |none=>False)
  (hf:∀ys S,Iv items ys S->fin ys S):∀(rest done ys:List PV) (S:aA),items=done++rest->Iv done ys S->eB g tc te σ' keep fin rest ys S
 |[],done,ys,S,e,h=>by
  rw[Vd]at e;exact⟨(hk _ _ _ h).1,(hk _ _ _ h).2,hf ys S (e▸h)⟩
 |x::rest,done,ys,S,e,h=>by
  refine⟨(hk _ _ _ h).1,(hk _ _ _ h).2,?_⟩;exact step done x rest ys S (λys' S'=>eB g tc te σ' keep fin rest ys' S') e h λys' S' h'=>pU Iv hk step hf rest (done++[x]) ys' S' (by rw[e];simp) h'
theorem sF{g:Tg}{tb:bv}{D:mH}{keep:aA->Prop}{items:List PV}(Iv:List PV->cU->aA->Prop)(hk:∀done σ S,Iv done σ S->keep S)
  (step:∀done x rest σ S (K:cU->aA->Prop),items=done++x::rest->Iv done σ S->(∀σ' S',Iv (done++[x]) σ' S'->K σ' S')->match g.put x σ with
   |some σ'=>tb { D with nx:=K,ct:=K,bk:=D.nx } σ' S
   |none=>False)
  (hd:∀σ S,Iv items σ S->D.nx σ S):∀(rest done:List PV)(σ:cU)(S:aA),items=done++rest->Iv done σ S->sx g tb D keep rest σ S
 |[],done,σ,S,e,h=>by
  rw[Vd]at e;exact⟨hk _ _ _ h,hd σ S (e▸h)⟩
 |x::rest,done,σ,S,e,h=>
  ⟨hk _ _ _ h,step done x rest σ S (sx g tb D keep rest) e h λσ' S' h'=>sF Iv hk step hd rest (done++[x]) σ' S' (by rw[e];simp) h'⟩
def bp{g:Tg}{tb:bv}{D:mH}{keep:aA->Prop}{items:List PV}{σ:cU}{S:aA}(Iv:List PV->cU->aA->Prop)(h0:Iv [] σ S)(hk:∀done σ S,Iv done σ S->keep S)
  (step:∀done x rest σ S (K:cU->aA->Prop),items=done++x::rest->Iv done σ S->(∀σ' S',Iv (done++[x]) σ' S'->K σ' S')->match g.put x σ with
   |some σ'=>tb { D with nx:=K,ct:=K,bk:=D.nx } σ' S
   |none=>False)
  (hd:∀σ S,Iv items σ S->D.nx σ S):sx g tb D keep items σ S:=sF Iv hk step hd items [] σ S rfl h0
def e_{g:Tg}{tc:kH}{te:ba}{σ':cU}{keep:aA->Prop}{fin:List PV->aA->Prop}{items:List PV}{S:aA}(Iv:List PV->List PV->aA->Prop)(h0:Iv [] [] S)(hk:∀done ys S,Iv done ys S->keep S/\ys.length<=sizeLine)
  (step:∀done x rest ys S (K:List PV->aA->Prop),items=done++x::rest->Iv done ys S->(∀ys' S',Iv (done++[x]) ys' S'->K ys' S')->match g.put x σ' with
   |some σ2=>tc σ2 S (λb S3=>if b=true then te σ2 S3 (λy S4=>K (ys++[y]) S4) fE else K ys S3) fE
   |none=>False)
  (hf:∀ys S,Iv items ys S->fin ys S):eB g tc te σ' keep fin items [] S:=pU Iv hk step hf items [] [] S rfl h0
def al{t u:bv}{D:mH}{σ:cU}{S:aA}(h:∀N:cU->aA->Prop,(∀σ S,u D σ S->N σ S)->t { D with nx:=N } σ S):ai t u D σ S:=h (u D) λ_ _ q=>q
def cY{n:Nat}{b:bv}{args:List PV}{S:aA}{Q:bB}{E:bR}(h:b { nx:=λ_ S'=>Q .non S',rt:=Q,ex:=fE } (ax n args) S):aT n b args S Q E:=h
def yU{α β:Type}(f:α->β)(xs:List α)(lo hi:Option Int):Lh (xs.map f) lo hi=(Lh xs lo hi).map f:=by
 unfold Lh;rw[Ul,XR,List.map_drop]
def yV{α:Type}(xs:List α)(lo hi:Option Int):(Lh xs lo hi).length<=xs.length:=by
 unfold Lh;rw[Vi,VM];omega
def eG{n:Nat}(h:n<=1000):n<=sizeLine:=Xm (gq h)
section
variable {α:Type}{a b c d e:α}{l:List α}
def bG:JU (a::l) 0=some a:=by simp[JU,qi]
def bU:JU (a::b::l) 1=some b:=bj (j:=1) rfl
def kC:JU (a::b::c::l) 2=some c:=bj (j:=2) rfl
def HD:JU (a::b::c::d::l) 3=some d:=bj (j:=3) rfl
def H_:JU (a::b::c::d::e::l) 4=some e:=bj (j:=4) rfl
def DS:JU [a] (-1)=some a:=rfl
def DT:JU [a,b] (-1)=some b:=rfl
def DU:JU [a,b,c] (-1)=some c:=rfl
def DV:JU [a,b,c,d] (-1)=some d:=rfl
def DW:JU [a,b,c,d,e] (-1)=some e:=rfl
def DX:JU [a,b] (-2)=some a:=rfl
def DY:JU [a,b,c] (-2)=some b:=rfl
def DZ:JU [a,b,c,d] (-2)=some c:=rfl
def D8:JU [a,b,c,d,e] (-2)=some d:=rfl
end
def dX(lo:Int)(n:Nat):(bX lo n).length=n:=by simp[bX]
end L3
namespace C
open PySem L2 L3
abbrev sG(w:ay):Prop:=∀{S:aA}{ns:Vu}{b:Int}{Q:bB}{E:bR},ns.length<=63->0<=b->b < 1000->(∀d l S',S d=none->S l=none->IR S' d l->Ext S S'->Q (.ref d) S')->w [.cl (ns.map PV.int),.int b] S Q E
def Nc:sG (aT 5 iS):=by
 intro S ns b Q E hn h0 h1 k;unfold aT iS;rw[show ax 5 [PV.cl (ns.map PV.int),PV.int b]=[some (.cl (ns.map PV.int)),some (.int b),none,none,none] from rfl];walk_at "x";intro p hp;rw[ac];dsimp only;rw[yU];have hx:(Lh ns (some b) (some 63)).length<=63:=UJ (yV _ _ _) hn;generalize Lh ns (some b) (some 63)=xs at hx;refine wH (λv=>match v with | .int i=>.int (if 0 - i > i then 0 - i else i)|v=>v) ac (λx hx=>?_) (eG (by rw[Ul];omega)) ?_
 .obtain⟨i,hi,rfl⟩:=UU.mp hx;refine⟨[some (.int i)],rfl,λQ q=>?_⟩;walk_at "x";exact q
 intro p2 hp2;rw[ac];dsimp only;rw[UQ];have e0:(xs.map ((λv=>match v with | .int i=>.int (if 0 - i > i then 0 - i else i)|v=>v) ∘ PV.int))=(xs.map λi=>if 0 - i > i then 0 - i else i).map PV.int:=by
  rw[UQ];rfl
 rw[e0];have hy:((xs.map λi=>if 0 - i > i then 0 - i else i)).length<=63:=by rw[Ul];exact hx
 have Pl:∀y∈xs.map (λi:Int=>if 0 - i > i then 0 - i else i),0<=y:=by
  intro y hy;obtain⟨i,_,rfl⟩:=UU.mp hy
  split<;>omega
 generalize (xs.map λi=>if 0 - i > i then 0 - i else i)=ys at hy Pl;have h2:p2≠p:=λe=>by rw[e,ac]at hp2;cases hp2
 have hp2':S p2=none:=by rw[<-hp2,ar h2]
 refine bp (λdone σ S'=>S'=II (II S p (.lst (xs.map PV.int))) p2 (.lst (ys.map PV.int))/\∃v2 n,0<=n/\n < 2147483647/\σ=[some (.cl (ns.map PV.int)),some (.int b),v2,some (.ref p2),some (.int n)]) ⟨rfl,none,7919+b,by omega,by omega,rfl⟩ (λdone σ S' h=>by rw[h.1];exact ac) ?_ ?_
 .rintro done x rest σ S' K e ⟨rfl,v2,n,n0,n1,rfl⟩ hK;obtain⟨i,hi,rfl⟩:∃i,i∈ys/\x = .int i:=by
   have:x∈ys.map PV.int:=by rw[e];simp
   obtain⟨i,hi,rfl⟩:=UU.mp this;exact⟨i,hi,rfl⟩
  walk_at "x";refine⟨mS (by decide) (by decide),by decide,by decide,hK _ _ ⟨rfl,_,_,?_,?_,rfl⟩⟩
  .rw[jP (by decide)];omega
  .rw[jP (i:=(n * 48271+_)) (by decide)];omega
 .rintro σ S' ⟨rfl,v2,n,n0,n1,rfl⟩;walk_at "x";intro d hd;have hd2:d≠p2:=λe=>by rw[e,ac]at hd;cases hd
  rw[ar hd2]at hd;have hd1:d≠p:=λe=>by rw[e,ac]at hd;cases hd
  rw[ar hd1]at hd;rw[ar hd2.symm,ac];dsimp only;refine gY (λv=>v) (λv=>match v with | .int i=>decide (10 ^ 18<=i)|_=>false) (by rw[ar hd2.symm,ac]) _ [] (λx hx=>?_) (by rw[Ul];exact eG (by simp;omega)) ?_
  .obtain⟨i,hi,rfl⟩:=UU.mp hx;refine⟨[some (.int i)],rfl,λQ q=>?_,λ_ Q q=>?_⟩
   .walk_at "x";exact⟨⟨by decide,by decide,by decide⟩,q⟩
   .walk_at "x";exact q
  intro p3 hp3;rw[ac];intro l hl;have e3:([]++List.map (λv:PV=>v) (List.filter (λv=>match v with | .int i=>decide (10 ^ 18<=i)|_=>false) (List.map PV.int ys)))=(ys.filter λi=>decide (10 ^ 18<=i)).map PV.int:=by
   rw[UX,List.map_id',List.filter_map]
   rfl
  rw[e3]at hl ⊢;rw[<-List.map_reverse];generalize Sk:II (II (II (II S p (SO.lst (List.map PV.int xs))) p2 (SO.lst (List.map PV.int ys))) d (SO.dct [])) p3 (SO.lst (List.map PV.int (List.filter (λi=>decide (10 ^ 18<=i)) ys)))=S3 at hl ⊢;have Sl:S3 d=some (.dct []):=by rw[<-Sk,ar (λe=>by rw[<-e,ac]at hp3;cases hp3),ac]
  have Sm:l≠d:=λe=>by rw[e,Sl]at hl;cases hl
  have Rw:Ext S S3:=by
   rw[<-Sk];refine(Ext.new hp).trans ((Ext.new hp2).trans ((Ext.new ?_).trans (.new hp3)));rw[ar hd2,ar hd1];exact hd
  refine⟨by rw[ar Sm.symm];exact Sl,?_⟩;have e4:pN [(PV.str "seed",PV.int n),(PV.str "number",PV.int 0),(PV.str "left",PV.ref l)]=some (cH n 0 l):=rfl;rw[e4];have e5:nN [] (cH n 0 l)=cH n 0 l:=by simp[nN,cH,kK,sS,av]
  dsimp only;rw[e5];refine k d l _ hd (Rw.free hl) ⟨n,0,_,ac,by rw[ar Sm,ac],n0,n1,VF _,λy hy=>?_,?_⟩ ?_
  .exact Pl y (W9.mp (List.mem_reverse.mp hy)).1
  .rw[Wg];exact UJ (WO _ _) (by omega)
  .intro a o ha;have had:a≠d:=λe=>by rw[e,hd]at ha;cases ha
   rw[ar had,ar (λe=>by rw[e,Rw.free hl]at ha;cases ha)];exact Rw a o ha
end C
namespace L3
open PySem L2
theorem nY(S:aA):∀zs:List Str,Lg S (zs.map PV.str) (zs.map PyData.str)
 |[]=>.nil
 |z::r=>.cons (.str z) (nY S r)
theorem i4:∀{zs:Vs},(∀z∈zs,PyData.strOk z=true)->PyData.canLayAll0 (zs.map PyData.str)=true
 |[],_=>rfl
 |z::r,h=>by
  show(PyData.canLay0 (.str z)&&PyData.canLayAll0 (r.map PyData.str))=true;rw[i4 λy hy=>h y (by simp[hy])];have:PyData.canLay0 (.str z)=true:=h z (by simp);rw[this];rfl
def nZ(z:Str)(zs:Vs):jM (.str z) (zs.map PyData.str)=decide (z∈zs):=by
 unfold jM;rw[List.any_map,Wt,WZ,decide_eq_true_iff]
 constructor
 .rintro⟨y,hy,e⟩;have e':(y == z)=true:=e;exact(eq_of_beq e')▸hy
 .intro h;exact⟨z,h,beq_self_eq_true z⟩
def eI{neg:Bool}{z:Str}{zs:Vs}{a:Addr}{S:aA}{Q:bB}(hS:S a=some (.lst (zs.map PV.str)))(hz:PyData.strOk z=true)(hzs:∀y∈zs,PyData.strOk y=true)(q:Q (.bl (neg != decide (z∈zs))) S):jN neg (.str z) (.ref a) S Q:=by
 unfold jN;simp only[hS];exact⟨_,_,.str z,nY S zs,hz,i4 hzs,by show 0<=150;decide,by rw[nZ];exact q⟩
def dY{neg:Bool}{z:Str}{zs:Vs}{S:aA}{Q:bB}(hz:PyData.strOk z=true)(hzs:∀y∈zs,PyData.strOk y=true)(q:Q (.bl (neg != decide (z∈zs))) S):jN neg (.str z) (.tup (zs.map PV.str)) S Q:=by
 unfold jN;exact⟨_,_,.str z,nY S zs,hz,i4 hzs,by show 0<=150;decide,by rw[nZ];exact q⟩
end L3
namespace C
open PySem L2 L3 Wd
abbrev kP(w:ay):Prop:=∀{S:aA}{t b:Int}{Q:bB}{E:bR},0 < b->b.natAbs < 2 ^ 8000->Q (.tup [.int (M3.cz t b),.int (M3.bC t b)]) S->w [.int t,.int b] S Q E
def LH:kP (aT 4 j8):=by
 intro S t b Q E hb hs k;unfold aT j8;rw[show ax 4 [PV.int t,PV.int b]=[some (.int t),some (.int b),none,none] from rfl];simp only[ai];walk_at "x";refine⟨λn σ S'=>S'=S/\∃x y:Int,σ=[some (.int t),some (.int b),some (.int x),some (.int y)]/\0<=x/\0<=y/\Int.gcd x y=Int.gcd t b/\y.toNat=n,⟨_,rfl,_,b,rfl,by split<;>omega,by omega,?_,rfl⟩,?_⟩
 .split
  .rw[show(0 - t) = -t by omega,Int.neg_gcd]
  .rfl
 rintro n σ S' ⟨rfl,x,y,rfl,hx,hy,hg,rfl⟩;walk_at "x";simp only[Us]
 split
 .rename_i hp;refine⟨λσ' NH=>NH=S'/\∃x' y':Int,σ'=[some (.int t),some (.int b),some (.int x'),some (.int y')]/\0<=x'/\0<=y'/\Int.gcd x' y'=Int.gcd t b/\y'.toNat < y.toNat,?_,?_⟩
  .rintro σ' NH ⟨rfl,x',y',rfl,h1,h2,h3,h4⟩;exact⟨_,h4,rfl,x',y',rfl,h1,h2,h3,rfl⟩
  .walk_at "x";have e:x.fmod y=x % y:=jP hy;have l1:=Xf x (b:=y) (by omega);have l2:=WL x hp;refine⟨by omega,trivial,y,x.fmod y,rfl,hy,by omega,?_,by omega⟩;rw[M3.sn];exact hg
 .rename_i hp;have Pl:y=0:=by omega
  subst Pl;have Rx:x=(Int.gcd t b:Int):=by
   rw[<-hg];rw[Int.gcd_zero_right];omega
  subst Rx;have gp:(0:Int) < (Int.gcd t b:Int):=Xe.mpr (M3.jo (by omega));have gl:=M3.yi (t:=t) (b:=b) (by omega);have cd:∀z,pH z (Int.gcd t b:Int):=λz=>⟨by omega,WJ (by omega) hs⟩
  refine⟨cd _,cd _,?_⟩;have d1:=(M3.sk (t:=t) (b:=b) (by omega))
  rw[if_neg (by omega)]at d1;rw[d1.1,d1.2];exact k
structure sH(x y:Int):Prop where
 low:M3.GI x y
 x0:0<=x
 x1:x<=999
 y1:y<=9
def jq{n:Nat}(h:n < 2 ^ 64):n < 2 ^ 8000:=Yq h (Nat.pow_lt_pow_right (by decide) (by decide))
abbrev kQ(w:ay):Prop:=∀{S:aA}{d l:Addr}{Q:bB}{E:bR},IR S d l->(∀x y S',sH x y->IR S' d l->JF d l S S'->Q (.tup [.int x,.int y]) S')->w [.ref d] S Q E
def L9{wd wl:ay}(IJ:b8 wd)(LH:kP wl):kQ (aT 2 (iU wd wl)):=by
 intro S d l Q E D k;unfold aT iU;rw[show ax 2 [PV.ref d]=[some (.ref d),none] from rfl];walk_at "x";refine IJ D (by decide) (by decide) λr S1 r0 r1 D1 O1=>?_;simp only[Uu,Us]
 split
 .exact k 0 1 S1 ⟨⟨by decide,by decide⟩,by decide,by decide,by decide⟩ D1 O1
 .split
  .refine IJ D1 (by decide) (by decide) λr2 S2 a0 a1 D2 O2=>?_;exact k _ 1 S2 ⟨⟨by decide,Int.gcd_one_right _⟩,by omega,by omega,by decide⟩ D2 (O1.trans O2)
  .refine IJ D1 (by decide) (by decide) λr2 S2 a0 a1 D2 O2=>IJ D2 (by decide) (by decide) λr3 S3 b0 b1 D3 O3=>?_;refine LH (by omega) (jq (by omega)) ?_;have z:=M3.yk (t:=r2) (b:=1+r3) (T:=999) (B:=9) (by omega) (by omega) (by omega) (by omega) (by omega) (by decide) (by decide);refine k _ _ S3 ⟨M3.qz (by omega),?_,z.2.1,z.2.2.2⟩ D3 (O1.trans (O2.trans O3));unfold M3.cz;rw[if_neg (by omega)];exact Wu a0 (by omega)
def wI{r:Int}(h0:0<=r)(h1:r < 26):∃c,JU abc.cps.toList r=some c/\97<=c/\c<=122:=by
 obtain⟨n,rfl⟩:=VQ h0;have q:=qy n;rw[Nat.mod_eq_of_lt (by omega)]at q;exact⟨_,q,by omega,by omega⟩
def lU{z:Str}(h:M8 z):PyData.strOk z=true:=by
 unfold PyData.strOk;rw[Array.all_eq_true'];intro c hc;have:=h.sm c (by simpa using hc);simp;omega
def Ba:∀z∈Kf,PyData.strOk z=true:=by decide +kernel
theorem lV:∀zs:List Str,texts (zs.map PV.str)=some zs
 |[]=>rfl
 |z::r=>by show(texts (r.map PV.str)).map (z::·)=_;rw[lV r];rfl
def wJ:("":Str).length=0:=by decide +kernel
def pV{cs:List Nat}(h:cs.length<=1000):((cs.map lG).map (·.length)).sum+(cs.map lG).length * ("":Str).length<=1000000:=by
 rw[AC,wJ];omega
def n5{w__law_draw:ay}(IJ:b8 w__law_draw){S:aA}{d l:Addr}{σ:cU}{n:Int}{fin:List PV->aA->Prop}(D:IR S d l)(hn:n.toNat<=100)(h1:lk σ 1=some (.ref d))(h2:lk σ 2=some (.str abc))(hσ:∃x,σ=[x,some (.ref d),some (.str abc)])
  (k:∀(cs:List Nat) S',cs.length=n.toNat->(∀c∈cs,97<=c/\c<=122)->IR S' d l->JF d l S S'->fin ((cs.map lG).map PV.str) S') :
  eB (Tg.n 0) bZ (af aa (v3 2) (ad w__law_draw [v3 1,c3 (.int 26)])) σ (λ_=>True) fin (bX 0 n.toNat) [] S:=by
 obtain⟨x0,rfl⟩:=hσ;refine e_ (λdone ys S'=>∃cs:List Nat,ys=(cs.map lG).map PV.str/\cs.length=done.length/\done.length<=n.toNat/\(∀c∈cs,97<=c/\c<=122)/\IR S' d l/\JF d l S S') ⟨[],rfl,rfl,UT _,by simp,D,.refl⟩ ?_ ?_ ?_
 .rintro done ys S' ⟨cs,rfl,e,hd,_⟩;exact⟨trivial,eG (by rw[Ul,Ul,e];omega)⟩
 .rintro done x rest ys S' K e ⟨cs,rfl,e2,hd,hc,D',O'⟩ hK;have hlen:done.length+1<=n.toNat:=by
   have:=Vf List.length e;rw[dX,Um,UE]at this;omega
  walk_at "x";simp only[bZ,U6];refine IJ D' (by decide) (by decide) λr S2 r0 r1 D2 O2=>⟨mY.1,?_⟩
  obtain⟨c,ec,c0,c1⟩:=wI r0 r1;rw[ec];refine hK _ _ ⟨cs++[c],by simp,by simp[e2],by simpa using hlen,λy hy=>?_,D2,O'.trans O2⟩;rcases Ur.mp hy with hy|hy
  .exact hc y hy
  .rw[Uy.mp hy];exact⟨c0,c1⟩
 .rintro ys S' ⟨cs,rfl,e,hd,hc,D',O'⟩;exact k cs S' (by rw[e,dX]) hc D' O'
theorem sI{f:Str->List Nat}(r:List Nat):∀xs:List Str,(xs.map f).Nodup->(xs.filter λz=>f z == r).length<=1
 |[],_=>UT _
 |x::xs,h=>by
  rw[UA,VE]at h;rw[XN];by_cases e:(f x == r)=true
  .rw[if_pos e];have no:(xs.filter λz=>f z == r)=[]:=by
    refine Xx.mpr λz hz q=>h.1 ?_;rw[eq_of_beq e,<-eq_of_beq q];exact UU.mpr ⟨z,hz,rfl⟩
   rw[no];exact Uo _
  .rw[if_neg e];exact sI r xs h.2
def yW(r:List Nat):(Kf.filter λz=>z.cps.toList.tail == r).length<=1:=sI (f:=λz=>z.cps.toList.tail) r Kf (by decide +kernel)
def uv(r:List Nat)(c:Nat)(ns:Vs)(h:ns.length < 17):∃j,j < 26/\cand r (c+j) ∉ Kf++ns:=by
 obtain⟨j,hj,free⟩:=wq r c ((Kf.filter λz=>z.cps.toList.tail == r)++ns) (by rw[Um];have:=yW r;omega);refine⟨j,hj,λhm=>free ?_⟩;rcases Ur.mp hm with q|q
 .exact UY _ (W9.mpr ⟨q,by simp[cand]⟩)
 .exact UI _ q
abbrev gC(w:ay):Prop:=∀{S:aA}{d l:Addr}{m:Int}{Q:bB}{E:bR},IR S d l->0<=m->m<=17->(∀p (ns:Vs) S',ns.length=m.toNat->ns.Nodup->(∀z∈ns,M8 z/\z ∉ Kf)->S p=none->p≠d->p≠l->S' p=some (.lst (ns.map PV.str))->IR S' d l->JF d l S S'->Q (.ref p) S')->w [.ref d,.int m] S Q E
def Kj{wd:ay}(IJ:b8 wd):gC (aT 11 (gR wd)):=by
 intro S d l m Q E D h0 h1 k;unfold gR;refine cY ?_;rw[show ax 11 [PV.ref d,PV.int m]=[some (.ref d),some (.int m),none,none,none,none,none,none,none,none,none] from rfl];walk_at "3";walk_at "x";walk_at "0";walk_at "x";intro pT hT;have dT:=D.free hT;have D0:IR (II S pT (.lst (Kf.map PV.str))) d l:=D.new hT;have QL:(II S pT (.lst (Kf.map PV.str))) pT=some (.lst (Kf.map PV.str)):=ac;have O0:JF d l S (II S pT (.lst (Kf.map PV.str))):=.new hT;have eK:[PV.str "jars",PV.str "deed",PV.str "rest",PV.str "pay",PV.str "put",PV.str "then",PV.str "either",PV.str "take",PV.str "often",PV.str "use"]=Kf.map PV.str:=rfl;rw[eK];generalize II S pT (.lst (Kf.map PV.str))=S0 at D0 QL O0 ⊢;walk_at "0";walk_at "x";refine⟨trivial,IJ D0 (by decide) (by decide) λn S1 n0 n1 D1 O1=>⟨by omega,by omega,?_⟩⟩;refine n5 IJ D1 (by omega) rfl rfl ⟨_,rfl⟩ λcs S2 hl hc D2 O2 pj hj=>?_;simp only[pK,ac,lV];refine⟨pV (by omega),?_⟩;rw[show Txt.join (Str.ofString "") (cs.map lG)=⟨cs.toArray⟩from nF cs];walk_at "0";walk_at "x";have hcl:cs.length<=5:=by omega
 have lc:(⟨cs.toArray⟩:Str).length=cs.length:=Uw;refine⟨by rw[lc];exact eG (by omega),IJ (D2.new hj) (by rw[lc];omega) (by rw[lc];omega) λat' S3 a0 a1 D3 O3=>IJ D3 (by decide) (by decide) λtu S4 t0 t1 D4 O4=>IJ D4 (by decide) (by decide) λnr S5 r0 r1 D5 O5=>?_⟩;rw[lc]at a1;obtain⟨an,rfl⟩:=VQ a0;obtain⟨tn,rfl⟩:=VQ t0;walk_at "0";walk_at "x";intro q hq;have dq:=D5.free hq;have OA:JF d l S0 S5:=O1.trans (O2.trans ((JF.new hj).trans (O3.trans (O4.trans O5))));have Ry:=OA _ _ QL dT.1 dT.2;have Sn:pT≠q:=λe=>by rw[e,hq]at Ry;cases Ry
 have So:S q=none:=by
  cases e:S q with
  |none=>rfl
  |some o=>rw[OA _ _ (O0 _ _ e dq.1 dq.2) dq.1 dq.2]at hq;cases hq
 walk_at "0";simp only[bS,iQ,v3,lk];refine⟨by omega,by omega,?_⟩;refine bp (λdone σ S'=>∃(ns:Vs) (v4 v10:Option PV) (near:Bool),σ=[some (.ref d),some (.int m),some (.str abc),some (.ref pT),v4,some (.str ⟨cs.toArray⟩),some (.int an),some (.int tn),some (.bl near),some (.ref q),v10]/\ns.length=done.length/\ns.Nodup/\(∀z∈ns,M8 z/\z ∉ Kf)/\S' q=some (.lst (ns.map PV.str))/\S' pT=some (.lst (Kf.map PV.str))/\IR S' d l/\JF d l S S')
  ⟨[],_,_,_,rfl,rfl,Yk,(λz hz=>nomatch hz),ac,by rw[ar Sn];exact Ry,D5.new hq,O0.trans (OA.trans (.new hq))⟩ (λ_ _ _ _=>trivial) ?_ ?_
 .rintro done x rest σ S6 K e ⟨ns,v4,v10,near,rfl,Rz,RA,w6,QM,RB,D6,O6⟩ hK;have hlen:done.length < m.toNat:=by
   have:=Vf List.length e;rw[dX,Um,UE]at this;omega
  have hx:x = .int (0+(done.length:Nat)):=by
   have h2:=Vf (λl=>l[done.length]?) e;simp only[Vg (Uo _),Nat.sub_self,List.getElem?_cons_zero]at h2;unfold bX at h2;rw[Ut,Yh hlen]at h2
   simpa using h2.symm
  subst hx
  -- the tail: a word is changed Tu it is new,then laid down
  have ql:∀(z:Str)(v4:Option PV)(S7:aA),M8 z->S7 q=some (.lst (ns.map PV.str))->S7 pT=some (.lst (Kf.map PV.str))->IR S7 d l->JF d l S S7->
    ai (j3 (iy (aG (af (jN false) (v3 10) (v3 3))) (aG (af (jN false) (v3 10) (v3 9)))) (ap 10 (af aR (af aa (v3 2) (af iR (af aR (jp "str" lM (v3 2) [(af aa (v3 10) (c3 (.int 0)))]) (c3 (.int 1))) (c3 (.int 26)))) (cW (v3 10) (tN (c3 (.int 1))) vd))))
     (bg (jp "list" cp (v3 9) [(v3 10)])) { nx:=K,rt:=Q,ex:=fE,bk:=N,ct:=K } [some (.ref d),some (.int m),some (.str abc),some (.ref pT),v4,some (.str ⟨cs.toArray⟩),some (.int an),some (.int tn),some (.bl near),some (.ref q),some (.str z)] S7:=by
   intro z v4 S7 hz Sr Ss D7 O7;obtain⟨i,r,rfl,hi,Tv,hrs⟩:=hz.cand;obtain⟨j,hj,free⟩:=uv r i ns (by omega);refine⟨λmm σ S'=>∃t,σ=[some (.ref d),some (.int m),some (.str abc),some (.ref pT),v4,some (.str ⟨cs.toArray⟩),some (.int an),some (.int tn),some (.bl near),some (.ref q),some (.str (cand r (i+t)))]/\S'=S7/\t<=j/\mm=j - t,⟨j,0,rfl,rfl,UT _,rfl⟩,?_⟩;rintro mm σ S' ⟨t,rfl,rfl,ht,rfl⟩;have hw:=yh Tv hrs (i+t);have RC:∀y∈ns,PyData.strOk y=true:=λy hy=>lU (w6 y hy).1;have go:t < j->∃N:cU->aA->Prop,(∀σ' NH,N σ' NH->∃m',m' < j - t/\∃t',σ'=[some (.ref d),some (.int m),some (.str abc),some (.ref pT),v4,some (.str ⟨cs.toArray⟩),some (.int an),some (.int tn),some (.bl near),some (.ref q),some (.str (cand r (i+t')))]/\NH=S'/\t'<=j/\m'=j - t')/\
     N ([some (.ref d),some (.int m),some (.str abc),some (.ref pT),v4,some (.str ⟨cs.toArray⟩),some (.int an),some (.int tn),some (.bl near),some (.ref q),some (.str (cand r (i+(t+1))))]) S':=λlt=>
    ⟨λσ' NH=>σ'=[some (.ref d),some (.int m),some (.str abc),some (.ref pT),v4,some (.str ⟨cs.toArray⟩),some (.int an),some (.int tn),some (.bl near),some (.ref q),some (.str (cand r (i+(t+1))))]/\NH=S',λσ' NH ⟨e1,e2⟩=>⟨j - (t+1),by omega,t+1,e1,e2,by omega,rfl⟩,rfl,rfl⟩
   have QN:((((i+t) % 26:Nat):Int)+1).fmod 26=(((i+t+1) % 26:Nat):Int):=by rw[jP (by decide)];omega
   walk_at "x";refine eI Ss (lU hw) Ba ?_;simp only[Uu,Us]
   split
   .rename_i g;have lt:t < j:=Nat.lt_of_le_of_ne ht λe=>by subst e;exact free (UY _ g)
    obtain⟨N,hN,hn⟩:=go lt;rw[if_pos trivial];refine⟨N,hN,trivial,hw.line,?_⟩;rw[pF];simp only[lM,yf _ (Nat.mod_lt _ (by decide))];refine⟨by decide,mY.1,?_⟩;rw[QN,qy (i+t+1)];refine⟨hw.line,?_,?_⟩
    .rw[jm];exact eG (show 1+r.toArray.size<=1000 by rw[Uw];omega)
    .rw[jm,pG];exact hn
   .rename_i g;refine eI Sr (lU hw) RC ?_;simp only[Uu,Us]
    split
    .rename_i g2;have lt:t < j:=Nat.lt_of_le_of_ne ht λe=>by subst e;exact free (UI _ g2)
     obtain⟨N,hN,hn⟩:=go lt;refine⟨N,hN,trivial,hw.line,?_⟩;rw[pF];simp only[lM,yf _ (Nat.mod_lt _ (by decide))];refine⟨by decide,mY.1,?_⟩;rw[QN,qy (i+t+1)];refine⟨hw.line,?_,?_⟩
     .rw[jm];exact eG (show 1+r.toArray.size<=1000 by rw[Uw];omega)
     .rw[jm,pG];exact hn
    .rename_i g2;simp only[Sr];refine⟨trivial,by rw[Ul];exact gq (by omega),hK _ _ ⟨ns++[cand r (i+t)],_,_,_,rfl,by simp[Rz],Xy.mpr ⟨RA,by simp,λa ha b hb e=>?_⟩,λz hz=>?_,by rw[U8];exact ac,by rw[ar Sn];exact Ss,D7.upd dq.1 dq.2,λa o ha h1 h2=>?_⟩⟩
     .rw[Uy.mp hb]at e;exact g2 (e▸ha)
     .rcases Ur.mp hz with hz|hz
      .exact w6 z hz
      .rw[Uy.mp hz];exact⟨hw,g⟩
     .rw[ar (λe=>by rw[e,So]at ha;cases ha)];exact O7 a o ha h1 h2
  obtain⟨pw,Tw,pl2⟩:=AD hcl hc (a:=an) (i:=(tn+done.length) % 26) (by omega) (Nat.mod_lt _ (by decide));have QN:((tn:Int)+(0+(done.length:Int))).fmod 26=(((tn+done.length) % 26:Nat):Int):=by rw[jP (by decide)];omega
  have Su:(⟨cs.toArray⟩:Str).length<=sizeLine:=by rw[lc];exact eG (by omega)
  simp only[Tg.put];refine al λN2 JV=>?_;walk_at "x";refine⟨Su,by decide,mY.1,?_⟩;rw[QN,qy (tn+done.length)];refine⟨UJ (Nat.add_le_add Tw (Uo 1)) (by decide),Su,UJ (Yr (Array.size_append).symm) (UJ pw.len (by decide)),?_⟩;refine JV _ _ (al λN3 N6=>?_);walk_at "x"
  split
  .refine⟨trivial,IJ D6 (by decide) (by decide) λn2 Sa m0 m1 Da Oa=>⟨by omega,by omega,?_⟩⟩;refine n5 IJ Da (by omega) rfl rfl ⟨_,rfl⟩ λNM Sb hl2 hc2 Db Ob Tx hj2=>?_;simp only[pK,ac,lV];refine⟨pV (by omega),?_⟩;rw[show Txt.join (Str.ofString "") (NM.map lG)=⟨NM.toArray⟩from nF NM];refine N6 _ _ ?_;have wz:M8 (⟨NM.toArray⟩:Str):=⟨λe=>by have e':NM=[]:=e;rw[e']at hl2;simp at hl2;omega,by show NM.length<=6;omega,hc2⟩
   have OB:JF d l S6 (II Sb Tx (.lst ((NM.map lG).map PV.str))):=Oa.trans (Ob.trans (.new hj2));exact ql _ _ _ wz (OB _ _ QM dq.1 dq.2) (OB _ _ RB dT.1 dT.2) (Db.new hj2) (O6.trans OB)
  .exact N6 _ _ (ql _ _ S6 pw QM RB D6 O6)
 .rintro σ S6 ⟨ns,v4,v10,near,rfl,Rz,RA,w6,QM,RB,D6,O6⟩;refine hN _ _ ?_;walk_at "x";exact k q ns S6 (by rw[Rz,dX]) RA w6 So dq.1 dq.2 QM D6 O6
inductive Bd where
 |rest|pay (x y:Int)|put (z:Str) (m:Int)|use (z:Str)|IU (a:Bd)|IK (a b:Bd)|IY (a b:Bd)|IV (z:Str) (m:Int) (a b:Bd)
noncomputable def Bd.pv:Bd->PV
 | .rest=>.tup [.str "rest"]
 | .pay x y=>.tup [.str "pay",.tup [.int x,.int y]]
 | .put z m=>.tup [.str "put",.str z,.int m]
 | .use z=>.tup [.str "use",.str z]
 | .IU a=>.tup [.str "often",a.pv]
 | .IK a b=>.tup [.str "then",a.pv,b.pv]
 | .IY a b=>.tup [.str "either",a.pv,b.pv]
 | .IV z m a b=>.tup [.str "take",.str z,.int m,a.pv,b.pv]
noncomputable def Bd.dep:Bd->Nat
 | .IU a=>a.dep+1
 | .IK a b=>max a.dep b.dep+1
 | .IY a b=>max a.dep b.dep+1
 | .IV _ _ a b=>max a.dep b.dep+1
 |_=>1
noncomputable def Bd.size:Bd->Nat
 | .IU a=>a.size+1
 | .IK a b=>a.size+b.size+1
 | .IY a b=>a.size+b.size+1
 | .IV _ _ a b=>a.size+b.size+1
 |_=>1
noncomputable def Bd.good(js us:Vs):Bd->Prop
 | .rest=>True
 | .pay x y=>sH x y
 | .put z m=>z∈js/\1<=m/\m<=9
 | .use z=>z∈us
 | .IU a=>a.good js us
 | .IK a b=>a.good js us/\b.good js us
 | .IY a b=>a.good js us/\b.good js us
 | .IV z m a b=>z∈js/\1<=m/\m<=9/\a.good js us/\b.good js us
def Bd.Jf(t:Bd):1<=t.dep:=by cases t<;>simp[Bd.dep]
def gZ{α:Type}{xs:List α}{r:Int}(h0:0<=r)(h1:r < xs.length):∃v,JU xs r=some v/\v∈xs:=by
 obtain⟨n,rfl⟩:=VQ h0;have hn:n < xs.length:=by omega
 exact⟨xs[n],bj (by simp[hn]),V7 hn⟩
noncomputable def Bd.leaf:Bd->Prop
 | .rest=>True
 | .pay _ _=>True
 | .put _ _=>True
 |_=>False
def Bd.Js{t:Bd}(h:t.leaf):t.dep=1/\t.size=1:=by cases t<;>first|exact⟨rfl,rfl⟩|exact h.elim
abbrev kR(w:ay):Prop:=∀{S:aA}{d l:Addr}{js:Vs}{Q:bB}{E:bR},IR S d l->js.length < 2 ^ 61->(∀(t:Bd) S',t.leaf->t.good js []->IR S' d l->JF d l S S'->Q t.pv S')->w [.ref d,.tup (js.map PV.str)] S Q E
def JT{wd wc:ay}(IJ:b8 wd)(L9:kQ wc):kR (aT 4 (dW wd wc)):=by
 intro S d l js Q E D hj k;unfold dW;refine cY ?_;rw[show ax 4 [PV.ref d,PV.tup (js.map PV.str)]=[some (.ref d),some (.tup (js.map PV.str)),none,none] from rfl];walk_at "3";walk_at "x";refine IJ D (by decide) (by decide) λr S1 r0 r1 D1 O1=>?_;walk_at "0";walk_at "x";simp only[Uu,Us]
 split
 .exact k .rest S1 trivial trivial D1 O1
 walk_at "0";walk_at "x";simp only[Uu,Us,Ul];have pay:wc [.ref d] S1 (λx S=>Q (.tup [.str "pay",x]) S) fE:=L9 D1 λx y S2 c D2 O2=>k (.pay x y) S2 trivial c D2 (O1.trans O2)
 split
 .rw[if_pos trivial];exact pay
 split
 .exact pay
 rename_i hr hz;walk_at "0";walk_at "x";refine IJ D1 (by decide) (by decide) λr2 S2 a0 a1 D2 O2 p hp=>IJ (D2.new hp) (by decide) (by decide) λr3 S3 b0 b1 D3 O3=>?_;have dp:=D2.free hp;have hp3:=O3 _ _ (ac (S:=S2) (o:=.lst [.int 1,.int 2,.int (1+r2)])) dp.1 dp.2;simp only[hp3];obtain⟨v,hv,hm⟩:=gZ (xs:=[PV.int 1,.int 2,.int (1+r2)]) b0 (by simpa using b1);rw[hv];obtain⟨m,rfl,m0,m1⟩:∃m,v = .int m/\1<=m/\m<=9:=by
  simp only[Uv,UK,Vp]at hm;rcases hm with rfl|rfl|rfl
  .exact⟨1,rfl,by omega,by omega⟩
  .exact⟨2,rfl,by omega,by omega⟩
  .exact⟨1+r2,rfl,by omega,by omega⟩
 refine hN _ _ ?_;walk_at "x";simp only[Ul];refine IJ D3 (by omega) (by omega) λr4 S4 c0 c1 D4 O4=>?_;obtain⟨w,hw,RD⟩:=gZ (xs:=js.map PV.str) c0 (by rw[Ul];exact c1);dsimp only;rw[hw];obtain⟨z,hz,rfl⟩:=UU.mp RD;exact k (.put z m) S4 trivial ⟨hz,m0,m1⟩ D4 (O1.trans (O2.trans ((JF.new hp).trans (O3.trans O4))))
def LJ(d l x:Addr)(S S':aA):Prop:=∀a o,S a=some o->a≠d->a≠l->a≠x->S' a=some o
theorem _root_.L3.JF.x{d l x:Addr}{S S':aA}(h:JF d l S S'):LJ d l x S S':=λa o e h1 h2 _=>h a o e h1 h2
def LJ.trans{d l x:Addr}{S S1 S2:aA}(a:LJ d l x S S1)(b:LJ d l x S1 S2):LJ d l x S S2:=λy o h h1 h2 h3=>b y o (a y o h h1 h2 h3) h1 h2 h3
def LJ.upd{d l x:Addr}{S:aA}{o:SO}:LJ d l x S (II S x o):=λy u h h1 h2 h3=>by rw[ar h3];exact h
abbrev i5(n:Nat)(w:ay):Prop:=∀{S:aA}{d l x:Addr}{js:Vs}{left down:Int}{Q:bB}{E:bR},IR S d l->S x=some (.lst [.int left])->x≠d->x≠l->js.length < 2 ^ 61->0<=left->left < 2 ^ 61->0<=down->down < n->
  (∀(t:Bd) S' left',t.good js []->(t.dep:Int)<=down+1->0<=left'->(t.size:Int)+left'<=left+1->IR S' d l->S' x=some (.lst [.int left'])->LJ d l x S S'->Q t.pv S')->w [.ref d,.tup (js.map PV.str),.ref x,.int down] S Q E
def L_{wd wl rb:ay}(IJ:b8 wd)(JT:kR wl)(n:Nat)(ih:i5 n rb):i5 (n+1) (aT 8 (iV wd wl rb)):=by
 intro S d l x js left down Q E D hx hxd Nd hj h0 h1 h2 h3 k;unfold iV;refine cY ?_;rw[show ax 8 [PV.ref d,PV.tup (js.map PV.str),PV.ref x,PV.int down]=[some (.ref d),some (.tup (js.map PV.str)),some (.ref x),some (.int down),none,none,none,none] from rfl];walk_at "3";walk_at "x";refine IJ D (by decide) (by decide) λr S1 r0 r1 D1 O1=>?_;have Qj:=O1 _ _ hx hxd Nd;walk_at "0";walk_at "x";have a0:JU [PV.int left] 0=some (.int left):=rfl;simp only[Uu,Us,Qj,a0];have lf:wl [.ref d,.tup (js.map PV.str)] S1 Q fE:=JT D1 hj λt S2 hl hg D2 O2=>k t S2 left hg (by rw[(Bd.Js hl).1];omega) h0 (by rw[(Bd.Js hl).2];omega) D2 (O2 _ _ Qj hxd Nd) (O1.x.trans O2.x)
 split
 .rw[if_pos trivial];exact lf
 split
 .rw[if_pos trivial];exact lf
 split
 .exact lf
 rename_i hd hl hf;walk_at "0";simp only[bm,aG,af,v3,c3,lk,lO,cA,Us];have Sv:qi [PV.int left].length 0=some 0:=rfl
 split
 .refine al λN2 JV=>?_;walk_at "x";simp only[Qj,a0,Sv];refine JV _ _ ?_;walk_at "x";refine ih (left:=left - 1) (D1.upd hxd Nd) ac hxd Nd hj (by omega) (by omega) (by omega) (by omega) λt S2 l2 hg Qk q0 q1 D2 RE O2=>?_;exact k (.IU t) S2 l2 hg (by simp only[Bd.dep];omega) q0 (by simp only[Bd.size];omega) D2 RE (O1.x.trans (LJ.upd.trans O2))
 .walk_at "0";walk_at "x";simp only[Qj,a0,Sv];walk_at "0";walk_at "x";refine ih (left:=left - 2) (D1.upd hxd Nd) ac hxd Nd hj (by omega) (by omega) (by omega) (by omega) λta S2 l2 ga da q0 q1 D2 RE O2=>?_;walk_at "0";walk_at "x";refine ih (left:=l2) D2 RE hxd Nd hj q0 (by omega) (by omega) (by omega) λtb S3 l3 gb db p0 p1 D3 RF O3=>?_;have OA:LJ d l x S S3:=O1.x.trans (LJ.upd.trans (O2.trans O3));walk_at "0";walk_at "x";simp only[Us]
  split
  .exact k (.IK ta tb) S3 l3 ⟨ga,gb⟩ (by simp only[Bd.dep];omega) p0 (by simp only[Bd.size];omega) D3 RF OA
  walk_at "0";walk_at "x";simp only[Uu,Us,Ul];have ei:Q (Bd.IY ta tb).pv S3:=k (.IY ta tb) S3 l3 ⟨ga,gb⟩ (by simp only[Bd.dep];omega) p0 (by simp only[Bd.size];omega) D3 RF OA
  split
  .rw[if_pos trivial];exact ei
  split
  .exact ei
  rename_i hz8 hz;walk_at "0";walk_at "x";refine IJ D3 (by decide) (by decide) λr2 S4 e0 e1 D4 O4 p hp=>IJ (D4.new hp) (by decide) (by decide) λr3 S5 b0 b1 D5 O5=>?_;have dp:=D4.free hp;have hp3:=O5 _ _ (ac (S:=S4) (o:=.lst [.int 1,.int 1,.int 2,.int (1+r2)])) dp.1 dp.2;simp only[hp3];obtain⟨v,hv,hm⟩:=gZ (xs:=[PV.int 1,.int 1,.int 2,.int (1+r2)]) b0 (by simpa using b1);rw[hv];obtain⟨m,rfl,m0,m1⟩:∃m,v = .int m/\1<=m/\m<=9:=by
   simp only[Uv,UK,Vp]at hm;rcases hm with rfl|rfl|rfl|rfl
   .exact⟨1,rfl,by omega,by omega⟩
   .exact⟨1,rfl,by omega,by omega⟩
   .exact⟨2,rfl,by omega,by omega⟩
   .exact⟨1+r2,rfl,by omega,by omega⟩
  refine hN _ _ ?_;walk_at "x";simp only[Ul];refine IJ D5 (by omega) (by omega) λr4 S6 c0 c1 D6 O6=>?_;obtain⟨w,hw,RD⟩:=gZ (xs:=js.map PV.str) c0 (by rw[Ul];exact c1);dsimp only;rw[hw];obtain⟨z,hz,rfl⟩:=UU.mp RD;have RG:=O4 _ _ RF hxd Nd;have Tz:x≠p:=λe=>by rw[e,hp]at RG;cases RG
  have TB:=O6 _ _ (O5 _ _ (show II S4 p _ x=some (.lst [.int l3]) by rw[ar Tz];exact RG) hxd Nd) hxd Nd;exact k (.IV z m ta tb) S6 l3 ⟨hz,m0,m1,ga,gb⟩ (by simp only[Bd.dep];omega) p0 (by simp only[Bd.size];omega) D6 TB (OA.trans (O4.x.trans ((JF.new hp).x.trans (O5.x.trans O6.x))))
end C
local macro_rules | `(tactic| walk_at "w")=>`(tactic| simp only [L3.ai,L3.ap,L3.aw,L3.bg,L3.bm,L3.aO,L3.af,L3.v3,L3.c3,L3.lk,L3.am,L3.ak,L3.ad,L3.jp,L3.aG,L3.eU,L3.iy,L3.cI,L3.cw,L3.oR,L3.mI,L3.ss,L3.fT,L3.ww,L3.nL,L3.aD,L3.bf,L3.mQ,L3.d5,L3.aa,L3.gy,L3.cW,L3.vd,L3.tN,L3.ug,L3.cA,L3.iz,L3.bd,L3.iR,L3.iD,L3.uo,L3.lO,L3.EQ,L3.m6,L3.FW,L3.aS,L3.BY,L3.aR,L3.b_,L3.bx,L3.wv,L3.iB,L3.eW,L3.aW,L3.jZ,L3.lL,List.set_cons_zero,List.set_cons_succ,List.set_nil,L3.vg,L3.d6,L3.sv,L3.aJ,L3.aL,L3.bW,L3.bS,L3.eY,L3.Tg.put,L3.Tg.IL,L3.sw,L3.nP,L3.j4,L3.sy,L3.iQ,L3.eX,L3.wC,L3.cp,L3.bT,List.reduceReplicate,UA,U4,List.cons_append,List.nil_append,L3.bG,L3.bU,L3.kC,L3.HD,L3.H_,L3.DS,L3.DT,L3.DU,L3.DV,L3.DW,L3.DX,L3.DY,L3.DZ,L3.D8,L3.av,String.reduceEq,Vt,WM,Uu,VT,U3,VZ,U6,UZ,UB,reduceIte,ite_true,ite_false])
local macro_rules | `(tactic| walk_at "y")=>`(tactic| ((try walk_at "x"); (try walk_at "w")))
namespace C
open PySem L2 L3 Wd
noncomputable def Bd.IM:Bd->Nat
 | .IK a b=>a.IM * b.IM
 | .IY a b=>a.IM+b.IM
 | .IV _ _ a b=>a.IM+b.IM
 |_=>1
noncomputable def Bd.IS:Bd->Nat
 | .IU a=>a.IM+a.IS
 | .IK a b=>a.IS+b.IS
 | .IY a b=>a.IS+b.IS
 | .IV _ _ a b=>a.IS+b.IS
 |_=>0
def Bd.size_pos(t:Bd):1<=t.size:=by cases t<;>simp[Bd.size]
theorem Bd.JN:∀t:Bd,t.IM<=2 ^ t.size
 | .rest=>by simp[Bd.IM,Bd.size]
 | .pay _ _=>by simp[Bd.IM,Bd.size]
 | .put _ _=>by simp[Bd.IM,Bd.size]
 | .use _=>by simp[Bd.IM,Bd.size]
 | .IU a=>by simp only[Bd.IM,Bd.size];exact Nat.one_le_two_pow
 | .IK a b=>by
  simp only[Bd.IM,Bd.size];refine UJ (Nat.mul_le_mul a.JN b.JN) ?_;rw[<-Nat.pow_add];exact VB (by decide) (by omega)
 | .IY a b=>by
  simp only[Bd.IM,Bd.size];have h1:2 ^ a.size<=2 ^ (a.size+b.size):=VB (by decide) (by omega);have h2:2 ^ b.size<=2 ^ (a.size+b.size):=VB (by decide) (by omega);have:=a.JN;have:=b.JN;rw[Nat.pow_succ];omega
 | .IV _ _ a b=>by
  simp only[Bd.IM,Bd.size];have h1:2 ^ a.size<=2 ^ (a.size+b.size):=VB (by decide) (by omega);have h2:2 ^ b.size<=2 ^ (a.size+b.size):=VB (by decide) (by omega);have:=a.JN;have:=b.JN;rw[Nat.pow_succ];omega
def Bd.Oj{t:Bd}(h:t.size<=60):(t.IM:Int) < 2 ^ 64:=by
 have h1:=t.JN;have h2:2 ^ t.size<=2 ^ 60:=VB (by decide) h;omega
abbrev dL(n:Nat)(w:ay):Prop:=∀{S:aA}{t:Bd}{Q:bB}{E:bR},t.dep<=n->t.size<=60->Q (.int t.IM) S->w [t.pv] S Q E
def wK{s0:ay}(n:Nat)(ih:dL n s0):dL (n+1) (aT 1 (dA s0)):=by
 intro S t Q E hd hs k;unfold dA;refine cY ?_;rw[show ax 1 [t.pv]=[some t.pv] from rfl];cases t with
 |IK a b=>
  simp only[Bd.dep,Bd.size]at hd hs;simp only[Bd.pv];walk_at "w";refine ih (by omega) (by omega) (ih (by omega) (by omega) ⟨sE (by omega) (Bd.Oj (by omega)),?_⟩)
  simpa [Bd.IM]using k
 |IY a b=>
  simp only[Bd.dep,Bd.size]at hd hs;simp only[Bd.pv];walk_at "w";refine ih (by omega) (by omega) (ih (by omega) (by omega) ?_)
  simpa [Bd.IM]using k
 |IV z m a b=>
  simp only[Bd.dep,Bd.size]at hd hs;simp only[Bd.pv];walk_at "w";refine ih (by omega) (by omega) (ih (by omega) (by omega) ?_)
  simpa [Bd.IM]using k
 |_=>
  simp only[Bd.pv];walk_at "w";exact k
abbrev g7(n:Nat)(w:ay):Prop:=∀{S:aA}{t:Bd}{Q:bB}{E:bR},t.dep<=n->t.size<=60->Q (.int t.IS) S->w [t.pv] S Q E
def i7:∀y∈(["then","either","take"]:Vs),PyData.strOk y=true:=by decide +kernel
def kS:∀y∈(["rest","pay","put","use","often","then","either","take"]:Vs),PyData.strOk y=true:=by decide +kernel
def wL{x0 s0:ay}(n m:Nat)(hp:dL m x0)(ih:g7 n s0)(hnm:n<=m):g7 (n+1) (aT 1 (cX x0 s0)):=by
 intro S t Q E hd hs k;unfold cX;refine cY ?_;rw[show ax 1 [t.pv]=[some t.pv] from rfl];have e3:[PV.str "then",PV.str "either",PV.str "take"]=(["then","either","take"]:Vs).map PV.str:=rfl;cases t with
 |IU a=>
  simp only[Bd.dep,Bd.size]at hd hs;simp only[Bd.pv];walk_at "y";refine hp (by omega) (by omega) (ih (by omega) (by omega) ?_)
  simpa [Bd.IS]using k
 |IK a b=>
  simp only[Bd.dep,Bd.size]at hd hs;simp only[Bd.pv];walk_at "y";rw[e3];refine dY (kS _ (by simp)) i7 ?_;simp[av];refine ih (by omega) (by omega) (ih (by omega) (by omega) ?_)
  simpa [Bd.IS]using k
 |IY a b=>
  simp only[Bd.dep,Bd.size]at hd hs;simp only[Bd.pv];walk_at "y";rw[e3];refine dY (kS _ (by simp)) i7 ?_;simp[av];refine ih (by omega) (by omega) (ih (by omega) (by omega) ?_)
  simpa [Bd.IS]using k
 |IV z m a b=>
  simp only[Bd.dep,Bd.size]at hd hs;simp only[Bd.pv];walk_at "y";rw[e3];refine dY (kS _ (by simp)) i7 ?_;simp[av];refine ih (by omega) (by omega) (ih (by omega) (by omega) ?_)
  simpa [Bd.IS]using k
 |_=>
  simp only[Bd.pv];walk_at "y";rw[e3];refine dY (kS _ (by simp)) i7 ?_;simp[av]
  simpa [Bd.IS]using k
abbrev g_(w:ay):Prop:=∀{S:aA}{d l:Addr}{js:Vs}{size bound:Int}{Q:bB}{E:bR},IR S d l->js.length < 2 ^ 61->1<=size->size<=60->
  (∀(t:Bd) S',t.good js []->t.dep<=6->t.size<=60->(t.size:Int)<=max size 4->((t.IM:Int)+t.IS<=bound\/(t.IM:Int)+t.IS<=2)->IR S' d l->JF d l S S'->Q t.pv S')->w [.ref d,.tup (js.map PV.str),.int size,.int bound] S Q E
def qM{x0 x1 x2 x3:ay}(n:Nat)(hn:6<=n)(L_:i5 n x0)(Ql:dL n x1)(Qm:g7 n x2)(JT:kR x3):g_ (aT 5 (dI x0 x1 x2 x3)):=by
 intro S d l js size bound Q E D hj h1 h2 k;unfold dI;refine cY ?_;rw[show ax 5 [PV.ref d,PV.tup (js.map PV.str),PV.int size,PV.int bound]=[some (.ref d),some (.tup (js.map PV.str)),some (.int size),some (.int bound),none] from rfl];walk_at "3";walk_at "x";intro p hp;have dp:=D.free hp;refine L_ (D.new hp) ac dp.1 dp.2 hj (by omega) (by omega) (by decide) (by omega) λt S1 l1 hg hd q0 q1 D1 Qj O1=>?_;have Sw:JF d l S S1:=λa o ha h1 h2=>O1 a o (by rw[ar (λe=>by rw[e,hp]at ha;cases ha)];exact ha) h1 h2 (λe=>by rw[e,hp]at ha;cases ha);walk_at "0";simp only[bm,aG,af,ad,am,v3,lk,List.set_cons_zero,List.set_cons_succ,m6,aR,cA];refine Ql (by omega) (by omega) (Qm (by omega) (by omega) ?_);simp only[Us]
 split
 .walk_at "x";refine JT D1 hj λt2 S2 hl2 Qh D2 O2=>JT D2 hj λt3 S3 hl3 TC D3 O3=>?_;refine hN _ _ ?_;walk_at "x";have e2:=Bd.Js hl2;have e3:=Bd.Js hl3;refine k (.IK (.IU t2) t3) S3 ⟨Qh,TC⟩ (by simp only[Bd.dep];omega) (by simp only[Bd.size];omega) (by simp only[Bd.size];omega) (.inr ?_) D3 (Sw.trans (O2.trans O3));have c2:t2.IM=1/\t2.IS=0:=by cases t2<;>first|exact⟨rfl,rfl⟩|exact hl2.elim
  have c3:t3.IM=1/\t3.IS=0:=by cases t3<;>first|exact⟨rfl,rfl⟩|exact hl3.elim
  simp only[Bd.IM,Bd.IS,c2,c3]
  decide
 .rename_i hb;walk_at "x";refine hN _ _ ?_;walk_at "x";exact k t S1 hg (by omega) (by omega) (by omega) (.inl (by omega)) D1 Sw
noncomputable def fX(p:Str×Bd):PV:=.tup [.str p.1,p.2.pv]
noncomputable def bV(js:Vs)(ds:List (Str×Bd)):PV:=.tup [.tup (js.map PV.str),.tup (ds.map fX)]
structure F6(js:Vs)(us:Vs)(ds:List (Str×Bd)):Prop where
 jl:js.length<=16
 dl:ds.length<=16
 jw:∀z∈js,M8 z
 uw:∀z∈us,M8 z
 dw:∀p∈ds,M8 p.1
 gd:∀p∈ds,p.2.good js us
 dp:∀p∈ds,p.2.dep<=60
 sz:∀p∈ds,p.2.size<=60
def IR.ext{S S':aA}{d l:Addr}(D:IR S d l)(e:Ext S S'):IR S' d l:=by
 obtain⟨s,n,f,D⟩:=D;exact⟨s,n,f,e _ _ D.d,e _ _ D.l,D.s0,D.s1,D.nm,D.lf,D.ln⟩
def _root_.L3.JF.free{d l p:Addr}{S S':aA}(O:JF d l S S')(h:S' p=none)(h1:p≠d)(h2:p≠l):S p=none:=by
 cases e:S p with
 |none=>rfl
 |some o=>rw[O p o e h1 h2]at h;cases h
def _root_.L3.JF.put{d l p:Addr}{S S':aA}{o:SO}(O:JF d l S S')(h:S p=none):JF d l S (II S' p o):=λx u hx h1 h2=>by rw[ar (λe=>by rw[e,h]at hx;cases hx)];exact O x u hx h1 h2
def _root_.L3.Ext.put{p:Addr}{S S':aA}{o:SO}(O:Ext S S')(h:S p=none):Ext S (II S' p o):=λx u hx=>by rw[ar (λe=>by rw[e,h]at hx;cases hx)];exact O x u hx
def ux{α:Type}{xs:List α}{n:Nat}(h:n<=xs.length):Lh xs none (some (n:Int))=xs.take n:=by
 unfold Lh;rw[HT.xM,HT.Ak,List.drop_zero,Nat.min_eq_left h]
 rfl
def qN{x:PV}{n:Nat}{a b:List PV}(e:bX 0 n=a++x::b):x = .int a.length/\a.length < n:=by
 have h1:(bX 0 n)[a.length]?=some x:=by rw[e];simp
 unfold bX at h1;rw[Ut]at h1;have hl:a.length < n:=by
  have:=Vf List.length e;rw[dX,Um,UE]at this;omega
 rw[Yh hl]at h1;simp at h1;exact⟨h1.symm,hl⟩
def qO{α:Type}{xs:List α}{n:Nat}{v:α}(h:xs[n]?=some v):JU xs (n:Int)=some v:=bj h
noncomputable def Bd.sides:Bd->List Bd
 | .IU a=>[a]
 | .IK a b=>[a,b]
 | .IY a b=>[a,b]
 | .IV _ _ a b=>[a,b]
 |_=>[]
noncomputable def Bd.parts:Bd->List Bd
 | .IU a=>.IU a::a.parts
 | .IK a b=>.IK a b::(a.parts++b.parts)
 | .IY a b=>.IY a b::(a.parts++b.parts)
 | .IV z m a b=>.IV z m a b::(a.parts++b.parts)
 |t=>[t]
def Bd.NA(t:Bd):t.parts=t::t.sides.flatMap Bd.parts:=by cases t<;>simp[Bd.parts,Bd.sides]
theorem Bd.Jj:∀t:Bd,t.parts.length=t.size
 | .rest=>rfl
 | .pay _ _=>rfl
 | .put _ _=>rfl
 | .use _=>rfl
 | .IU a=>by simp only[Bd.parts,Bd.size,List.length_cons,a.Jj]
 | .IK a b=>by simp only[Bd.parts,Bd.size,List.length_cons,Um,a.Jj,b.Jj]
 | .IY a b=>by simp only[Bd.parts,Bd.size,List.length_cons,Um,a.Jj,b.Jj]
 | .IV _ _ a b=>by simp only[Bd.parts,Bd.size,List.length_cons,Um,a.Jj,b.Jj]
def Bd.NB{t u:Bd}(h:u∈t.sides):u.dep < t.dep/\u.size < t.size:=by
 cases t<;>simp[Bd.sides]at h
 .subst h;simp[Bd.dep,Bd.size]
 all_goals (rcases h with rfl|rfl<;>simp only[Bd.dep,Bd.size]<;>omega)
abbrev jr(w:ay):Prop:=∀{S:aA}{t:Bd}{Q:bB}{E:bR},Q (.tup (t.sides.map Bd.pv)) S->w [t.pv] S Q E
def Lk:jr (aT 1 j9):=by
 intro S t Q E k;unfold j9;refine cY ?_;rw[show ax 1 [t.pv]=[some t.pv] from rfl];cases t<;>(unfold Bd.pv;walk_at "y"; simp only[vh,af,v3,lk,c3,aa,bG,gy,ak,am,bx,k_SIDES_FROM,List.find?,sS,String.reduceEq,Vt,WM,Option.map,Option.getD];exact k)
abbrev fH(n:Nat)(w:ay):Prop:=∀{S:aA}{t:Bd}{Q:bB}{E:bR},t.dep<=n->t.size<=900->(∀p S',S p=none->Ext S S'->S' p=some (.lst (t.parts.map Bd.pv))->Q (.ref p) S')->w [t.pv] S Q E
def MG{xs s0:ay}(Lk:jr xs)(n:Nat)(ih:fH n s0):fH (n+1) (aT 3 (j_ xs s0)):=by
 intro S t Q E hd hs k;unfold j_;refine cY ?_;rw[show ax 3 [t.pv]=[some t.pv,none,none] from rfl];walk_at "3";walk_at "x";intro p hp;have X0:Ext S (II S p (.lst [t.pv])):=.new hp;have hp0:(II S p (.lst [t.pv])) p=some (.lst [t.pv]):=ac;generalize II S p (.lst [t.pv])=S0 at X0 hp0;walk_at "0";simp only[bS,aL,ad,am,v3,lk];refine Lk ?_;simp only[bW];refine bp (λdone σ S'=>∃(ts:List Bd) (x:Option PV) (rs:List Bd),done=ts.map Bd.pv/\t.sides=ts++rs/\σ=[some t.pv,some (.ref p),x]/\Ext S S'/\S' p=some (.lst ((t::ts.flatMap Bd.parts).map Bd.pv))) ⟨[],_,t.sides,rfl,rfl,rfl,X0,hp0⟩ (λ_ _ _ _=>trivial) ?_ ?_
 .rintro done x rest σ S1 K e ⟨ts,y,rs,rfl,es,rfl,X1,h1⟩ hK;rw[es,U8]at e;have e2:=List.append_cancel_left e;rcases rs with _|⟨r,rs⟩
  .cases e2
  rw[UA,List.cons.injEq]at e2;obtain⟨rfl,e3⟩:=e2;have hr:r∈t.sides:=by rw[es];simp
  have hrd:=Bd.NB hr;walk_at "x";refine⟨by rw[h1];trivial,ih (t:=r) (by omega) (by omega) λq S2 hq X2 h2=>?_⟩;simp only[X2 _ _ h1,h2];have hlen:(t::ts.flatMap Bd.parts).length+r.parts.length<=t.size:=by
   rw[<-Bd.Jj t,Bd.NA t,es,VN,Wz];simp only[List.length_cons,Um];omega
  refine⟨eG (by simp only[Ul]at *;omega),?_⟩;refine hK _ _ ⟨ts++[r],_,rs,by simp,by rw[es];simp,rfl,(X1.trans X2).put hp,?_⟩;rw[ac,VN];simp
 .rintro σ S1 ⟨ts,y,rs,e,es,rfl,X1,h1⟩;refine hN _ _ ?_;walk_at "x";have ez:rs=[]:=by
   have:=Vf List.length e;rw[es]at this;simp at this;exact this
  subst ez;rw[Vd]at es;rw[<-es,<-Bd.NA]at h1;exact k p S1 hp X1 h1
noncomputable def heads:List Str:=["rest","pay","put","use","often","then","either","take"]
def wM:∀z∈heads,PyData.strOk z=true:=by decide +kernel
structure Lz(n:Nat)(js us:Vs)(ds:List (Str×Bd)):Prop extends F6 js us ds where
 jn:js.Nodup
 dn:(ds.map Prod.fst).Nodup
 dq:∀p∈ds,p.2.dep<=n
def i8{xs:List PV}{x:PV}{a b:List PV}(e:L3.aU xs=a++x::b):∃y,x = .tup [.int a.length,y]/\xs[a.length]?=some y:=by
 have h1:(L3.aU xs)[a.length]?=some x:=by rw[e];simp
 unfold L3.aU at h1;rw[WX]at h1;cases h:xs[a.length]? with
 |none=>rw[h]at h1;cases h1
 |some y=>
  rw[h]at h1;simp only[Option.map_some,Xr]at h1;exact⟨y,h1.symm,rfl⟩
inductive KP(L:Nat):Nat->PV->Prop
 |int {n:Nat} (i:Int):KP L n (.int i)
 |tup {n:Nat} {xs:List PV}:xs.length<=L->(∀x∈xs,KP L n x)->KP L (n+1) (.tup xs)
def KP.mono{L M n m:Nat}{v:PV}(h:KP L n v)(hL:L<=M):n<=m->KP M m v:=by
 induction h generalizing m with
 |int i=>exact λ_=>.int i
 |@tup n xs hl _ ih=>
  intro hm;cases m with
  |zero=>omega
  |succ m=>exact .tup (UJ hl hL) λx hx=>ih x hx (by omega)
theorem vo{S:aA}:∀{xs:List PV},(∀x∈xs,∃d,Dat S x d/\d.canLay0=true)->∃ds,Lg S xs ds/\PyData.canLayAll0 ds=true/\ds.length=xs.length
 |[],_=>⟨[],.nil,by simp[PyData.canLayAll0],rfl⟩
 |x::r,h=>by
  obtain⟨d,hd,hc⟩:=h x (by simp);obtain⟨ds,hds,hcs,hl⟩:=vo λy hy=>h y (VG _ hy);exact⟨d::ds,.cons hd hds,by simp[PyData.canLayAll0,hc,hcs],by simp[hl]⟩
inductive OQ(L:Nat):Nat->PV->Prop
 |int {n:Nat} (i:Int):OQ L n (.int i)
 |str {n:Nat} {z:Str}:PyData.strOk z=true->OQ L n (.str z)
 |tup {n:Nat} {xs:List PV}:xs.length<=L->(∀x∈xs,OQ L n x)->OQ L (n+1) (.tup xs)
def KP.x{L n:Nat}{v:PV}(h:KP L n v):OQ L n v:=by
 induction h with
 |int i=>exact .int i
 |tup hl _ ih=>exact .tup hl ih
def OQ.dat{L n:Nat}{v:PV}{S:aA}(h:OQ L n v):∃d,Dat S v d/\d.canLay0=true:=by
 induction h with
 |int i=>exact⟨_,.int i,by simp[PyData.canLay0]⟩
 |str h=>exact⟨_,.str _,by simpa [PyData.canLay0]using h⟩
 |tup _ _ ih=>
  obtain⟨ds,hds,hcs,_⟩:=vo ih;exact⟨_,.tup hds,by simpa [PyData.canLay0]using hcs⟩
def OQ.eq_nil{L n:Nat}{xs:List PV}{S:aA}{Q:bB}(h:OQ L n (.tup xs))(q:Q (.bl (decide (xs=[]))) S):aS false (.tup xs) (.tup []) S Q:=by
 unfold aS;obtain⟨d,hd,hc⟩:=h.dat (S:=S);refine⟨d,.tuple [],hd,.tup .nil,hc,by simp[PyData.canLay0,PyData.canLayAll0],UJ (Nat.min_le_right _ _) (by simp[PyData.depth,PyData.depthAll]),?_⟩;cases hd with
 |tup hs=>
  cases hs with
  |nil=>simpa [PyData.eqv,PyData.eqvAll]using q
  |cons _ _=>simpa [PyData.eqv,PyData.eqvAll]using q
noncomputable def aX:Bd->PV->Bool
 | .IU a,.tup gs=>gs.all λg=>match g with | .tup [.int m,tr]=>decide (1<=m)&&aX a tr|_=>false
 | .IK a b,.tup [x,y]=>aX a x&&aX b y
 | .IY a b,.tup [.int i,y]=>if i=0 then aX a y else if i=1 then aX b y else false
 | .IV _ _ a b,.tup [.int i,y]=>if i=0 then aX a y else if i=1 then aX b y else false
 | .rest,.tup []=>true
 | .pay _ _,.tup []=>true
 | .put _ _,.tup []=>true
 | .use _,.tup []=>true
 |_,_=>false
noncomputable def kT(a:Bd):PV->Bool
 | .tup [.int m,tr]=>decide (1<=m)&&aX a tr
 |_=>false
def i9(a b:Bd)(x y:PV):aX (.IK a b) (.tup [x,y])=(aX a x&&aX b y):=rfl
def kU(a b:Bd)(i:Int)(y:PV):aX (.IY a b) (.tup [.int i,y])=if i=0 then aX a y else if i=1 then aX b y else false:=rfl
def kW(z:Str)(m:Int)(a b:Bd)(i:Int)(y:PV):aX (.IV z m a b) (.tup [.int i,y])=if i=0 then aX a y else if i=1 then aX b y else false:=rfl
def kX(a:Bd)(gs:List PV):aX (.IU a) (.tup gs)=gs.all (kT a):=rfl
section
variable {S:aA}{Q:bB}{i:Int}{xs:List PV}{b:Bool}
def D_:kJ [.int i,.ty "int"] S Q=Q (.bl true) S:=by simp[kJ,AQ,su,cN]
def Ea:kJ [.int i,.ty "bool"] S Q=Q (.bl false) S:=by simp[kJ,AQ,su,cN]
def lW:kJ [.tup xs,.ty "tuple"] S Q=Q (.bl true) S:=by simp[kJ,AQ,su,cN]
end
abbrev n_(w:ay):Prop:=∀{S:aA}{a b:Bd}{hd:List PV}{i:Int}{y:PV}{Q:bB}{E:bR},(i=0\/i=1)->hd.length<=3->Q (if i=0 then a.pv else b.pv) S->w [.tup (hd++[a.pv,b.pv]),.tup [.int i,y]] S Q E
def Mi:n_ (aT 2 nR):=by
 intro S a b hd i y Q E hi hl k;unfold nR;refine cY ?_;rw[show ax 2 [PV.tup (hd++[a.pv,b.pv]),PV.tup [.int i,y]]=[some (.tup (hd++[a.pv,b.pv])),some (.tup [.int i,y])] from rfl];walk_at "y";have e:JU (hd++[a.pv,b.pv]) (-2+i)=some (if i=0 then a.pv else b.pv):=by
  unfold JU qi;rcases hi with rfl|rfl
  .rw[if_neg (by omega),if_pos (by simp;omega)];have:(-2+0+((hd++[a.pv,b.pv]).length:Int)).toNat=hd.length:=by simp;omega
   rw[this,if_pos rfl];show(hd++[a.pv,b.pv])[hd.length]?=some a.pv;simp
  .rw[if_neg (by omega),if_pos (by simp;omega)];have:(-2+1+((hd++[a.pv,b.pv]).length:Int)).toNat=hd.length+1:=by simp;omega
   rw[this,if_neg (by decide)];show(hd++[a.pv,b.pv])[hd.length+1]?=some b.pv;simp
 rw[e];exact k
def uy{xs:List PV}(h:xs.length=2):∃x y,xs=[x,y]:=by
 match xs,h with
 |[x,y],_=>exact⟨x,y,rfl⟩
def qP{a b:Bd}{xs:List PV}(h:xs.length≠2):aX (.IK a b) (.tup xs)=false:=by
 match xs,h with
 |[],_=>rfl
 |[_],_=>rfl
 |[_,_],h=>exact absurd rfl h
 |_::_::_::_,_=>rfl
def qQ{a b:Bd}{xs:List PV}(h:xs.length≠2):aX (.IY a b) (.tup xs)=false:=by
 match xs,h with
 |[],_=>rfl
 |[x],_=>cases x<;>rfl
 |[_,_],h=>exact absurd rfl h
 |x::_::_::_,_=>cases x<;>rfl
def qR{z:Str}{m:Int}{a b:Bd}{xs:List PV}(h:xs.length≠2):aX (.IV z m a b) (.tup xs)=false:=by
 match xs,h with
 |[],_=>rfl
 |[x],_=>cases x<;>rfl
 |[_,_],h=>exact absurd rfl h
 |x::_::_::_,_=>cases x<;>rfl
def kY(t:Bd)(z:Str):aX t (.str z)=false:=by cases t<;>rfl
def kZ(t:Bd)(i:Int):aX t (.int i)=false:=by cases t<;>rfl
noncomputable def Bd.plain:Bd->Bool
 | .rest=>true
 | .pay _ _=>true
 | .put _ _=>true
 | .use _=>true
 |_=>false
def oa{t:Bd}(h:t.plain=true)(xs:List PV):aX t (.tup xs)=decide (xs=[]):=by
 cases t<;>simp[Bd.plain]at h<;>(cases xs with
  |nil=>show true=_;simp
  |cons=>show false=_;simp)
noncomputable def Bd.hd:Bd->Str
 | .rest=>"rest" | .pay _ _=>"pay" | .put _ _=>"put" | .use _=>"use" | .IU _=>"often" | .IK _ _=>"then" | .IY _ _=>"either" | .IV _ _ _ _=>"take"
noncomputable def Bd.tl:Bd->List PV
 | .rest=>[] | .pay x y=>[.tup [.int x,.int y]] | .put z m=>[.str z,.int m] | .use z=>[.str z] | .IU a=>[a.pv] | .IK a b=>[a.pv,b.pv] | .IY a b=>[a.pv,b.pv] | .IV z m a b=>[.str z,.int m,a.pv,b.pv]
def Bd.Lc(t:Bd):t.pv = .tup (.str t.hd::t.tl):=by cases t<;>rfl
def Bd.N7(t:Bd):PyData.strOk t.hd=true:=by cases t<;>exact wM _ (by simp[heads,Bd.hd])
def Bd.MH(t:Bd):t.hd=("then":Str)↔∃a b,t = .IK a b:=by cases t<;>simp[Bd.hd,av]
def Bd.MI(t:Bd):t.hd=("often":Str)↔∃a,t = .IU a:=by cases t<;>simp[Bd.hd,av]
def hJ{a b:PV}{hd:List PV}{i:Int}(hi:i=0\/i=1):JU (hd++[a,b]) (i - 2)=some (if i=0 then a else b):=by
 unfold JU qi;rcases hi with rfl|rfl
 .rw[if_neg (by omega),if_pos (by simp;omega)];have:(0 - 2+((hd++[a,b]).length:Int)).toNat=hd.length:=by simp;omega
  rw[this,if_pos rfl];show(hd++[a,b])[hd.length]?=some a;simp
 .rw[if_neg (by omega),if_pos (by simp;omega)];have:(1 - 2+((hd++[a,b]).length:Int)).toNat=hd.length+1:=by simp;omega
  rw[this,if_neg (by decide)];show(hd++[a,b])[hd.length+1]?=some b;simp
def KP.nil{L n:Nat}:KP L (n+1) (.tup []):=.tup (UT _) (by simp)
def KP.two{L n:Nat}{a b:PV}(hL:2<=L)(ha:KP L n a)(hb:KP L n b):KP L (n+1) (.tup [a,b]):=.tup hL λx hx=>by
 simp only[Uv,UK,Vp]at hx;rcases hx with rfl|rfl
 .exact ha
 .exact hb
noncomputable def Bd.IW:Bd->Bool
 | .rest=>false
 | .IK _ _=>false
 |_=>true
abbrev kh(w:ay):Prop:=∀{S:aA}{t:Bd}{Q:bB}{E:bR},Q (.bl t.IW) S->w [t.pv] S Q E
def F7:∀z∈(["rest","then"]:Vs),PyData.strOk z=true:=by decide +kernel
def F8:∀z∈(["either","take"]:Vs),PyData.strOk z=true:=by decide +kernel
def Bd.Ol(t:Bd):(true != decide (t.hd∈(["rest","then"]:Vs)))=t.IW:=by cases t<;>simp[Bd.hd,av,Bd.IW]
def wN:kh (aT 1 lP):=by
 intro S t Q E k;unfold lP;refine cY ?_;rw[show ax 1 [t.pv]=[some t.pv] from rfl,Bd.Lc];simp only[aw,af,v3,lk,c3,aa,bG,aD,am];rw[show([PV.str "rest",PV.str "then"]:List PV)=(["rest","then"]:Vs).map PV.str from rfl];refine dY (Bd.N7 t) F7 ?_;rw[Bd.Ol];exact k
noncomputable def Bd.IN:Bd->PV
 | .IK a b=>.tup [a.IN,b.IN]
 | .IY a _=>.tup [.int 0,a.IN]
 | .IV _ _ _ b=>.tup [.int 1,b.IN]
 |_=>.tup []
abbrev jt(n:Nat)(w:ay):Prop:=∀{S:aA}{t:Bd}{Q:bB}{E:bR},t.dep<=n->Q t.IN S->w [t.pv] S Q E
def yX{s0:ay}(n:Nat)(ih:jt n s0):jt (n+1) (aT 1 (fU s0)):=by
 intro S t Q E hd k;unfold fU;refine cY ?_;rw[show ax 1 [t.pv]=[some t.pv] from rfl];cases t with
 |IK a b=>
  walk_at "6";rw[show(Bd.IK a b).pv = .tup [.str "then",a.pv,b.pv] from rfl];walk_at "y";refine ih (by omega) ?_;exact ih (by omega) k
 |IY a b=>
  walk_at "6";rw[show(Bd.IY a b).pv = .tup [.str "either",a.pv,b.pv] from rfl];walk_at "y";exact ih (by omega) k
 |IV z m a b=>
  walk_at "6";rw[show(Bd.IV z m a b).pv = .tup [.str "take",.str z,.int m,a.pv,b.pv] from rfl];walk_at "y";exact ih (by omega) k
 |IU a=>
  rw[show(Bd.IU a).pv = .tup [.str "often",a.pv] from rfl];walk_at "y";exact k
 |rest=>
  rw[show(Bd.rest).pv = .tup [.str "rest"] from rfl];walk_at "y";exact k
 |pay x y=>
  rw[show(Bd.pay x y).pv = .tup [.str "pay",.tup [.int x,.int y]] from rfl];walk_at "y";exact k
 |put z m=>
  rw[show(Bd.put z m).pv = .tup [.str "put",.str z,.int m] from rfl];walk_at "y";exact k
 |use z=>
  rw[show(Bd.use z).pv = .tup [.str "use",.str z] from rfl];walk_at "y";exact k
abbrev lX(n:Nat)(w:ay):Prop:=∀{S:aA}{t:Bd}{Q:bB}{E:bR},t.dep<=n->t.size<=900->(∀S',Ext S S'->Q (.int t.size) S')->w [t.pv] S Q E
def wO{xp:ay}(n:Nat)(MG:fH n xp):lX n (aT 1 (qG xp)):=by
 intro S t Q E hd hs k;unfold qG;refine cY ?_;rw[show ax 1 [t.pv]=[some t.pv] from rfl];walk_at "x";refine MG hd hs λp S1 hp X1 h1=>?_;simp only[h1,Ul,t.Jj];exact k S1 X1
noncomputable def Bd.led:Bd->Nat->PV->PV
 |_,0,v=>v
 | .IU a,p+1,v=>.tup [.tup [.int 1,a.led p v]]
 | .IK a b,p+1,v=>if p < a.size then .tup [a.led p v,b.IN] else .tup [a.IN,b.led (p - a.size) v]
 | .IY a b,p+1,v=>if p < a.size then .tup [.int 0,a.led p v] else .tup [.int 1,b.led (p - a.size) v]
 | .IV _ _ a b,p+1,v=>if p < a.size then .tup [.int 0,a.led p v] else .tup [.int 1,b.led (p - a.size) v]
 |_,_+1,v=>v
abbrev k5(n:Nat)(w:ay):Prop:=∀{S:aA}{t:Bd}{p:Nat}{v:PV}{Q:bB}{E:bR},t.dep<=n->t.size<=900->p < t.size->(∀S',Ext S S'->Q (t.led p v) S')->w [t.pv,.int p,v] S Q E
def Bb{xp xt s0:ay}(n m:Nat)(hm:n<=m)(PP:lX m xp)(Pm:jt m xt)(ih:k5 n s0):k5 (n+1) (aT 8 (fV xp xt s0)):=by
 intro S t p v Q E hd hs hp k;unfold fV;refine cY ?_;rw[show ax 8 [t.pv,PV.int p,v]=[some t.pv,some (.int p),some v,none,none,none,none,none] from rfl];walk_at "3";walk_at "x";simp only[Uu,Us];cases p with
 |zero=>
  rw[if_pos (show((0:Nat):Int)=0 from rfl)];have:=k S .refl;cases t<;>exact this
 |succ p=>
  rw[if_neg (by omega)];walk_at "0";have ep:(((p+1:Nat):Int) - 1)=(p:Int):=by omega
  cases t with
  |IU a=>
   simp only[Bd.size]at hs hp;walk_at "6";rw[show(Bd.IU a).pv = .tup [.str "often",a.pv] from rfl];walk_at "y";rw[ep];exact ih (by omega) (by omega) (by omega) k
  |rest=>simp only[Bd.size]at hp;omega
  |pay=>simp only[Bd.size]at hp;omega
  |put=>simp only[Bd.size]at hp;omega
  |use=>simp only[Bd.size]at hp;omega
  |IK a b=>
   simp only[Bd.size]at hs hp;walk_at "6";rw[show(Bd.IK a b).pv = .tup [.str "then",a.pv,b.pv] from rfl];walk_at "y";walk_at "0";walk_at "y";walk_at "0";walk_at "y";walk_at "0";walk_at "y";refine PP (by omega) (by omega) λS1 X1=>?_;walk_at "0";walk_at "x";by_cases hl:p < a.size
   .have e1:decide (((p+1:Nat):Int) < 1+(a.size:Int))=true:=UO (by omega);rw[e1];simp only[U6];walk_at "0";walk_at "y";rw[ep];refine ih (by omega) (by omega) hl λS2 X2=>?_;walk_at "0";walk_at "y";walk_at "0";walk_at "y";refine Pm (by omega) ?_;have:=k S2 (X1.trans X2);simp only[Bd.led,if_pos hl]at this;exact this
   .have e1:decide (((p+1:Nat):Int) < 1+(a.size:Int))=false:=UG (by omega);rw[e1];simp only[UB,UZ];walk_at "0";have e2:(((p+1:Nat):Int) - (1+(a.size:Int)))=((p - a.size:Nat):Int):=by omega
    have e4:decide ((1:Int)=0)=false:=by decide
    walk_at "y";simp only[e4,UB,UZ];rw[e2];refine ih (by omega) (by omega) (by omega) λS2 X2=>?_;walk_at "0";walk_at "y";walk_at "0";walk_at "y";simp only[e4,UB,UZ];refine hN _ _ ?_;walk_at "y";refine Pm (by omega) ?_;have:=k S2 (X1.trans X2);simp only[Bd.led,if_neg hl]at this;exact this
  |IY a b=>
   simp only[Bd.size]at hs hp;walk_at "6";rw[show(Bd.IY a b).pv = .tup [.str "either",a.pv,b.pv] from rfl];walk_at "y";walk_at "0";walk_at "y";walk_at "0";walk_at "y";walk_at "0";walk_at "y";refine PP (by omega) (by omega) λS1 X1=>?_;walk_at "0";walk_at "x";by_cases hl:p < a.size
   .have e1:decide (((p+1:Nat):Int) < 1+(a.size:Int))=true:=UO (by omega);rw[e1];simp only[U6];walk_at "0";walk_at "y";rw[ep];refine ih (by omega) (by omega) hl λS2 X2=>?_;walk_at "0";walk_at "y";have:=k S2 (X1.trans X2);simp only[Bd.led,if_pos hl]at this;exact this
   .have e1:decide (((p+1:Nat):Int) < 1+(a.size:Int))=false:=UG (by omega);rw[e1];simp only[UB,UZ];walk_at "0";have e2:(((p+1:Nat):Int) - (1+(a.size:Int)))=((p - a.size:Nat):Int):=by omega
    have e4:decide ((1:Int)=0)=false:=by decide
    walk_at "y";simp only[e4,UB,UZ];rw[e2];refine ih (by omega) (by omega) (by omega) λS2 X2=>?_;walk_at "0";walk_at "y";have:=k S2 (X1.trans X2);simp only[Bd.led,if_neg hl]at this;exact this
  |IV z q a b=>
   simp only[Bd.size]at hs hp;walk_at "6";rw[show(Bd.IV z q a b).pv = .tup [.str "take",.str z,.int q,a.pv,b.pv] from rfl];walk_at "y";walk_at "0";walk_at "y";walk_at "0";walk_at "y";walk_at "0";walk_at "y";refine PP (by omega) (by omega) λS1 X1=>?_;walk_at "0";walk_at "x";by_cases hl:p < a.size
   .have e1:decide (((p+1:Nat):Int) < 1+(a.size:Int))=true:=UO (by omega);rw[e1];simp only[U6];walk_at "0";walk_at "y";rw[ep];refine ih (by omega) (by omega) hl λS2 X2=>?_;walk_at "0";walk_at "y";have:=k S2 (X1.trans X2);simp only[Bd.led,if_pos hl]at this;exact this
   .have e1:decide (((p+1:Nat):Int) < 1+(a.size:Int))=false:=UG (by omega);rw[e1];simp only[UB,UZ];walk_at "0";have e2:(((p+1:Nat):Int) - (1+(a.size:Int)))=((p - a.size:Nat):Int):=by omega
    have e4:decide ((1:Int)=0)=false:=by decide
    walk_at "y";simp only[e4,UB,UZ];rw[e2];refine ih (by omega) (by omega) (by omega) λS2 X2=>?_;walk_at "0";walk_at "y";have:=k S2 (X1.trans X2);simp only[Bd.led,if_neg hl]at this;exact this
mutual
/-- no great whole number within -/
noncomputable def ci(b:Nat):PV->Bool
 | .int i=>decide (i.natAbs<=b)
 | .tup xs=>intBs b xs
 |_=>true
noncomputable def intBs(b:Nat):List PV->Bool
 |[]=>true
 |x::r=>ci b x&&intBs b r
end
theorem intBs_iff{b:Nat}:∀{xs:List PV},intBs b xs=true↔∀x∈xs,ci b x=true
 |[]=>by simp[intBs]
 |x::r=>by simp[intBs,intBs_iff (xs:=r)]
def sJ{b:Nat}{i:Int}(h:i.natAbs<=b):ci b (.int i)=true:=by simp[ci,h]
def sK{b:Nat}{xs:List PV}(h:∀x∈xs,ci b x=true):ci b (.tup xs)=true:=by simp only[ci];exact intBs_iff.mpr h
def bz{b:Nat}{xs:List PV}(h:ci b (.tup xs)=true):∀x∈xs,ci b x=true:=by simp only[ci]at h;exact intBs_iff.mp h
def b9{b:Nat}{x y:PV}(hx:ci b x=true)(hy:ci b y=true):ci b (.tup [x,y])=true:=by simp[ci,intBs,hx,hy]
noncomputable def cf(n:Int):PV:=.tup [.int (M3.cz n 2520),.int (M3.bC n 2520)]
def hU:(.tup [.int 0,.int 1]:PV)=cf 0:=by
 have h1:M3.cz 0 2520=0:=by decide +kernel
 have h2:M3.bC 0 2520=1:=by decide +kernel
 unfold cf;rw[h1,h2]
def uz(n:Int):M3.GI (M3.cz n 2520) (M3.bC n 2520):=M3.qz (by decide)
def i_(n:Int):M3.cz n 2520 * 2520=n * M3.bC n 2520:=M3.wt (by decide)
def fY(n:Int):0 < M3.bC n 2520/\M3.bC n 2520<=2520:=by
 refine⟨(uz n).pos,?_⟩;unfold M3.bC;rw[if_neg (by decide)];exact Int.ediv_le_self _ (by decide)
def lY{n:Int}(h:0<=n):0<=M3.cz n 2520:=by
 unfold M3.cz;rw[if_neg (by decide)];exact Wu h (Int.natCast_nonneg _)
def qS{x y:Int}(h:sH x y):(.tup [.int x,.int y]:PV)=cf (x * (2520 / y)):=by
 have hy:y=1\/y=2\/y=3\/y=4\/y=5\/y=6\/y=7\/y=8\/y=9:=by have:=h.low.pos;have:=h.y1;omega
 have e:2520 / y * y=2520:=by rcases hy with rfl|rfl|rfl|rfl|rfl|rfl|rfl|rfl|rfl<;>decide
 have u:=M3.jW h.low (x:=x * (2520 / y)) (y:=2520) (by decide) (by rw[Int.mul_assoc,e]);unfold cf;rw[u.1,u.2]
def vp(n m:Int):(.tup [.int (M3.cz (M3.cz n 2520 * M3.bC m 2520+M3.cz m 2520 * M3.bC n 2520) (M3.bC n 2520 * M3.bC m 2520)),.int (M3.bC (M3.cz n 2520 * M3.bC m 2520+M3.cz m 2520 * M3.bC n 2520) (M3.bC n 2520 * M3.bC m 2520))]:PV)=cf (n+m):=by
 have u:=M3.jW (uz (n+m)) (x:=M3.cz n 2520 * M3.bC m 2520+M3.cz m 2520 * M3.bC n 2520) (y:=M3.bC n 2520 * M3.bC m 2520) (Int.mul_pos (fY n).1 (fY m).1) (by
  have h1:=i_ n;have h2:=i_ m;have h3:=i_ (n+m);generalize M3.cz n 2520=a at *;generalize M3.bC n 2520=b at *;generalize M3.cz m 2520=c at *;generalize M3.bC m 2520=d at *;generalize M3.cz (n+m) 2520=L at *;generalize M3.bC (n+m) 2520=B at *
  grind)
 unfold cf;rw[u.1,u.2]
def sL(n m:Int):(.tup [.int (M3.cz (M3.cz n 2520 * m) (M3.bC n 2520 * 1)),.int (M3.bC (M3.cz n 2520 * m) (M3.bC n 2520 * 1))]:PV)=cf (n * m):=by
 have u:=M3.jW (uz (n * m)) (x:=M3.cz n 2520 * m) (y:=M3.bC n 2520 * 1) (by rw[XT];exact(fY n).1) (by
  have h1:=i_ n;have h3:=i_ (n * m);generalize M3.cz n 2520=a at *;generalize M3.bC n 2520=b at *;generalize M3.cz (n * m) 2520=L at *;generalize M3.bC (n * m) 2520=B at *
  grind)
 unfold cf;rw[u.1,u.2]
abbrev Ty:=Int×List (Int×Int)
noncomputable def jn(p q:Int×Int):Int×Int:=(p.1+q.1,if q.2 - p.1 > p.2 then q.2 - p.1 else p.2)
noncomputable def Ty.join(t u:Ty):Ty:=(t.1+u.1,List.zipWith jn t.2 u.2)
noncomputable def ag(m:Int)(p:Int×Int):Int×Int:=(p.1 * m,p.2+(if -p.1 * (m - 1) > 0 then -p.1 * (m - 1) else 0))
noncomputable def Ty.again(m:Int)(t:Ty):Ty:=(t.1 * m,t.2.map (ag m))
noncomputable def zl(js:Vs):List (Int×Int):=js.map λ_=>(0,0)
noncomputable def z0(js:Vs):Ty:=(0,zl js)
def og(e m:Int)(hm:1<=m):-e * (m - 1)=e - e * m/\(0<=e->e<=e * m)/\(e < 0->e * m<=e):=by
 refine⟨by grind,λh=>?_,λh=>?_⟩
 .have:=Wb hm h;omega
 .have:=Wb hm (show 0 <= -e by omega);rw[Xj,Xj]at this;omega
def Bc{a b:Int}(p:Int×Int)(ha:1<=a)(hb:1<=b):jn (ag a p) (ag b p)=ag (a+b) p:=by
 obtain⟨e,d⟩:=p;obtain⟨a1,a2,a3⟩:=og e a ha;obtain⟨b1,b2,b3⟩:=og e b hb;obtain⟨c1,c2,c3⟩:=og e (a+b) (by omega);have c4:e * (a+b)=e * a+e * b:=Int.mul_add _ _ _;simp only[jn,ag,a1,b1,c1,c4];generalize e * a=x at *;generalize e * b=y at *;refine Yu rfl ?_;dsimp only;by_cases he:0<=e
 .have:=a2 he;have:=b2 he;rw[if_neg (show ¬(e - y > 0) by omega),if_neg (show ¬(e - x > 0) by omega),if_neg (show ¬(e - (x+y) > 0) by omega)]
  split<;>omega
 .have:=a3 (by omega);have:=b3 (by omega);rw[if_pos (show e - (x+y) > 0 by omega)];by_cases h1:e - y > 0
  .rw[if_pos h1];by_cases h2:e - x > 0
   .rw[if_pos h2];split<;>omega
   .rw[if_neg h2];split<;>omega
  .rw[if_neg h1];by_cases h2:e - x > 0
   .rw[if_pos h2];split<;>omega
   .rw[if_neg h2];split<;>omega
def wP{m:Int}{p:Int×Int}(h:0<=p.2):0<=(ag m p).2:=by
 simp only[ag]
 split<;>omega
def Ty.Ok(js:Vs)(t:Ty):Prop:=t.2.length=js.length/\0<=t.1/\∀p∈t.2,0<=p.2
theorem oh{α β:Type}(f:α->α->β):∀l:List α,List.zipWith f l l=l.map λx=>f x x
 |[]=>rfl
 |x::r=>by rw[List.zipWith_cons_cons,oh f r];rfl
theorem sM{α β γ:Type}{f:α->β->γ}:∀{xs:List α}{ys:List β}{z:γ},z∈List.zipWith f xs ys->∃x∈xs,∃y∈ys,z=f x y
 |[],_,z,h=>by simp at h
 |_::_,[],z,h=>by simp at h
 |x::r,y::s,z,h=>by
  rw[List.zipWith_cons_cons,Uv]at h;rcases h with rfl|h
  .exact⟨x,by simp,y,by simp,rfl⟩
  .obtain⟨a,ha,b,hb,e⟩:=sM h;exact⟨a,by simp[ha],b,by simp[hb],e⟩
theorem Ty.Ok.join{js:Vs}{t u:Ty}(h:t.Ok js)(g:u.Ok js):(t.join u).Ok js:=by
 refine⟨?_,?_,λp hp=>?_⟩
 .show(List.zipWith jn t.2 u.2).length=_;rw[List.length_zipWith,h.1,g.1,Yt]
 .exact Yl h.2.1 g.2.1
 .obtain⟨x,hx,y,hy,rfl⟩:=sM hp;have:=h.2.2 x hx;simp only[jn]
  split<;>omega
theorem Ty.Ok.again{js:Vs}{t:Ty}{m:Int}(h:t.Ok js)(hm:1<=m):(t.again m).Ok js:=by
 refine⟨?_,VI h.2.1 (by omega),λp hp=>?_⟩
 .show(t.2.map (ag m)).length=_;rw[Ul,h.1]
 .obtain⟨x,hx,rfl⟩:=UU.mp hp;exact wP (h.2.2 x hx)
def fI(js:Vs):(z0 js).Ok js:=⟨Ul _,VF _,λp hp=>by obtain⟨x,hx,rfl⟩:=UU.mp hp;exact VF _⟩
def gD{js:Vs}{t:Ty}(h:t.Ok js):(z0 js).join t=t:=by
 unfold Ty.join z0;refine Yu (Int.zero_add _) ?_;dsimp only;have:∀(l:List (Int×Int))(ks:Vs),l.length=ks.length->(∀p∈l,0<=p.2)->List.zipWith jn (zl ks) l=l:=λl=>by
  induction l with
  |nil=>intro ks _ _;exact List.zipWith_nil_right
  |cons p r ih=>
   intro ks hl hp;cases ks with
   |nil=>cases hl
   |cons k ks=>
    show jn (0,0) p::List.zipWith jn (zl ks) r=_;rw[ih ks (by simpa using hl) λq hq=>hp q (by simp[hq])];have:=hp p (by simp)
    congr 1
    simp only[jn];refine Yu (Int.zero_add _) ?_;dsimp only
    split<;>omega
 exact this t.2 js h.1 h.2.2
theorem aQ{α:Type}{g:Tg}{te:ba}{σ':cU}{keep:aA->Prop}{fin:List PV->aA->Prop}{S:aA}(enc f:α->PV)(hk:keep S):∀(xs:List α)(ys:List PV),
  (∀x∈xs,∃σ2,g.put (enc x) σ'=some σ2/\∀Q:bB,Q (f x) S->te σ2 S Q fE)->ys.length+xs.length<=sizeLine->fin (ys++xs.map f) S->eB g bZ te σ' keep fin (xs.map enc) ys S
 |[],ys,_,hl,hf=>⟨hk,by simpa using hl,by simpa using hf⟩
 |x::r,ys,h,hl,hf=>by
  obtain⟨σ2,e,h1⟩:=h x (by simp);refine⟨hk,by simp at hl;omega,?_⟩;rw[e];show te σ2 S (λy S4=>eB g bZ te σ' keep fin (r.map enc) (ys++[y]) S4) fE;exact h1 _ (aQ enc f hk r (ys++[f x]) (λy hy=>h y (by simp[hy])) (by simp at hl ⊢;omega) (by simpa using hf))
def bA{n:Nat}(h:n<=1000):n<=sizeLine:=UJ h (by decide)
abbrev oi(w:ay):Prop:=∀{S:aA}{a b:Int}{Q:bB}{E:bR},0<=a->0<=b->Q (.int (Int.gcd a b)) S->w [.int a,.int b] S Q E
def Lw:oi (aT 3 nQ):=by
 intro S a b Q E ha hb k;unfold nQ;refine cY ?_;rw[show ax 3 [PV.int a,PV.int b]=[some (.int a),some (.int b),none] from rfl];walk_at "3";refine⟨λn σ S'=>S'=S/\∃(x y:Int) (z:Option PV),σ=[some (.int x),some (.int y),z]/\0<=x/\0<=y/\Int.gcd x y=Int.gcd a b/\y.toNat=n,⟨_,rfl,a,b,none,rfl,ha,hb,rfl,rfl⟩,?_⟩;rintro n σ S' ⟨rfl,x,y,z,rfl,hx,hy,hg,rfl⟩;walk_at "x";simp only[VT,Bool.not_eq_true',decide_eq_false_iff_not]
 split
 .rename_i hp;refine⟨λσ' NH=>NH=S'/\∃(x' y':Int) (z':Option PV),σ'=[some (.int x'),some (.int y'),z']/\0<=x'/\0<=y'/\Int.gcd x' y'=Int.gcd a b/\y'.toNat < y.toNat,?_,?_⟩
  .rintro σ' NH ⟨rfl,x',y',z',rfl,h1,h2,h3,h4⟩;exact⟨_,h4,rfl,x',y',z',rfl,h1,h2,h3,rfl⟩
  .have e:x.fmod y=x % y:=jP hy;have l1:=Xf x (b:=y) hp;have l2:=WL x (show 0 < y by omega);refine⟨hp,rfl,y,x.fmod y,_,rfl,hy,by omega,?_,by omega⟩;rw[M3.sn];exact hg
 .rename_i hp;have Pl:y=0:=by omega
  subst Pl;refine hN _ _ ?_;walk_at "x";rw[if_neg (by omega)];have Rx:x=(Int.gcd a b:Int):=by
   rw[<-hg];rw[Int.gcd_zero_right];omega
  rw[Rx];exact k
abbrev oj(w:ay):Prop:=∀{S:aA}{t b:Int}{Q:bB}{E:bR},0<=t->0 < b->b.natAbs < 2 ^ 8000->Q (.tup [.int (M3.cz t b),.int (M3.bC t b)]) S->w [.int t,.int b] S Q E
def Lx{xc:ay}(Lw:oi xc):oj (aT 3 (ke xc)):=by
 intro S t b Q E ht hb hs k;unfold ke;refine cY ?_;rw[show ax 3 [PV.int t,PV.int b]=[some (.int t),some (.int b),none] from rfl];walk_at "3";walk_at "x";refine Lw ht (by omega) (hN _ _ (al λN hN=>?_));walk_at "x";rw[if_neg (by rw[Us];omega)];refine hN _ _ ?_;walk_at "x";have gp:(0:Int) < (Int.gcd t b:Int):=Xe.mpr (M3.jo (by omega));have gl:=M3.yi (t:=t) (b:=b) (by omega);have cd:∀z,pH z (Int.gcd t b:Int):=λz=>⟨by omega,WJ (by omega) hs⟩
 refine⟨cd _,cd _,?_⟩;have d1:=(M3.sk (t:=t) (b:=b) (by omega))
 rw[if_neg (by omega)]at d1;rw[d1.1,d1.2];exact k
def F9(n m:Int):0 < M3.bC n 2520 * M3.bC m 2520/\(M3.bC n 2520 * M3.bC m 2520).natAbs < 2 ^ 8000:=by
 obtain⟨a,b⟩:=fY n;obtain⟨c,d⟩:=fY m;have p:=Int.mul_pos a c;have q:M3.bC n 2520 * M3.bC m 2520<=2520 * 2520:=Int.mul_le_mul b d (by omega) (by decide);exact⟨p,jq (by omega)⟩
def wQ(i n:Int):IntMulOk i (M3.bC n 2520):=by have:=fY n;exact mS (by omega) (by omega)
abbrev fc(w:ay):Prop:=∀{S:aA}{n m:Int}{Q:bB}{E:bR},0<=n->0<=m->Q (cf (n+m)) S->w [cf n,cf m] S Q E
def KZ{xf:ay}(Lx:oj xf):fc (aT 2 (ur xf)):=by
 intro S n m Q E hn hm k;unfold ur;refine cY ?_;rw[show ax 2 [cf n,cf m]=[some (cf n),some (cf m)] from rfl];simp only[cf];walk_at "x";simp only[bG,bU];refine⟨wQ _ _,wQ _ _,wQ _ _,?_⟩;have b:=F9 n m;refine Lx (Yl (VI (lY hn) (Wx (fY m).1)) (VI (lY hm) (Wx (fY n).1))) b.1 b.2 ?_;rw[vp];exact k
def yY{xf:ay}(LH:kP xf):fc (aT 2 (iX xf)):=by
 intro S n m Q E hn hm k;unfold iX;refine cY ?_;rw[show ax 2 [cf n,cf m]=[some (cf n),some (cf m)] from rfl];simp only[cf];walk_at "x";simp only[bG,bU];refine⟨wQ _ _,wQ _ _,wQ _ _,?_⟩;have b:=F9 n m;refine LH b.1 b.2 ?_;rw[vp];exact k
abbrev lZ(w:ay):Prop:=∀{S:aA}{n m:Int}{Q:bB}{E:bR},0<=n->0<=m->m < 2 ^ 62->Q (cf (n * m)) S->w [cf n,.tup [.int m,.int 1]] S Q E
def Ll{xf:ay}(Lx:oj xf):lZ (aT 2 (qD xf)):=by
 intro S n m Q E hn hm hm2 k;unfold qD;refine cY ?_;rw[show ax 2 [cf n,.tup [.int m,.int 1]]=[some (cf n),some (.tup [.int m,.int 1])] from rfl];simp only[cf];walk_at "x";simp only[bG,bU];refine⟨mS (by omega) (by omega),mS (by decide) (by decide),?_⟩;have b:=fY n;refine Lx (VI (lY hn) hm) (by omega) (jq (by omega)) ?_;rw[sL];exact k
noncomputable def Ty.es(t:Ty):List PV:=t.2.map λp=>.int p.1
noncomputable def Ty.dm(t:Ty):List PV:=t.2.map λp=>.int p.2
noncomputable def Ty.pv(t:Ty):PV:=.tup [cf t.1,.tup t.es,.tup t.dm]
noncomputable def eP(js:Vs):PV:=.tup (js.map PV.str)
noncomputable def jF(js:Vs)(z:Str)(e d:Int):List (Int×Int):=js.map λj=>if j=z then (e,d) else (0,0)
abbrev k6(w:ay):Prop:=∀{S:aA}{js:Vs}{Q:bB}{E:bR},js.length<=1000->Q (z0 js).pv S->w [eP js] S Q E
def qT(js:Vs):List.replicate js.length (PV.int 0)=(z0 js).es:=by
 unfold Ty.es z0 zl;rw[UQ]
 induction js with
 |nil=>rfl
 |cons j js ih=>rw[UE,U1,ih];rfl
def uA(js:Vs):List.replicate js.length (PV.int 0)=(z0 js).dm:=by rw[qT];unfold Ty.es Ty.dm z0 zl;rw[UQ,UQ];rfl
def Ka:k6 (aT 1 kf):=by
 intro S js Q E hj k;unfold kf;refine cY ?_;rw[show ax 1 [eP js]=[some (eP js)] from rfl];unfold eP;walk_at "x";simp only[nU,Ul,Int.toNat_natCast];refine⟨by omega,by omega,by omega,by omega,?_⟩;rw[hU];have e:(PV.tup [cf 0,.tup (List.replicate js.length (.int 0)),.tup (List.replicate js.length (.int 0))])=(z0 js).pv:=by
  unfold Ty.pv;rw[<-qT,<-uA]
  rfl
 rw[e];exact k
abbrev ki(w:ay):Prop:=∀{S:aA}{js:Vs}{z:Str}{m:Int}{Q:bB}{E:bR},js.length<=1000->(∀S',Ext S S'->Q (.tup (js.map λj=>.int (if j=z then m else 0))) S')->w [eP js,.str z,.int m] S Q E
def JO:ki (aT 3 iW):=by
 intro S js z m Q E hj k;unfold iW;refine cY ?_;rw[show ax 3 [eP js,.str z,.int m]=[some (eP js),some (.str z),some (.int m)] from rfl];unfold eP;walk_at "x";refine aQ PV.str (λj=>.int (if j=z then m else 0)) trivial js [] (λj hj=>⟨_,rfl,λQ q=>?_⟩) (by simpa using bA hj) λp hp=>?_
 .walk_at "x";simp only[Uu,Us]
  split
  .rename_i h;rw[if_pos h]at q;exact q
  .rename_i h;rw[if_neg h]at q;exact q
 .simp only[List.nil_append,ac];exact k _ (.new hp)
def yZ{α β γ δ:Type}(f:α->β->γ)(g:γ->δ)(xs:List α)(ys:List β):(xs.zip ys).map (λz=>g (f z.1 z.2))=(List.zipWith f xs ys).map g:=by
 rw[List.zip,List.map_zipWith,List.map_zipWith]
def Eb(t u:Ty):bY t.es u.es=(t.2.zip u.2).map λz=>.tup [.int z.1.1,.int z.2.1]:=by
 unfold bY Ty.es;rw[List.zip_map,UQ]
 rfl
def Ec(t:Ty):bY t.es t.dm=t.2.map λz=>.tup [.int z.1,.int z.2]:=by
 unfold bY Ty.es Ty.dm;rw[List.zip_map,UQ];rw[show t.2.zip t.2=t.2.map λx=>(x,x)from oh _ _,UQ]
 rfl
def wR(t u:Ty):bE t.es t.dm u.dm=(t.2.zip u.2).map λz=>.tup [.int z.1.1,.int z.1.2,.int z.2.2]:=by
 unfold bE Ty.es Ty.dm;have:∀(l m:List (Int×Int)),((l.map λp=>PV.int p.1).zip ((l.map λp=>PV.int p.2).zip (m.map λp=>PV.int p.2))).map FX=(l.zip m).map λz=>.tup [.int z.1.1,.int z.1.2,.int z.2.2]:=λl=>by
  induction l with
  |nil=>intro m;rfl
  |cons p r ih=>
   intro m;cases m with
   |nil=>rfl
   |cons q s=>simp only[UA,List.zip_cons_cons];rw[ih s];rfl
 exact this t.2 u.2
def qU(t u:Ty):(t.2.zip u.2).map (λz=>PV.int (z.1.1+z.2.1))=(t.join u).es:=yZ jn (λp=>PV.int p.1) t.2 u.2
def vq(t u:Ty):(t.2.zip u.2).map (λz=>PV.int (jn z.1 z.2).2)=(t.join u).dm:=yZ jn (λp=>PV.int p.2) t.2 u.2
abbrev l7(w:ay):Prop:=∀{S:aA}{t u:Ty}{Q:bB}{E:bR},t.2.length<=1000->(∀S',Ext S S'->Q (.tup (t.join u).es) S')->w [.tup t.es,.tup u.es] S Q E
def KQ:l7 (aT 2 qE):=by
 intro S t u Q E hj k;unfold qE;refine cY ?_;rw[show ax 2 [.tup t.es,.tup u.es]=[some (.tup t.es),some (.tup u.es)] from rfl];walk_at "x";rw[Eb];refine aQ _ (λz=>PV.int (z.1.1+z.2.1)) trivial _ [] (λz hz=>⟨_,rfl,λQ q=>?_⟩) ?_ λp hp=>?_
 .walk_at "x";exact q
 .rw[UN,U0,VL];exact bA (by omega)
 .simp only[List.nil_append,ac];rw[qU];exact k _ (.new hp)
abbrev ol(w:ay):Prop:=∀{S:aA}{t:Ty}{m:Int}{Q:bB}{E:bR},t.2.length<=1000->0<=m->m < 2 ^ 62->(∀S',Ext S S'->Q (.tup (t.again m).es) S')->w [.tup t.es,.int m] S Q E
def om(t:Ty)(m:Int):t.2.map (λp=>PV.int (p.1 * m))=(t.again m).es:=by
 unfold Ty.again Ty.es;rw[UQ]
 rfl
def sN(t:Ty)(m:Int):t.2.map (λp=>PV.int (ag m p).2)=(t.again m).dm:=by
 unfold Ty.again Ty.dm;rw[UQ]
 rfl
def Ly:ol (aT 2 gT):=by
 intro S t m Q E hj h0 h1 k;unfold gT;refine cY ?_;rw[show ax 2 [.tup t.es,.int m]=[some (.tup t.es),some (.int m)] from rfl];walk_at "x";refine aQ (λp:Int×Int=>PV.int p.1) (λp=>PV.int (p.1 * m)) trivial t.2 [] (λz hz=>⟨_,rfl,λQ q=>?_⟩) (by simpa using bA hj) λp hp=>?_
 .walk_at "x";exact⟨mS (by omega) (by omega),q⟩
 .simp only[List.nil_append,ac];rw[om];exact k _ (.new hp)
abbrev fe(w:ay):Prop:=∀{S:aA}{js:Vs}{t u:Ty}{Q:bB}{E:bR},js.length<=1000->t.Ok js->u.Ok js->(∀S',Ext S S'->Q (t.join u).pv S')->w [t.pv,u.pv] S Q E
def JB{xa xp:ay}(KQ:l7 xa)(KZ:fc xp):fe (aT 3 (nV xa xp)):=by
 intro S js t u Q E hj ht hu k;unfold nV;refine cY ?_;rw[show ax 3 [t.pv,u.pv]=[some t.pv,some u.pv,none] from rfl];unfold Ty.pv;walk_at "3";walk_at "x";simp only[sA,af,v3,lk,c3,aa,bU,kC];have lt:=ht.1;have lu:=hu.1;refine⟨by unfold Ty.es Ty.dm;rw[Ul,Ul];omega,by unfold Ty.es Ty.dm;rw[Ul,Ul];omega,?_⟩;rw[wR];refine aQ _ (λz=>PV.int (jn z.1 z.2).2) trivial _ [] (λz hz=>⟨_,rfl,λQ q=>?_⟩) ?_ λp hp=>?_
 .walk_at "x";exact q
 .rw[UN,U0,VL];exact bA (by omega)
 .rw[UX,vq];refine hN _ _ ?_;walk_at "x";simp only[bG,bU];refine KZ ht.2.1 hu.2.1 ?_;refine KQ (t:=t) (u:=u) (by omega) λS2 X2=>?_;simp only[X2 _ _ ac];exact k S2 ((Ext.new hp).trans X2)
abbrev ju(w:ay):Prop:=∀{S:aA}{js:Vs}{t:Ty}{m:Int}{Q:bB}{E:bR},js.length<=1000->t.Ok js->1<=m->m < 2 ^ 62->(∀S',Ext S S'->Q (t.again m).pv S')->w [t.pv,.int m] S Q E
def Lm{xm xt:ay}(Ly:ol xm)(Ll:lZ xt):ju (aT 3 (qF xm xt)):=by
 intro S js t m Q E hj ht h1 h2 k;unfold qF;refine cY ?_;rw[show ax 3 [t.pv,.int m]=[some t.pv,some (.int m),none] from rfl];unfold Ty.pv;walk_at "3";walk_at "x";simp only[bU,kC];have lt:=ht.1;rw[Ec];refine aQ _ (λp:Int×Int=>PV.int (ag m p).2) trivial t.2 [] (λz hz=>⟨_,rfl,λQ q=>?_⟩) (by simpa using bA (by omega)) λp hp=>?_
 .walk_at "x";exact⟨mS (by omega) (by omega),q⟩
 .rw[UX,sN];refine hN _ _ ?_;walk_at "x";simp only[bG,bU];refine Ll ht.2.1 (by omega) h2 ?_;refine Ly (t:=t) (by omega) (by omega) h2 λS2 X2=>?_;simp only[X2 _ _ ac];exact k S2 ((Ext.new hp).trans X2)
abbrev kj(w:ay):Prop:=∀{S:aA}{js:Vs}{z:Str}{m:Int}{a b:Bd}{Q:bB}{E:bR},js.length<=1000->(∀S',Ext S S'->Q (Ty.pv (0,jF js z (-m) m)) S')->w [eP js,(Bd.IV z m a b).pv] S Q E
def qV(js:Vs)(z:Str)(e d:Int):js.map (λj=>PV.int (if j=z then e else 0))=Ty.es (0,jF js z e d):=by
 unfold Ty.es jF;rw[UQ];exact Wi λj _=>by dsimp only [Function.comp];split<;>rfl
def uB(js:Vs)(z:Str)(e d:Int):js.map (λj=>PV.int (if j=z then d else 0))=Ty.dm (0,jF js z e d):=by
 unfold Ty.dm jF;rw[UQ];exact Wi λj _=>by dsimp only [Function.comp];split<;>rfl
def Mj{xt:ay}(JO:ki xt):kj (aT 2 (d8 xt)):=by
 intro S js z m a b Q E hj k;unfold d8;refine cY ?_;rw[show ax 2 [eP js,(Bd.IV z m a b).pv]=[some (eP js),some (.tup [.str "take",.str z,.int m,a.pv,b.pv])] from rfl];walk_at "x";simp only[bU,kC];rw[hU];refine JO hj λS1 X1=>JO hj λS2 X2=>?_;rw[qV js z (-m) m,uB js z (-m) m];exact k S2 (X1.trans X2)
def dM{a b:Bd}{v:PV}(h:aX (.IK a b) v=true):∃x y,v = .tup [x,y]/\aX a x=true/\aX b y=true:=by
 cases v with
 |tup xs=>
  by_cases h2:xs.length=2
  .obtain⟨x,y,rfl⟩:=uy h2;rw[i9,V6]at h;exact⟨x,y,rfl,h⟩
  .rw[qP h2]at h;cases h
 |int i=>rw[kZ]at h;cases h
 |str z=>rw[kY]at h;cases h
 |_=>cases h
def dN{a b:Bd}{v:PV}(h:aX (.IY a b) v=true):∃i y,v = .tup [.int i,y]/\((i=0/\aX a y=true)\/(i=1/\aX b y=true)):=by
 cases v with
 |tup xs=>
  by_cases h2:xs.length=2
  .obtain⟨x,y,rfl⟩:=uy h2;cases x with
   |int i=>
    rw[kU]at h;refine⟨i,y,rfl,?_⟩;by_cases h0:i=0
    .rw[if_pos h0]at h;exact .inl ⟨h0,h⟩
    .rw[if_neg h0]at h;by_cases h1:i=1
     .rw[if_pos h1]at h;exact .inr ⟨h1,h⟩
     .rw[if_neg h1]at h;cases h
   |_=>cases h
  .rw[qQ h2]at h;cases h
 |int i=>rw[kZ]at h;cases h
 |str z=>rw[kY]at h;cases h
 |_=>cases h
def dO{z:Str}{m:Int}{a b:Bd}{v:PV}(h:aX (.IV z m a b) v=true):∃i y,v = .tup [.int i,y]/\((i=0/\aX a y=true)\/(i=1/\aX b y=true)):=by
 cases v with
 |tup xs=>
  by_cases h2:xs.length=2
  .obtain⟨x,y,rfl⟩:=uy h2;cases x with
   |int i=>
    rw[kW]at h;refine⟨i,y,rfl,?_⟩;by_cases h0:i=0
    .rw[if_pos h0]at h;exact .inl ⟨h0,h⟩
    .rw[if_neg h0]at h;by_cases h1:i=1
     .rw[if_pos h1]at h;exact .inr ⟨h1,h⟩
     .rw[if_neg h1]at h;cases h
   |_=>cases h
  .rw[qR h2]at h;cases h
 |int i=>rw[kZ]at h;cases h
 |str z=>rw[kY]at h;cases h
 |_=>cases h
def d_{a:Bd}{v:PV}(h:aX (.IU a) v=true):∃xs,v = .tup xs/\xs.all (kT a)=true:=by
 cases v with
 |tup xs=>rw[kX]at h;exact⟨xs,rfl,h⟩
 |int i=>rw[kZ]at h;cases h
 |str z=>rw[kY]at h;cases h
 |_=>cases h
theorem Bd.KR:∀t:Bd,aX t t.IN=true
 | .rest=>rfl
 | .pay _ _=>rfl
 | .put _ _=>rfl
 | .use _=>rfl
 | .IU a=>by rw[show(Bd.IU a).IN = .tup [] from rfl,kX];rfl
 | .IK a b=>by simp only[Bd.IN,i9,a.KR,b.KR];rfl
 | .IY a b=>by simp only[Bd.IN,kU,U6];exact a.KR
 | .IV _ _ a b=>by simp only[Bd.IN];rw[kW,if_neg (by decide),if_pos rfl];exact b.KR
theorem Bd.Kc:∀t:Bd,KP 2 (2 * t.dep) t.IN
 | .rest=>KP.nil
 | .pay _ _=>KP.nil
 | .put _ _=>KP.nil
 | .use _=>KP.nil
 | .IU a=>KP.nil.mono (Uo _) (show 0+1<=2 * (a.dep+1) by omega)
 | .IK a b=>by
  have ha:=a.Kc.mono (Uo _) (show 2 * a.dep<=2 * max a.dep b.dep by omega);have hb:=b.Kc.mono (Uo _) (show 2 * b.dep<=2 * max a.dep b.dep by omega);exact(KP.two (Uo _) ha hb).mono (Uo _) (by simp only[Bd.dep];omega)
 | .IY a b=>(KP.two (Uo _) (.int 0) a.Kc).mono (Uo _) (by simp only[Bd.dep];omega)
 | .IV _ _ a b=>(KP.two (Uo _) (.int 1) b.Kc).mono (Uo _) (by simp only[Bd.dep];omega)
theorem Bd.Kd:∀t:Bd,ci 3 t.IN=true
 | .rest=>rfl
 | .pay _ _=>rfl
 | .put _ _=>rfl
 | .use _=>rfl
 | .IU a=>rfl
 | .IK a b=>b9 a.Kd b.Kd
 | .IY a b=>b9 rfl a.Kd
 | .IV _ _ a b=>b9 rfl b.Kd
noncomputable def Pn(js:Vs)(f:PV->Ty):PV->Ty
 | .tup [.int m,y]=>(f y).again m
 |_=>z0 js
noncomputable def Bd.Jw(js:Vs):Bd->PV->Ty
 | .IU a,.tup xs=>(xs.map (Pn js λy=>a.Jw js y)).foldl Ty.join (z0 js)
 | .IK a b,.tup [x,y]=>(a.Jw js x).join (b.Jw js y)
 | .IY a b,.tup [.int i,y]=>if i=0 then a.Jw js y else b.Jw js y
 | .IV z m a b,.tup [.int i,y]=>if i=0 then Ty.join (0,jF js z (-m) m) (a.Jw js y) else b.Jw js y
 | .pay x y,_=>(x * (2520 / y),zl js)
 | .put z m,_=>(0,jF js z m 0)
 |_,_=>z0 js
def qW(js:Vs)(a:Bd)(xs:List PV):(Bd.IU a).Jw js (.tup xs)=(xs.map (Pn js λy=>a.Jw js y)).foldl Ty.join (z0 js):=rfl
def qX(js:Vs)(a b:Bd)(x y:PV):(Bd.IK a b).Jw js (.tup [x,y])=(a.Jw js x).join (b.Jw js y):=rfl
def m9(js:Vs)(a b:Bd)(i:Int)(y:PV):(Bd.IY a b).Jw js (.tup [.int i,y])=if i=0 then a.Jw js y else b.Jw js y:=rfl
def hV(js:Vs)(z:Str)(m:Int)(a b:Bd)(i:Int)(y:PV):(Bd.IV z m a b).Jw js (.tup [.int i,y])=if i=0 then Ty.join (0,jF js z (-m) m) (a.Jw js y) else b.Jw js y:=rfl
def cJ{a:Bd}{g:PV}(h:kT a g=true):∃m y,g = .tup [.int m,y]/\1<=m/\aX a y=true:=by
 unfold kT at h
 split at h
 .rename_i m y;rw[V6,Us]at h;exact⟨m,y,rfl,h.1,h.2⟩
 .cases h
def qY{js:Vs}{z:Str}{e d:Int}(hd:0<=d):Ty.Ok js (0,jF js z e d):=⟨Ul _,VF _,λp hp=>by
 obtain⟨j,hj,rfl⟩:=UU.mp hp
 split
 .exact hd
 .exact VF _⟩
theorem k7{js:Vs}:∀(ts:List Ty)(t:Ty),(∀u∈ts,u.Ok js)->t.Ok js->(ts.foldl Ty.join t).Ok js
 |[],t,_,h=>h
 |u::r,t,hs,h=>k7 r (t.join u) (λx hx=>hs x (by simp[hx])) (h.join (hs u (by simp)))
theorem aV{js us:Vs}:∀(t:Bd)(v:PV),t.good js us->aX t v=true->(t.Jw js v).Ok js
 | .rest,v,_,_=>fI js
 | .use z,v,_,_=>fI js
 | .pay x y,v,hg,_=>⟨(fI js).1,VI (show sH x y from hg).x0 (Wu (by decide) (Wx (show sH x y from hg).low.pos)),(fI js).2.2⟩
 | .put z m,v,hg,_=>qY (VF _)
 | .IK a b,v,hg,hv=>by
  obtain⟨x,y,rfl,hx,hy⟩:=dM hv;exact(aV a x hg.1 hx).join (aV b y hg.2 hy)
 | .IY a b,v,hg,hv=>by
  obtain⟨i,y,rfl,hi⟩:=dN hv;rw[m9];rcases hi with⟨rfl,h⟩|⟨rfl,h⟩
  .rw[if_pos rfl];exact aV a y hg.1 h
  .rw[if_neg (by decide)];exact aV b y hg.2 h
 | .IV z m a b,v,hg,hv=>by
  obtain⟨i,y,rfl,hi⟩:=dO hv;rw[hV];rcases hi with⟨rfl,h⟩|⟨rfl,h⟩
  .rw[if_pos rfl];exact(qY (by have:=hg.2.1;omega)).join (aV a y hg.2.2.2.1 h)
  .rw[if_neg (by decide)];exact aV b y hg.2.2.2.2 h
 | .IU a,v,hg,hv=>by
  obtain⟨xs,rfl,hx⟩:=d_ hv;rw[qW];refine k7 _ _ (λu hu=>?_) (fI js);obtain⟨g,P9,rfl⟩:=UU.mp hu;obtain⟨m,y,rfl,hm,hy⟩:=cJ (UW.mp hx g P9);exact(aV a y hg hy).again hm
def Bd.OD(t:Bd):t.hd=("pay":Str)↔∃x y,t = .pay x y:=by cases t<;>simp[Bd.hd,av]
def Bd.NN(t:Bd):t.hd=("put":Str)↔∃z m,t = .put z m:=by cases t<;>simp[Bd.hd,av]
abbrev k8(n:Nat)(w:ay):Prop:=∀{S:aA}{js us:Vs}{t:Bd}{v:PV}{Q:bB}{E:bR},js.length<=1000->t.good js us->aX t v=true->ci (2 ^ 60) v=true->t.dep<=n->(∀S',Ext S S'->Q (t.Jw js v).pv S')->w [eP js,t.pv,v] S Q E
abbrev on(n:Nat)(w:ay):Prop:=∀{S:aA}{js us:Vs}{a:Bd}{v:PV}{Q:bB}{E:bR},js.length<=1000->a.good js us->aX (.IU a) v=true->ci (2 ^ 60) v=true->a.dep<=n->(∀S',Ext S S'->Q ((Bd.IU a).Jw js v).pv S')->w [eP js,(Bd.IU a).pv,v] S Q E
def l8{js:Vs}(f:PV->Ty)(done:List PV)(x:PV):((done++[x]).map f).foldl Ty.join (z0 js)=((done.map f).foldl Ty.join (z0 js)).join (f x):=by
 rw[U8,WS];rfl
def wS{xn xb xa s0 s1:ay}(Ka:k6 xn)(JB:fe xb)(Lm:ju xa)(n:Nat)(ih:k8 n s1):on n (aT 5 (cC xn xb xa s0 s1)):=by
 intro S js us a v Q E hj hg hv hb hd k;obtain⟨xs,rfl,hx⟩:=d_ hv;unfold cC;refine cY ?_;rw[show ax 5 [eP js,(Bd.IU a).pv,.tup xs]=[some (eP js),some (.tup [.str "often",a.pv]),some (.tup xs),none,none] from rfl];walk_at "3";walk_at "x";refine Ka hj (hN _ _ (al λN hN=>?_));simp only[bS,aL,v3,lk,bW];refine bp (λdone σ S'=>∃x4,σ=[some (eP js),some (.tup [.str "often",a.pv]),some (.tup xs),some ((done.map (Pn js λy=>a.Jw js y)).foldl Ty.join (z0 js)).pv,x4]/\Ext S S') ⟨_,rfl,.refl⟩ (λ_ _ _ _=>trivial) ?_ ?_
 .rintro done g rest σ S1 K e ⟨x4,rfl,X1⟩ hK;have P9:g∈xs:=by rw[e];simp
  obtain⟨m,y,rfl,hm,hy⟩:=cJ (UW.mp hx g P9);have hi:=bz hb _ P9;have hm2:=bz hi (.int m) (by simp);simp only[ci,Us]at hm2;have ok:((done.map (Pn js λy=>a.Jw js y)).foldl Ty.join (z0 js)).Ok js:=k7 _ _ (λu hu=>by
   obtain⟨g',hg',rfl⟩:=UU.mp hu;obtain⟨m',y',rfl,hm',hy'⟩:=cJ (UW.mp hx g' (by rw[e];simp[hg']));exact(aV a y' hg hy').again hm') (fI js)
  simp only[Tg.put,List.set_cons_succ,List.set_cons_zero];walk_at "x";simp only[bG,bU];refine ih hj hg hy (bz hi y (by simp)) hd λS2 X2=>?_;refine Lm hj (aV a y hg hy) hm (by omega) λS3 X3=>?_;refine JB hj ok ((aV a y hg hy).again hm) λS4 X4=>?_;refine hK _ _ ⟨some (.tup [.int m,y]),?_,X1.trans (X2.trans (X3.trans X4))⟩;rw[l8]
  rfl
 .rintro σ S1 ⟨x4,rfl,X1⟩;refine hN _ _ ?_;walk_at "x";exact k S1 X1
def MJ{xn xt xb xc xk s0 s1:ay}(Ka:k6 xn)(JO:ki xt)(JB:fe xb)(Mi:n_ xc)(Mj:kj xk)(n:Nat)(TD:on n s0)(ih:k8 n s1):k8 (n+1) (aT 6 (gV xn xt xb xc xk s0 s1)):=by
 intro S js us t v Q E hj hg hv hb hd k;unfold gV;refine cY ?_;rw[Bd.Lc,show ax 6 [eP js,.tup (.str t.hd::t.tl),v]=[some (eP js),some (.tup (.str t.hd::t.tl)),some v,none,none,none] from rfl];walk_at "3";walk_at "x";simp only[bG];walk_at "0";walk_at "x";refine Ka hj (hN _ _ (al λN hN=>?_));simp only[bm,aG,af,v3,lk,c3,aS,Uu,Us];by_cases h1:t.hd=("pay":Str)
 .rw[if_pos h1];obtain⟨x,y,rfl⟩:=(Bd.OD t).mp h1;unfold Ty.pv;walk_at "x";simp only[Bd.tl,bU,kC];rw[qS hg];exact k S .refl
 rw[if_neg h1];walk_at "0";simp only[bm,aG,af,v3,lk,c3,aS,Uu,Us];by_cases h2:t.hd=("put":Str)
 .rw[if_pos h2];obtain⟨z,m,rfl⟩:=(Bd.NN t).mp h2;unfold Ty.pv;walk_at "x";simp only[Bd.tl,bG,bU,kC];refine JO hj λS1 X1=>?_;have:=k S1 X1;rw[qV js z m 0];have e:(z0 js).dm=Ty.dm (0,jF js z m 0):=by
   unfold Ty.dm z0 zl jF;rw[UQ,UQ];exact Wi λj _=>by dsimp only [Function.comp];split<;>rfl
  rw[e];exact this
 rw[if_neg h2];walk_at "0";simp only[bm,aG,af,v3,lk,c3,aS,Uu,Us];by_cases h3:t.hd=("then":Str)
 .rw[if_pos h3];obtain⟨a,b,rfl⟩:=(Bd.MH t).mp h3;obtain⟨x,y,rfl,hx,hy⟩:=dM hv;walk_at "6";walk_at "x";simp only[Bd.tl,bG,bU,kC];refine ih hj hg.1 hx (bz hb x (by simp)) (by omega) λS1 X1=>?_;refine ih hj hg.2 hy (bz hb y (by simp)) (by omega) λS2 X2=>?_;refine JB hj (aV a x hg.1 hx) (aV b y hg.2 hy) λS3 X3=>?_;exact k S3 (X1.trans (X2.trans X3))
 rw[if_neg h3];walk_at "0";simp only[bm,aG,af,v3,lk,c3,aS,Uu,Us];by_cases h4:t.hd=("often":Str)
 .rw[if_pos h4];obtain⟨a,rfl⟩:=(Bd.MI t).mp h4;walk_at "6";walk_at "x";exact TD hj hg hv hb (by omega) k
 rw[if_neg h4];walk_at "0";walk_at "x";rw[show([PV.str "either",PV.str "take"]:List PV)=(["either","take"]:Vs).map PV.str from rfl];refine dY t.N7 F8 ?_;by_cases h5:t.hd∈(["either","take"]:Vs)
 .simp only[h5,Vt,VT,U3,UB,UZ];walk_at "0";simp only[Uv,UK,Vp]at h5;have side:∀(hd2:List PV)(a b c:Bd)(i:Int)(y:PV),(.str t.hd::t.tl)=hd2++[a.pv,b.pv]->hd2.length<=3->v = .tup [.int i,y]->(i=0\/i=1)->(if i=0 then a.pv else b.pv)=c.pv->c.good js us->aX c y=true->c.dep<=n->
    (∀S',Ext S S'->N [some (eP js),some (.tup (.str t.hd::t.tl)),some v,some (.str t.hd),some (z0 js).pv,some (c.Jw js y).pv] S')->ap 5 (ad s1 [v3 0,ad xc [v3 1,v3 2],af aa (v3 2) (c3 (.int 1))]) { nx:=N,rt:=Q,ex:=fE } [some (eP js),some (.tup (.str t.hd::t.tl)),some v,some (.str t.hd),some (z0 js).pv,none] S:=by
   intro hd2 a b c i y e1 e2 e3 hi e4 g1 g2 g3 kk;subst e3;simp only[ap,ad,am,af,v3,lk,c3];rw[e1];refine Mi hi e2 ?_;rw[e4];simp only[aa,bU];refine ih hj g1 g2 (bz hb y (by simp)) g3 λS1 X1=>?_;have:=kk S1 X1;rw[e1]at this;exact this
  rcases h5 with h5|h5
  .cases t with
   |IY a b=>
    obtain⟨i,y,rfl,hi⟩:=dN hv;walk_at "6";have fin:∀c:Bd,(Bd.IY a b).Jw js (.tup [.int i,y])=c.Jw js y->∀S',Ext S S'->N [some (eP js),some (.tup (.str (Bd.IY a b).hd::(Bd.IY a b).tl)),some (.tup [.int i,y]),some (.str (Bd.IY a b).hd),some (z0 js).pv,some (c.Jw js y).pv] S':=λc e S1 X1=>by
     walk_at "0";simp only[Bd.hd];walk_at "y";refine hN _ _ ?_;walk_at "x";rw[<-e];exact k S1 X1
    rcases hi with⟨rfl,h⟩|⟨rfl,h⟩
    .exact side [.str "either"] a b a 0 y rfl (by decide) rfl (.inl rfl) (if_pos rfl) hg.1 h (by omega) (fin a rfl)
    .exact side [.str "either"] a b b 1 y rfl (by decide) rfl (.inr rfl) (if_neg (by decide)) hg.2 h (by omega) (fin b rfl)
   |_=>simp[Bd.hd,av]at h5
  .cases t with
   |IV z m a b=>
    obtain⟨i,y,rfl,hi⟩:=dO hv;walk_at "6";rcases hi with⟨rfl,h⟩|⟨rfl,h⟩
    .refine side [.str "take",.str z,.int m] a b a 0 y rfl (Uo 3) rfl (.inl rfl) (if_pos rfl) hg.2.2.2.1 h (by omega) λS1 X1=>hN _ _ (al λN hN=>?_);simp only[Bd.hd];walk_at "y";refine Mj (a:=a) (b:=b) hj λS2 X2=>?_;refine JB hj (qY (by have:=hg.2.1;omega)) (aV a y hg.2.2.2.1 h) λS3 X3=>?_;exact k S3 (X1.trans (X2.trans X3))
    .refine side [.str "take",.str z,.int m] a b b 1 y rfl (Uo 3) rfl (.inr rfl) (if_neg (by decide)) hg.2.2.2.2 h (by omega) λS1 X1=>hN _ _ (al λN hN=>?_);simp only[Bd.hd];walk_at "y";refine hN _ _ ?_;walk_at "x";exact k S1 X1
   |_=>simp[Bd.hd,av]at h5
 .simp only[h5,WM,VT,VZ,U6];have e:t.Jw js v=z0 js:=by cases t<;>simp_all [Bd.hd,av]<;>rfl
  rw[<-e];exact k S .refl
abbrev jv(w:ay):Prop:=∀{S:aA}{js us:Vs}{ds:List (Str×Bd)}{i:Nat}{z:Str}{t:Bd}{v:PV}{Q:bB}{E:bR},js.length<=1000->ds[i]?=some (z,t)->t.good js us->aX t v=true->ci (2 ^ 60) v=true->t.dep<=6->(∀S',Ext S S'->Q (t.Jw js v).pv S')->w [bV js ds,.int i,v] S Q E
def Ln{xt:ay}(MJ:k8 6 xt):jv (aT 3 (qK xt)):=by
 intro S js us ds i z t v Q E hj hi hg hv hb hd k;unfold qK;refine cY ?_;rw[show ax 3 [bV js ds,.int i,v]=[some (.tup [eP js,.tup (ds.map fX)]),some (.int i),some v] from rfl];walk_at "x";simp only[bG,bU];rw[bj (v:=fX (z,t)) (by rw[Ut,hi];rfl)];unfold fX;simp only[bU];exact MJ hj hg hv hb hd k
def NC(S:aA)(t:Ty)(v:PV):Prop:=∃pe pd,v = .tup [cf t.1,.ref pe,.ref pd]/\S pe=some (.lst t.es)/\S pd=some (.lst t.dm)
def NC.mono{S S':aA}{t:Ty}{v:PV}(h:NC S t v)(e:Ext S S'):NC S' t v:=by
 obtain⟨pe,pd,h1,h2,h3⟩:=h;exact⟨pe,pd,h1,e _ _ h2,e _ _ h3⟩
def uC(n:Nat):bX 0 n=(List.range n).map λ(k:Nat)=>PV.int (k:Int):=by
 unfold bX;refine Wi λk _=>?_;simp
abbrev Qs:=Str->Bool
noncomputable def mq(hs:Vs):Qs:=λz=>decide (z∈hs)
noncomputable def Bd.shut(q:Qs):Bd->Nat->Bool
 | .IV z _ _ _,0=>!q z
 |_,_=>false
noncomputable def Bd.JY(q:Qs)(t:Bd)(r:Bool):List (Bd×Bool):=t.sides.mapIdx λi s=>(s,r&&!t.shut q i)
noncomputable def Bd.pr(q:Qs):Bd->Bool->List (Bd×Bool)
 | .rest,r=>[(.rest,r)]
 | .pay x y,r=>[(.pay x y,r)]
 | .put z m,r=>[(.put z m,r)]
 | .use z,r=>[(.use z,r)]
 | .IU a,r=>(.IU a,r)::a.pr q r
 | .IK a b,r=>(.IK a b,r)::(a.pr q r++b.pr q r)
 | .IY a b,r=>(.IY a b,r)::(a.pr q r++b.pr q r)
 | .IV z m a b,r=>(.IV z m a b,r)::(a.pr q (r&&q z)++b.pr q r)
def Bd.Po(q:Qs)(t:Bd)(r:Bool):t.pr q r=(t,r)::(t.JY q r).flatMap λp=>p.1.pr q p.2:=by
 cases t with
 |rest=>rfl
 |pay x y=>rfl
 |put z m=>rfl
 |use z=>rfl
 |IU a=>show _=_::(a.pr q (r&&!false)++[]);rw[VZ,XS,Vd];rfl
 |IK a b=>show _=_::(a.pr q (r&&!false)++(b.pr q (r&&!false)++[]));rw[VZ,XS,Vd];rfl
 |IY a b=>show _=_::(a.pr q (r&&!false)++(b.pr q (r&&!false)++[]));rw[VZ,XS,Vd];rfl
 |IV z m a b=>show _=_::(a.pr q (r&&!(!q z))++(b.pr q (r&&!false)++[]));rw[Bool.not_not,VZ,XS,Vd];rfl
theorem Bd.JZ(q:Qs):∀(t:Bd)(r:Bool),(t.pr q r).length=t.size
 | .rest,_=>rfl
 | .pay _ _,_=>rfl
 | .put _ _,_=>rfl
 | .use _,_=>rfl
 | .IU a,r=>by show(a.pr q r).length+1=a.size+1;rw[a.JZ q r]
 | .IK a b,r=>by show(a.pr q r++b.pr q r).length+1=a.size+b.size+1;rw[Um,a.JZ q r,b.JZ q r]
 | .IY a b,r=>by show(a.pr q r++b.pr q r).length+1=a.size+b.size+1;rw[Um,a.JZ q r,b.JZ q r]
 | .IV z m a b,r=>by show(a.pr q (r&&q z)++b.pr q r).length+1=a.size+b.size+1;rw[Um,a.JZ q _,b.JZ q r]
noncomputable def Bd.IL(q:Qs):Bd->List Str
 | .rest=>[]
 | .pay _ _=>[]
 | .put z _=>[z]
 | .use _=>[]
 | .IU a=>a.IL q
 | .IK a b=>a.IL q++b.IL q
 | .IY a b=>a.IL q++b.IL q
 | .IV z _ a b=>(if q z then a.IL q else [])++b.IL q
theorem Bd.Jg(q:Qs):∀(t:Bd)(u:Bd),(u,true) ∉ t.pr q false
 | .rest,u=>by simp[Bd.pr]
 | .pay _ _,u=>by simp[Bd.pr]
 | .put _ _,u=>by simp[Bd.pr]
 | .use _,u=>by simp[Bd.pr]
 | .IU a,u=>by
  show _ ∉ _::a.pr q false;rw[Uv,not_or];exact⟨by simp,a.Jg q u⟩
 | .IK a b,u=>by
  show _ ∉ _::(a.pr q false++b.pr q false);rw[Uv,not_or,Ur,not_or];exact⟨by simp,a.Jg q u,b.Jg q u⟩
 | .IY a b,u=>by
  show _ ∉ _::(a.pr q false++b.pr q false);rw[Uv,not_or,Ur,not_or];exact⟨by simp,a.Jg q u,b.Jg q u⟩
 | .IV z m a b,u=>by
  show _ ∉ _::(a.pr q (false&&q z)++b.pr q false);rw[Yi,Uv,not_or,Ur,not_or];exact⟨by simp,a.Jg q u,b.Jg q u⟩
theorem Bd.Jt(q:Qs){z:Str}:∀(t:Bd),z∈t.IL q↔∃m,(Bd.put z m,true)∈t.pr q true
 | .rest=>by simp[Bd.IL,Bd.pr]
 | .pay _ _=>by simp[Bd.IL,Bd.pr]
 | .put y m=>by
  show z∈[y]↔∃n,(Bd.put z n,true)∈[(Bd.put y m,true)];simp only[Uy,Prod.mk.injEq,Bd.put.injEq,and_true];exact⟨λh=>⟨m,h,rfl⟩,λ⟨_,h,_⟩=>h⟩
 | .use _=>by simp[Bd.IL,Bd.pr]
 | .IU a=>by
  show z∈a.IL q↔∃m,(Bd.put z m,true)∈(Bd.IU a,true)::a.pr q true;rw[a.Jt q];simp
 | .IK a b=>by
  show z∈a.IL q++b.IL q↔∃m,(Bd.put z m,true)∈(Bd.IK a b,true)::(a.pr q true++b.pr q true);rw[Ur,a.Jt q,b.Jt q];simp[exists_or]
 | .IY a b=>by
  show z∈a.IL q++b.IL q↔∃m,(Bd.put z m,true)∈(Bd.IY a b,true)::(a.pr q true++b.pr q true);rw[Ur,a.Jt q,b.Jt q];simp[exists_or]
 | .IV y m a b=>by
  show z∈(if q y=true then a.IL q else [])++b.IL q↔∃n,(Bd.put z n,true)∈(Bd.IV y m a b,true)::(a.pr q (true&&q y)++b.pr q true);rw[Ur,b.Jt q];cases h:q y with
  |true=>rw[if_pos rfl,a.Jt q];simp[exists_or]
  |false=>
   rw[if_neg (by decide)];have f:=a.Jg q;simp[f]
theorem Bd.JC{q p:Qs}(h:∀z,q z=true->p z=true){z:Str}:∀t:Bd,z∈t.IL q->z∈t.IL p
 | .rest,e=>e
 | .pay _ _,e=>e
 | .put _ _,e=>e
 | .use _,e=>e
 | .IU a,e=>a.JC h e
 | .IK a b,e=>Ur.mpr ((Ur.mp e).imp (a.JC h) (b.JC h))
 | .IY a b,e=>Ur.mpr ((Ur.mp e).imp (a.JC h) (b.JC h))
 | .IV y m a b,e=>by
  rcases Ur.mp (show z∈(if q y=true then a.IL q else [])++b.IL q from e)with e|e
  .by_cases hq:q y=true
   .rw[if_pos hq]at e;exact Ur.mpr (.inl (by show z∈(if p y=true then a.IL p else []);rw[if_pos (h y hq)];exact a.JC h e))
   .rw[if_neg hq]at e;cases e
  .exact Ur.mpr (.inr (b.JC h e))
theorem Bd.JD{q:Qs}{js us:Vs}{z:Str}:∀t:Bd,t.good js us->z∈t.IL q->z∈js
 | .rest,_,e=>by cases e
 | .pay _ _,_,e=>by cases e
 | .put _ _,g,e=>by rw[Uy.mp e];exact g.1
 | .use _,_,e=>by cases e
 | .IU a,g,e=>a.JD g e
 | .IK a b,g,e=>(Ur.mp e).elim (a.JD g.1) (b.JD g.2)
 | .IY a b,g,e=>(Ur.mp e).elim (a.JD g.1) (b.JD g.2)
 | .IV y m a b,g,e=>by
  rcases Ur.mp (show z∈(if q y=true then a.IL q else [])++b.IL q from e)with e|e
  .by_cases hq:q y=true
   .rw[if_pos hq]at e;exact a.JD g.2.2.2.1 e
   .rw[if_neg hq]at e;cases e
  .exact b.JD g.2.2.2.2 e
noncomputable def KS(q:Qs)(ds:List (Str×Bd)):List Str:=ds.flatMap λp=>p.2.IL q
def kl{q p:Qs}(h:∀z,q z=true->p z=true){ds:List (Str×Bd)}{z:Str}(e:z∈KS q ds):z∈KS p ds:=by
 obtain⟨d,hd,e⟩:=VR.mp e;exact VR.mpr ⟨d,hd,d.2.JC h e⟩
inductive Fs(ds:List (Str×Bd)):List Str->Prop
 |nil:Fs ds []
 |snoc {hs:Vs} {z:Str}:Fs ds hs->z∈KS (mq hs) ds->Fs ds (hs++[z])
noncomputable def held(ds:List (Str×Bd)):Nat->List Str
 |0=>[]
 |n+1=>KS (mq (held ds n)) ds
theorem gE:∀(hs js:Vs),hs.Nodup->(∀z∈hs,z∈js)->hs.length<=js.length
 |[],_,_,_=>UT _
 |z::r,js,hn,hj=>by
  have hz:=hj z (by simp);have h1:=gE r (js.erase z) (VE.mp hn).2 λy hy=>(List.mem_erase_of_ne (λe=>(VE.mp hn).1 (by rw[<-e];exact hy))).mpr (hj y (by simp[hy]));rw[List.length_erase_of_mem hz]at h1;have:=Xv hz;rw[UE];omega
def qZ{a b:Vs}(h:∀z∈a,z∈b)(z:Str)(e:mq a z=true):mq b z=true:=UO (h z (VP e))
def Be{ds:List (Str×Bd)}{hs:Vs}(h:Fs ds hs):∀k,hs.length<=k->∀z∈hs,z∈held ds k:=by
 induction h with
 |nil=>intro k _ z hz;cases hz
 |@snoc hs y hf hy ih=>
  intro k hk z hz;rw[Um,UM]at hk;rcases Ur.mp hz with hz|hz
  .exact ih k (by omega) z hz
  .rw[Uy.mp hz];obtain⟨k,rfl⟩:∃m,k=m+1:=⟨k - 1,by omega⟩
   exact kl (qZ (ih k (by omega))) hy
theorem vt{ds:List (Str×Bd)}{hs:Vs}(cl:∀z∈KS (mq hs) ds,z∈hs):∀k,∀z∈held ds k,z∈hs
 |0,z,hz=>by cases hz
 |k+1,z,hz=>cl z (kl (qZ (vt cl k)) hz)
def vv{ds:List (Str×Bd)}{js hs:Vs}(h:Fs ds hs)(hn:hs.Nodup)(hj:∀z∈hs,z∈js)(cl:∀z∈KS (mq hs) ds,z∈hs):mq (held ds js.length)=mq hs:=by
 funext z
 exact Yp.mpr ⟨vt cl _ z,Be h _ (gE hs js hn hj) z⟩
noncomputable def ja(p:Bd×Bool):PV:=.tup [p.1.pv,.bl p.2]
def rX(js:Vs):Prop:=∀z∈js,PyData.strOk z=true
abbrev oo(n:Nat)(w:ay):Prop:=∀{S:aA}{t:Bd}{js us hs:Vs}{nm:Addr}{r:Bool}{Q:bB}{E:bR},t.dep<=n->t.size<=900->t.good js us->rX js->rX hs->S nm=some (.lst (hs.map PV.str))->
  (∀p S',S p=none->Ext S S'->S' p=some (.lst ((t.pr (mq hs) r).map ja))->Q (.ref p) S')->w [t.pv,.ref nm,.bl r] S Q E
def Bd.NO{js us:Vs}{t s:Bd}(g:t.good js us)(h:s∈t.sides):s.good js us:=by
 cases t with
 |rest=>cases h
 |pay x y=>cases h
 |put z m=>cases h
 |use z=>cases h
 |IU a=>rw[Uy.mp h];exact g
 |IK a b=>
  rcases Uv.mp h with rfl|h
  .exact g.1
  .rw[Uy.mp h];exact g.2
 |IY a b=>
  rcases Uv.mp h with rfl|h
  .exact g.1
  .rw[Uy.mp h];exact g.2
 |IV z m a b=>
  rcases Uv.mp h with rfl|h
  .exact g.2.2.2.1
  .rw[Uy.mp h];exact g.2.2.2.2
def Bd.PQ(t:Bd):t.hd=("take":Str)↔∃z m a b,t = .IV z m a b:=by cases t<;>simp[Bd.hd,av]
def Bf{t:Bd}{js us hs:Vs}{nm:Addr}{S:aA}{i:Nat}{x2 x3 x5 x6:Option PV}{Q:bB}(g:t.good js us)(hj:rX js)(hh:rX hs)(hn:S nm=some (.lst (hs.map PV.str)))(q:Q (.bl (t.shut (mq hs) i)) S) :
  cw (af (aS false) (af aa (v3 0) (c3 (.int 0))) (c3 (.str "take"))) (cw (af (aS false) (v3 4) (c3 (.int 0))) (af (jN true) (af aa (v3 0) (c3 (.int 1))) (v3 1))) [some t.pv,some (.ref nm),x2,x3,some (.int (i:Int)),x5,x6] S Q fE:=by
 rw[Bd.Lc];simp only[cw,af,v3,lk,c3,aa,bG,aS,Uu];by_cases h:t.hd=("take":Str)
 .obtain⟨z,m,a,b,rfl⟩:=(Bd.PQ t).mp h;rw[UO h,if_pos rfl];cases i with
  |zero=>
   rw[UO (show((0:Nat):Int)=0 from rfl),if_pos rfl];simp only[Bd.tl,bU];refine eI hn (hj z g.1) hh ?_;rw[show(true != decide (z∈hs))=Bd.shut (mq hs) (Bd.IV z m a b) 0 by show _=!decide (z∈hs);cases decide (z∈hs)<;>rfl];exact q
  |succ i=>
   rw[UG (show ¬(((i+1:Nat):Int)=0) by omega),if_neg (by decide)];exact q
 .rw[UG h,if_neg (by decide)];have e:t.shut (mq hs) i=false:=by cases t<;>first|rfl|exact absurd rfl h
  rw[e]at q;exact q
def ND{xs s0:ay}(Lk:jr xs)(n:Nat)(ih:oo n s0):oo (n+1) (aT 7 (d9 xs s0)):=by
 intro S t js us hs nm r Q E hd Rl hg hj hh hn k;unfold d9;refine cY ?_;rw[show ax 7 [t.pv,.ref nm,.bl r]=[some t.pv,some (.ref nm),some (.bl r),none,none,none,none] from rfl];walk_at "3";walk_at "x";intro p hp;have X0:Ext S (II S p (.lst [.tup [t.pv,.bl r]])):=.new hp;have hp0:(II S p (.lst [.tup [t.pv,.bl r]])) p=some (.lst [.tup [t.pv,.bl r]]):=ac;generalize II S p (.lst [.tup [t.pv,.bl r]])=S0 at X0 hp0;walk_at "0";simp only[bS,eX,ad,am,v3,lk];refine Lk ?_;dsimp only;have hps:(t.JY (mq hs) r).length=t.sides.length:=V9;refine bp (λdone σ S'=>∃(x4 x5 x6:Option PV),σ=[some t.pv,some (.ref nm),some (.bl r),some (.ref p),x4,x5,x6]/\Ext S S'/\done.length<=t.sides.length/\S' p=some (.lst (((t,r)::((t.JY (mq hs) r).take done.length).flatMap λp=>p.1.pr (mq hs) p.2).map ja))) ⟨_,_,_,rfl,X0,UT _,hp0⟩ (λ_ _ _ _=>trivial) ?_ ?_
 .rintro done x rest σ S1 K e ⟨x4,x5,x6,rfl,X1,hl,h1⟩ hK;obtain⟨y,rfl,hy⟩:=i8 e;rw[Ut]at hy;cases hs':t.sides[done.length]? with
  |none=>rw[hs']at hy;cases hy
  |some s=>
  rw[hs']at hy;cases hy;have hlt:done.length < t.sides.length:=(UH.mp hs').1;have hr:s∈t.sides:=UD hs';have hrd:=Bd.NB hr;have hn1:=X1 _ _ hn;have hq:(t.JY (mq hs) r)[done.length]?=some (s,r&&!t.shut (mq hs) done.length):=by unfold Bd.JY;rw[WX,hs'];rfl
  simp only[Tg.put,Tg.IL,List.set_cons_succ,List.set_cons_zero];refine al λN2 JV=>?_;simp only[ap];refine Bf hg hj hh hn1 ?_;simp only[List.set_cons_succ,List.set_cons_zero];refine JV _ _ ?_;simp only[bg,jp,vg,am,ad,v3,lk,h1,Xz,cw,mI];have go:∀Q':bB,(∀q S2,S1 q=none->Ext S1 S2->S2 q=some (.lst ((s.pr (mq hs) (r&&!t.shut (mq hs) done.length)).map ja))->Q' (.ref q) S2)->s0 [s.pv,.ref nm,.bl (r&&!t.shut (mq hs) done.length)] S1 Q' fE:=λQ' k'=>ih (by omega) (by omega) (Bd.NO hg hr) hj hh hn1 k';have tail:∀q S2,S1 q=none->Ext S1 S2->S2 q=some (.lst ((s.pr (mq hs) (r&&!t.shut (mq hs) done.length)).map ja))->bT (.ref p) [.ref q] S2 (λ_ S3=>K [some t.pv,some (.ref nm),some (.bl r),some (.ref p),some (.int (done.length:Int)),some s.pv,some (.bl (t.shut (mq hs) done.length))] S3):=λq S2 hq2 X2 h2=>by
   simp only[bT,X2 _ _ h1,h2];have et:((t.JY (mq hs) r).take (done.length+1)).flatMap (λp=>p.1.pr (mq hs) p.2)=((t.JY (mq hs) r).take done.length).flatMap (λp=>p.1.pr (mq hs) p.2)++s.pr (mq hs) (r&&!t.shut (mq hs) done.length):=by
    rw[XA,hq,VN];simp
   have ln:((t,r)::((t.JY (mq hs) r).take (done.length+1)).flatMap λp=>p.1.pr (mq hs) p.2).length<=t.size:=by
    rw[<-Bd.JZ (mq hs) t r,Bd.Po];rw[UE,UE];have:(t.JY (mq hs) r).flatMap (λp=>p.1.pr (mq hs) p.2)=((t.JY (mq hs) r).take (done.length+1)).flatMap (λp=>p.1.pr (mq hs) p.2)++((t.JY (mq hs) r).drop (done.length+1)).flatMap (λp=>p.1.pr (mq hs) p.2):=by rw[<-VN,XI]
    rw[this,Um];omega
   rw[UE,et,Um]at ln;refine⟨bA (by simp only[Ul,List.length_cons];omega),?_⟩;refine hK _ _ ⟨_,_,_,rfl,(X1.trans X2).put hp,by rw[Um];exact hlt,?_⟩;rw[ac,Um,UM,et,<-U8]
   rfl
  cases r with
  |true=>rw[if_pos rfl];exact go _ tail
  |false=>rw[if_neg (by decide)];exact go _ tail
 .rintro σ S1 ⟨x4,x5,x6,rfl,X1,hl,h1⟩;refine hN _ _ ?_;walk_at "x";refine k p S1 hp X1 ?_;rw[h1,Bd.Po];have:(L3.aU (t.sides.map Bd.pv)).length=(t.JY (mq hs) r).length:=by unfold L3.aU;rw[V9,Ul,hps]
  rw[this,XO]
structure HG(js:Vs)(ds:List (Str×Bd)):Prop where
 jw:rX js
 jl:js.length<=50
 dl:ds.length<=1000
 gd:∀p∈ds,p.2.good js []
 dp:∀p∈ds,p.2.dep<=6
 sz:∀p∈ds,p.2.size<=60
def N8(ds:List (Str×Bd))(hs:Vs)(d tr:PV)(z:Str):Prop:=∃(dk pl:Nat)(dn:Str)(t:Bd)(m:Int),d = .int (dk:Int)/\tr=t.led pl (.tup [])/\ds[dk]?=some (dn,t)/\(t.pr (mq hs) true)[pl]?=some (.put z m,true)
def N8.IL{ds:List (Str×Bd)}{hs:Vs}{d tr:PV}{z:Str}:N8 ds hs d tr z->z∈KS (mq hs) ds:=λ⟨_,_,_,t,m,_,_,h1,h2⟩=>VR.mpr ⟨_,UD h1,(Bd.Jt (mq hs) t).mpr ⟨m,UD h2⟩⟩
abbrev oq(w:ay):Prop:=∀{S:aA}{js hs:Vs}{ds:List (Str×Bd)}{nm:Addr}{Q:bB}{E:bR},HG js ds->rX hs->S nm=some (.lst (hs.map PV.str))->
  (∀S',Ext S S'->(∀z∈KS (mq hs) ds,z∈hs)->Q .non S')->
  (∀(k:Nat) z d tr S',Ext S S'->js[k]?=some z->N8 ds hs d tr z->z ∉ hs->Q (.tup [.int (k:Int),d,tr]) S')->w [bV js ds,.ref nm] S Q E
def y3{js:Vs}{z:Str}(h:z∈js):∃k:Nat,js[k]?=some z/\∀j:Nat,j < k->js[j]?≠some z:=by
 induction js with
 |nil=>cases h
 |cons x r ih=>
  by_cases e:x=z
  .subst e;exact⟨0,rfl,λj hj=>absurd hj (Nat.not_lt_zero _)⟩
  .obtain⟨k,h1,h2⟩:=ih ((Uv.mp h).resolve_left (Ww e));refine⟨k+1,by simpa using h1,λj hj=>?_⟩;cases j with
   |zero=>simpa using e
   |succ j=>simpa using h2 j (by omega)
def Nf{xp xl:ay}(ND:oo 6 xp)(PR:k5 6 xl):oq (aT 7 (iY xp xl)):=by
 intro S js hs ds nm Q E hg hh hn k0 k1;unfold iY;refine cY ?_;rw[show ax 7 [bV js ds,.ref nm]=[some (.tup [eP js,.tup (ds.map fX)]),some (.ref nm),none,none,none,none,none] from rfl];walk_at "3";simp only[bS,eX,af,v3,lk,c3,aa,bU];refine bp (λdone σ S'=>∃(x2 x3 x4 x5 x6:Option PV),σ=[some (.tup [eP js,.tup (ds.map fX)]),some (.ref nm),x2,x3,x4,x5,x6]/\Ext S S'/\done.length<=ds.length/\∀p∈ds.take done.length,∀z∈p.2.IL (mq hs),z∈hs) ⟨_,_,_,_,_,rfl,.refl,UT _,by simp⟩ (λ_ _ _ _=>trivial) ?_ ?_
 .rintro done x rest σ S1 K e ⟨x2,x3,x4,x5,x6,rfl,X1,hl,hd⟩ hK;obtain⟨y,rfl,hy⟩:=i8 e;rw[Ut]at hy;cases hs':ds[done.length]? with
  |none=>rw[hs']at hy;cases hy
  |some p=>
  rw[hs']at hy;cases hy;obtain⟨dn,t⟩:=p;have hlt:done.length < ds.length:=(UH.mp hs').1;have hm:(dn,t)∈ds:=UD hs';have hn1:=X1 _ _ hn;simp only[Tg.put,Tg.IL,List.set_cons_succ,List.set_cons_zero];simp only[lR,am,af,v3,lk,c3,aa,fX,bU,List.cons_append,List.nil_append];refine ND (hg.dp _ hm) (by have:t.size<=60:=hg.sz _ hm;omega) (hg.gd _ hm) hg.jw hh hn1 λpl S2 hpl X2 h2=>?_;simp only[h2];have hn2:=X2 _ _ hn1;refine bp (λMZ σ S'=>∃(x4 x5 x6:Option PV),σ=[some (.tup [eP js,.tup (ds.map fX)]),some (.ref nm),some (.int (done.length:Int)),some (.tup [.str dn,t.pv]),x4,x5,x6]/\S'=S2/\∀z m,(Bd.put z m,true)∈(t.pr (mq hs) true).take MZ.length->z∈hs) ⟨_,_,_,rfl,rfl,by simp⟩ (λ_ _ _ ⟨_,_,_,_,h,_⟩=>by rw[h];exact h2) ?_ ?_
  .rintro MZ x Sx σ S3 K2 e2 ⟨y4,y5,y6,rfl,rfl,hd2⟩ QO;obtain⟨y,rfl,hy⟩:=i8 e2;rw[Ut]at hy;cases hu:(t.pr (mq hs) true)[MZ.length]? with
   |none=>rw[hu]at hy;cases hy
   |some u=>
   rw[hu]at hy;cases hy;obtain⟨u,f⟩:=u;have hup:MZ.length < t.size:=by rw[<-Bd.JZ (mq hs) t true];exact(UH.mp hu).1
   have Qn:(u,f)∈t.pr (mq hs) true:=UD hu;have cont:(f=true->∀z m,u=Bd.put z m->z∈hs)->∀(S':aA) (x6:Option PV),S'=S3->K2 [some (.tup [eP js,.tup (ds.map fX)]),some (.ref nm),some (.int (done.length:Int)),some (.tup [.str dn,t.pv]),some (.int (MZ.length:Int)),some (ja (u,f)),x6] S':=λhc S' x6 eS=>QO _ _ ⟨_,_,_,rfl,eS,λz m hz=>by
    rw[Um,UM,XA,hu,Ur]at hz;rcases hz with hz|hz
    .exact hd2 z m hz
    .have:(Bd.put z m,true)=(u,f):=by simpa using hz
     cases this;exact hc rfl z m rfl⟩
   simp only[Tg.put,Tg.IL,List.set_cons_succ,List.set_cons_zero];refine al λN3 N6=>?_;simp only[ap,af,v3,lk,c3,aa,ja,bG,List.set_cons_succ,List.set_cons_zero];refine N6 _ _ ?_;simp only[bm,eU,aG,af,v3,lk,c3,aa,bU];cases f with
   |false=>
    rw[if_neg (by decide),if_neg (by decide)];exact cont (λh=>by cases h) _ _ rfl
   |true=>
   rw[if_pos rfl,Bd.Lc];simp only[bG,bU,aS,Uu,Us];by_cases O_:u.hd=("put":Str)
   .obtain⟨z,m,rfl⟩:=(Bd.NN u).mp O_;rw[if_pos O_];have hz:z∈t.IL (mq hs):=(Bd.Jt (mq hs) t).mpr ⟨m,Qn⟩;have PU:z∈js:=t.JD (hg.gd _ hm) hz;simp only[Bd.tl,bU];refine eI hn2 (hg.jw z PU) hh ?_;by_cases hin:z∈hs
    .simp only[hin,Vt,VT,U3,UB,UZ];exact cont (λ_ z' m' e=>by cases e;exact hin) _ _ rfl
    .simp only[hin,WM,VT,VZ,U6];obtain⟨kk,hk1,hk2⟩:=y3 PU;simp only[aw,aD,am,ut,af,v3,lk,c3,aa,bG,bU,eP,fG,eZ];refine⟨kk,hk1,hk2,?_⟩;simp only[ad,am,af,v3,lk,c3,aa,bU,aD];refine PR (hg.dp _ hm) (by have:t.size<=60:=hg.sz _ hm;omega) hup λS4 X4=>?_;exact k1 kk z _ _ S4 (X1.trans (X2.trans X4)) hk1 ⟨done.length,MZ.length,dn,t,m,rfl,rfl,hs',hu⟩ hin
   .rw[if_neg O_,if_neg (by decide),<-Bd.Lc];exact cont (λ_ z m e=>absurd (by rw[e];rfl) O_) _ _ rfl
  .rintro σ S3 ⟨y4,y5,y6,rfl,rfl,hd2⟩;have ln:(L3.aU ((t.pr (mq hs) true).map ja)).length=(t.pr (mq hs) true).length:=by unfold L3.aU;rw[V9,Ul]
   rw[ln,XO]at hd2;refine hK _ _ ⟨_,_,_,_,_,rfl,X1.trans X2,by rw[Um];exact hlt,λp hp z hz=>?_⟩;rw[Um,UM,XA,hs',Ur]at hp;rcases hp with hp|hp
   .exact hd p hp z hz
   .have:p=(dn,t):=by simpa using hp
    subst this;obtain⟨m,hm'⟩:=(Bd.Jt (mq hs) t).mp hz;exact hd2 z m hm'
 .rintro σ S1 ⟨x2,x3,x4,x5,x6,rfl,X1,hl,hd⟩;refine hN _ _ ?_;have ln:(L3.aU (ds.map fX)).length=ds.length:=by unfold L3.aU;rw[V9,Ul]
  rw[ln,XO]at hd;walk_at "x";refine k0 S1 X1 λz hz=>?_;obtain⟨p,hp,hz⟩:=VR.mp hz;exact hd p hp z hz
def sO(js:Vs)(ds:List (Str×Bd))(hs:Vs)(v:PV)(z:Str):Prop:=∃(k:Nat)(d tr:PV),v = .tup [.int (k:Int),d,tr]/\js[k]?=some z/\N8 ds hs d tr z
abbrev dZ(w:ay):Prop:=∀{S:aA}{js:Vs}{ds:List (Str×Bd)}{Q:bB}{E:bR},HG js ds->
  (∀p (vs:List PV) (hs:Vs) S',S p=none->Ext S S'->S' p=some (.lst vs)->vs.length=hs.length->(∀(j:Nat) v z,vs[j]?=some v->hs[j]?=some z->sO js ds (hs.take j) v z)->Fs ds hs->hs.Nodup->(∀z∈hs,z∈js)->(∀z∈KS (mq hs) ds,z∈hs)->Q (.ref p) S')->w [bV js ds] S Q E
def Jx{xn:ay}(Nf:oq xn):dZ (aT 4 (lS xn)):=by
 intro S js ds Q E hg k;unfold lS;refine cY ?_;rw[show ax 4 [bV js ds]=[some (bV js ds),none,none,none] from rfl];walk_at "3";walk_at "x";intro pf hpf;walk_at "0";walk_at "x";intro pn QP;have RH:pf≠pn:=λe=>by rw[<-e,ac]at QP;cases QP
 have X0:Ext S (II (II S pf (.lst [])) pn (.lst [])):=(Ext.new hpf).trans (.new QP);have f0:(II (II S pf (.lst [])) pn (.lst [])) pf=some (.lst []):=by rw[ar RH,ac]
 have n0:(II (II S pf (.lst [])) pn (.lst [])) pn=some (.lst ([].map PV.str)):=ac;have RI:S pn=none:=(Ext.new hpf).free QP;generalize II (II S pf (.lst [])) pn (.lst [])=S0 at X0 f0 n0;walk_at "0"
 -- what holds Qo the next step is known
 have I0:∀(v:PV) (S1:aA) (vs:List PV) (hs:Vs) (N':cU->aA->Prop),True:=λ_ _ _ _ _=>trivial;have OR:∀(S1:aA)(vs:List PV)(hs:Vs)(R:PV->aA->Prop),Ext S S1->S1 pf=some (.lst vs)->S1 pn=some (.lst (hs.map PV.str))->vs.length=hs.length->(∀(j:Nat) v z,vs[j]?=some v->hs[j]?=some z->sO js ds (hs.take j) v z)->Fs ds hs->hs.Nodup->(∀z∈hs,z∈js)->
   (∀v S2,Ext S S2->S2 pf=some (.lst vs)->S2 pn=some (.lst (hs.map PV.str))->((v = .non/\∀z∈KS (mq hs) ds,z∈hs)\/(∃z,sO js ds hs v z/\z ∉ hs/\z∈js))->R v S2)->xn [bV js ds,.ref pn] S1 R fE:=by
  intro S1 vs hs R X1 f1 n1 h1 h2 h3 h4 h5 kk;refine Nf hg (λz hz=>hg.jw z (h5 z hz)) n1 (λS2 X2 cl=>kk _ S2 (X1.trans X2) (X2 _ _ f1) (X2 _ _ n1) (.inl ⟨rfl,cl⟩)) λkx z d tr S2 X2 a1 a2 a3=>?_;exact kk _ S2 (X1.trans X2) (X2 _ _ f1) (X2 _ _ n1) (.inr ⟨z,⟨kx,d,tr,rfl,a1,a2⟩,a3,UD a1⟩)
 simp only[ap,ad,am,v3,lk];refine OR S0 [] [] _ X0 f0 n0 rfl (λj v z h=>by cases h) .nil Yk (λz h=>by cases h) λv0 S1 X1 f1 n1 c1=>?_;simp only[List.set_cons_succ,List.set_cons_zero];walk_at "0";refine⟨λm σ S'=>∃(v:PV) (vs:List PV) (hs:Vs),σ=[some (bV js ds),some (.ref pf),some (.ref pn),some v]/\Ext S S'/\S' pf=some (.lst vs)/\S' pn=some (.lst (hs.map PV.str))/\vs.length=hs.length/\(∀(j:Nat) v z,vs[j]?=some v->hs[j]?=some z->sO js ds (hs.take j) v z)/\Fs ds hs/\hs.Nodup/\(∀z∈hs,z∈js)/\
   ((v = .non/\∀z∈KS (mq hs) ds,z∈hs)\/(∃z,sO js ds hs v z/\z ∉ hs/\z∈js))/\js.length - hs.length=m,⟨_,v0,[],[],rfl,X1,f1,n1,rfl,(λj v z h=>by cases h),.nil,Yk,(λz h=>by cases h),c1,rfl⟩,?_⟩
 rintro m σ S' ⟨v,vs,hs,rfl,X,f,nn,h1,h2,h3,h4,h5,c,rfl⟩;rcases c with⟨rfl,cl⟩|⟨z,⟨kx,d,tr,rfl,hk,hx⟩,hnz,PU⟩
 .simp only[aG,af,v3,lk,c3,BY,WT,UB,UZ];refine hN _ _ ?_;walk_at "x";exact k pf vs hs S' hpf X f h1 h2 h3 h4 h5 cl
 .simp only[aG,af,v3,lk,c3,BY,Bool.bne_false,U6];refine⟨λσ' NH=>∃(v:PV) (vs:List PV) (hs':Vs),σ'=[some (bV js ds),some (.ref pf),some (.ref pn),some v]/\Ext S NH/\NH pf=some (.lst vs)/\NH pn=some (.lst (hs'.map PV.str))/\vs.length=hs'.length/\(∀(j:Nat) v z,vs[j]?=some v->hs'[j]?=some z->sO js ds (hs'.take j) v z)/\Fs ds hs'/\hs'.Nodup/\(∀z∈hs',z∈js)/\
   ((v = .non/\∀z∈KS (mq hs') ds,z∈hs')\/(∃z,sO js ds hs' v z/\z ∉ hs'/\z∈js))/\js.length - hs'.length < js.length - hs.length,?_,?_⟩
  .rintro σ' NH ⟨v,vs,hs',rfl,a1,a2,a3,a4,a5,a6,a7,a8,a9,TF⟩;exact⟨_,TF,v,vs,hs',rfl,a1,a2,a3,a4,a5,a6,a7,a8,a9,rfl⟩
  .have hn1:(hs++[z]).Nodup:=Xy.mpr ⟨h4,by simp,λa ha b hb e=>hnz (by rw[<-Uy.mp hb,<-e];exact ha)⟩;have hj1:∀y∈hs++[z],y∈js:=λy hy=>(Ur.mp hy).elim (h5 y) λh=>by rw[Uy.mp h];exact PU
   have len:=gE (hs++[z]) js hn1 hj1;have hz:=hx.IL;have hjl:=hg.jl;rw[Um,UM]at len;refine al λN2 JV=>?_;walk_at "x";simp only[f,Xz];refine⟨UL (show _ < 1001 by omega) (by decide),JV _ _ (al λN2 JV=>?_)⟩;have TH:pn≠pf:=Ww RH;have Xa:Ext S (II S' pf (.lst (vs++[.tup [.int (kx:Int),d,tr]]))):=X.put hpf;have fa:(II S' pf (.lst (vs++[.tup [.int (kx:Int),d,tr]]))) pf=some (.lst (vs++[.tup [.int (kx:Int),d,tr]])):=ac;have na:(II S' pf (.lst (vs++[.tup [.int (kx:Int),d,tr]]))) pn=some (.lst (hs.map PV.str)):=by rw[ar TH];exact nn
   generalize II S' pf (.lst (vs++[.tup [.int (kx:Int),d,tr]]))=Sa at Xa fa na;rw[show bV js ds = .tup [eP js,.tup (ds.map fX)] from rfl];walk_at "x";simp only[na,Xz,bG,eP];rw[bj (v:=PV.str z) (by rw[Ut,hk];rfl)];simp only[na];refine⟨UL (show _ < 1001 by rw[Ul];omega) (by decide),JV _ _ ?_⟩;have Xb:Ext S (II Sa pn (.lst (hs.map PV.str++[.str z]))):=Xa.put RI;have fb:(II Sa pn (.lst (hs.map PV.str++[.str z]))) pf=some (.lst (vs++[.tup [.int (kx:Int),d,tr]])):=by rw[ar RH];exact fa
   have nb:(II Sa pn (.lst (hs.map PV.str++[.str z]))) pn=some (.lst ((hs++[z]).map PV.str)):=by rw[ac,U8];rfl
   generalize II Sa pn (.lst (hs.map PV.str++[.str z]))=Sb at Xb fb nb;have st1:∀(j:Nat) v y,(vs++[.tup [.int (kx:Int),d,tr]])[j]?=some v->(hs++[z])[j]?=some y->sO js ds ((hs++[z]).take j) v y:=λj v y hv hy=>by
    by_cases hj:j < vs.length
    .rw[U9 hj]at hv;rw[U9 (by omega)]at hy;rw[List.take_append_of_le_length (by omega)];exact h2 j v y hv hy
    .rw[Vg (by omega)]at hv;rw[Vg (by omega)]at hy;have e1:j - vs.length=0:=by
      have:=(UH.mp hv).1;rw[UM]at this;omega
     have e2:j - hs.length=0:=by omega
     rw[e1]at hv;rw[e2]at hy;cases hv;cases hy;refine⟨kx,d,tr,rfl,hk,?_⟩;rw[List.take_append_of_le_length (by omega),Xw (by omega)];exact hx
   simp only[ap,ad,am,v3,lk];refine OR Sb _ (hs++[z]) _ Xb fb nb (by simp[h1]) st1 (.snoc h3 hz) hn1 hj1 λv2 S2 X2 f2 n2 c2=>?_;simp only[List.set_cons_succ,List.set_cons_zero];exact⟨v2,_,hs++[z],rfl,X2,f2,n2,by simp[h1],st1,.snoc h3 hz,hn1,hj1,c2,by rw[Um,UM];omega⟩
def MV(js:Vs)(ds:List (Str×Bd))(hs:Vs):Prop:=Fs ds hs/\hs.Nodup/\(∀z∈hs,z∈js)/\∀z∈KS (mq hs) ds,z∈hs
abbrev hW(w:ay):Prop:=∀{S:aA}{js:Vs}{ds:List (Str×Bd)}{Q:bB}{E:bR},HG js ds->
  (∀p (hs:Vs) S',S p=none->Ext S S'->S' p=some (.lst (hs.map PV.str))->MV js ds hs->Q (.ref p) S')->w [bV js ds] S Q E
def sP{xf:ay}(Jx:dZ xf):hW (aT 1 (kg xf)):=by
 intro S js ds Q E hg k;unfold kg;refine cY ?_;rw[show ax 1 [bV js ds]=[some (bV js ds)] from rfl];simp only[aw,aJ,aL,ad,am,v3,lk];refine Jx hg λp vs hs S1 hp X1 h1 hl hst f1 f2 f3 f4=>?_;have hjl:=hg.jl;have hle:=gE hs js f2 f3;simp only[bW,h1];have ev:vs=(vs.zip hs).map Prod.fst:=by rw[List.map_fst_zip];omega
 have eh:(vs.zip hs).map (λz=>PV.str z.2)=hs.map PV.str:=by
  have:(vs.zip hs).map Prod.snd=hs:=by rw[List.map_snd_zip];omega
  calc _=((vs.zip hs).map Prod.snd).map PV.str:=by rw[UQ];rfl
   _=_:=by rw[this]
 have key:eB (.n 0) bZ (af aa (af aa (v3 1) (c3 (.int 0))) (af aa (v3 0) (c3 (.int 0)))) (eY 1 [0] [some (bV js ds)]) (λS'=>S' p=some (.lst vs)) (λys S2=>∀p,S2 p=none->Q (.ref p) (II S2 p (.lst ys))) ((vs.zip hs).map Prod.fst) [] S1:=by
  refine aQ Prod.fst (λz=>PV.str z.2) h1 (vs.zip hs) [] (λz hz=>?_) (by rw[UN,U0,VL];exact bA (by omega)) λq hq=>?_
  .obtain⟨j,hj⟩:=List.getElem?_of_mem hz;obtain⟨e1,e2⟩:=Vh.mp hj;obtain⟨kx,d,tr,ez,hk,_⟩:=hst j _ _ e1 e2;refine⟨_,rfl,λQ' q'=>?_⟩;rw[ez,show bV js ds = .tup [eP js,.tup (ds.map fX)] from rfl];walk_at "x";simp only[bG,eP];rw[bj (v:=PV.str z.2) (by rw[Ut,hk];rfl)];exact q'
  .rw[UX,eh];exact k q hs _ (X1.free hq) (X1.trans (.new hq)) ac ⟨f1,f2,f3,f4⟩
 rw[<-ev]at key;exact key
def LK(p:Addr)(S S':aA):Prop:=∀a o,S a=some o->a≠p->S' a=some o
def LK.refl{p:Addr}{S:aA}:LK p S S:=λ_ _ h _=>h
def LK.trans{p:Addr}{S S1 S2:aA}(a:LK p S S1)(b:LK p S1 S2):LK p S S2:=λx o h n=>b x o (a x o h n) n
def LK.upd{p:Addr}{S:aA}{o:SO}:LK p S (II S p o):=λx u h n=>by rw[ar n];exact h
abbrev l9(w:ay):Prop:=∀{S:aA}{d l e:Addr}{js:Vs}{Q:bB}{E:bR},IR S d l->S e=some (.lst [])->e≠d->e≠l->(∀(t:Bd) S',t.leaf->t.good js []->IR S' d l->JF d l S S'->Q t.pv S')->w [.ref d,.ref e] S Q E
def y8{wd wc:ay}(IJ:b8 wd)(L9:kQ wc):l9 (aT 4 (dW wd wc)):=by
 intro S d l e js Q E D he hed hel k;unfold dW;refine cY ?_;rw[show ax 4 [PV.ref d,PV.ref e]=[some (.ref d),some (.ref e),none,none] from rfl];walk_at "3";walk_at "x";refine IJ D (by decide) (by decide) λr S1 r0 r1 D1 O1=>?_;have Pa:=O1 _ _ he hed hel;walk_at "0";walk_at "x";simp only[Uu,Us]
 split
 .exact k .rest S1 trivial trivial D1 O1
 walk_at "0";walk_at "x";simp only[Uu,Us,Pa];have pay:wc [.ref d] S1 (λx S=>Q (.tup [.str "pay",x]) S) fE:=L9 D1 λx y S2 c D2 O2=>k (.pay x y) S2 trivial c D2 (O1.trans O2)
 split
 .rw[if_pos trivial];exact pay
 .rw[if_pos (show((([]:List PV).length:Nat):Int)=0 from rfl)];exact pay
def y9{α:Type}{xs:List α}{y:α}:JU (xs++[y]) (-1)=some y:=by
 unfold JU qi;rw[if_neg (by omega),if_pos (by simp;omega)];have:(-1+((xs++[y]).length:Int)).toNat=xs.length:=by simp;omega
 rw[this];show(xs++[y])[xs.length]?=some y;simp
def IB{r n:Nat}(h:r < n):seqIndex? (r:Int) n=some r:=by
 unfold seqIndex?;simp;omega
theorem pW{α β:Type}(f:α->β):∀(xs:List α)(i:Nat),(xs.map f).eraseIdx i=(xs.eraseIdx i).map f
 |[],_=>rfl
 |_::_,0=>rfl
 |x::r,i+1=>by simp only[UA,List.eraseIdx_cons_succ,pW f r i]
def wT{xs:List PV}{i:Nat}(h:i < xs.length):∃y∈xs,JU xs ((i:Int) - 1)=some y:=by
 cases i with
 |zero=>
  have hne:xs≠[]:=λe=>by rw[e]at h;cases h
  refine⟨xs.getLast hne,List.getLast_mem hne,?_⟩;have:=y9 (xs:=xs.dropLast) (y:=xs.getLast hne);rw[List.dropLast_concat_getLast hne]at this;exact this
 |succ i=>
  have e:(((i+1:Nat):Int) - 1)=(i:Int):=by omega
  exact⟨xs[i],V7 _,by rw[e];exact qO (Uq (by omega))⟩
structure CB(js:Vs)(t:Bd):Prop where
 g:t.good js []
 d:t.dep<=3
 s:t.size<=5
 p:t.IM+t.IS<=9
structure CI(js:Vs)(t:Bd):Prop where
 g:t.good js []
 d:t.dep<=2
 s:t.size<=3
 p:t.IM<=2
 r:t.IS=0
def Bd.KU{t:Bd}(h:t.leaf):t.IM=1/\t.IS=0:=by cases t<;>first|exact⟨rfl,rfl⟩|exact h.elim
theorem CI.put{js:Vs}{z:Str}{m:Int}(hz:z∈js)(h0:1<=m)(h1:m<=9):CI js (.put z m):=⟨⟨hz,h0,h1⟩,by simp[Bd.dep],by simp[Bd.size],by simp[Bd.IM],rfl⟩
theorem CI.IV{js:Vs}{z y:Str}{m m':Int}{f:Bd}(hz:z∈js)(h0:1<=m)(h1:m<=9)(hy:y∈js)(h2:1<=m')(h3:m'<=9)(hl:f.leaf)(hg:f.good js []):CI js (.IV y m' (.put z m) f):=
 ⟨⟨hy,h2,h3,⟨hz,h0,h1⟩,hg⟩,by simp only[Bd.dep,(Bd.Js hl).1];decide,by simp only[Bd.size,(Bd.Js hl).2];decide,by simp only[Bd.IM,(Bd.KU hl).1];decide,by simp only[Bd.IS,(Bd.KU hl).2]⟩
def CI.cb{js:Vs}{t:Bd}(h:CI js t):CB js t:=⟨h.g,by have:=h.d;omega,by have:=h.s;omega,by have:=h.p;have:=h.r;omega⟩
theorem CI.IK{js:Vs}{t f:Bd}(h:CI js t)(hl:f.leaf)(hg:f.good js []):CB js (.IK f t):=
 ⟨⟨hg,h.g⟩,by have:=h.d;have:=(Bd.Js hl).1;simp only[Bd.dep];omega,by have:=h.s;have:=(Bd.Js hl).2;simp only[Bd.size];omega,by have:=h.p;simp only[Bd.IM,Bd.IS,(Bd.KU hl).1,(Bd.KU hl).2,h.r];omega⟩
theorem CI.IY{js:Vs}{t f:Bd}(h:CI js t)(hl:f.leaf)(hg:f.good js []):CB js (.IY f t):=
 ⟨⟨hg,h.g⟩,by have:=h.d;have:=(Bd.Js hl).1;simp only[Bd.dep];omega,by have:=h.s;have:=(Bd.Js hl).2;simp only[Bd.size];omega,by have:=h.p;simp only[Bd.IM,Bd.IS,(Bd.KU hl).1,(Bd.KU hl).2,h.r];omega⟩
theorem CI.IU{js:Vs}{t:Bd}(h:CI js t):CB js (.IU t):=
 ⟨h.g,by have:=h.d;simp only[Bd.dep];omega,by have:=h.s;simp only[Bd.size];omega,by have:=h.p;have:=h.r;simp only[Bd.IM,Bd.IS];omega⟩
def MV.ok{js:Vs}{ds:List (Str×Bd)}{hs:Vs}(h:MV js ds hs)(hj:rX js):rX hs:=λz hz=>hj z (h.2.2.1 z hz)
def vx{js:Vs}{ds:List (Str×Bd)}{hs:Vs}(h:MV js ds hs):mq (held ds js.length)=mq hs:=vv h.1 h.2.1 h.2.2.1 h.2.2.2
abbrev Nb:=(Bd×Bool)×Nat
theorem hZ{α:Type}{g:Tg}{tc:kH}{te:ba}{σ':cU}{keep:aA->Prop}{fin:List PV->aA->Prop}{S:aA}(enc f:α->PV)(c:α->Bool)(hk:keep S):∀(xs:List α)(ys:List PV),
  (∀x∈xs,∃σ2,g.put (enc x) σ'=some σ2/\(∀K:Bool->aA->Prop,K (c x) S->tc σ2 S K fE)/\(c x=true->∀Q:bB,Q (f x) S->te σ2 S Q fE))->ys.length+xs.length<=sizeLine->fin (ys++(xs.filter c).map f) S->eB g tc te σ' keep fin (xs.map enc) ys S
 |[],ys,_,hl,hf=>⟨hk,by simpa using hl,by simpa using hf⟩
 |x::r,ys,h,hl,hf=>by
  obtain⟨σ2,e,h1,h2⟩:=h x (by simp);refine⟨hk,by simp at hl;omega,?_⟩;rw[e];refine h1 _ ?_;by_cases hc:c x=true
  .rw[if_pos hc];refine h2 hc _ (hZ enc f c hk r (ys++[f x]) (λy hy=>h y (by simp[hy])) (by simp at hl ⊢;omega) ?_);rw[Xk hc]at hf
   simpa using hf
  .rw[if_neg hc];refine hZ enc f c hk r ys (λy hy=>h y (by simp[hy])) (by simp at hl;omega) ?_;rw[Xl hc]at hf;exact hf
def q_{α:Type}(enc:α->PV)(xs:List α):L3.aU (xs.map enc)=xs.zipIdx.map λc=>.tup [.int (c.2:Int),enc c.1]:=by
 unfold L3.aU;rw[List.mapIdx_eq_zipIdx_map,List.zipIdx_map,UQ]
 rfl
noncomputable def Bd.rws(q:Qs)(t:Bd)(r:Bool):List (Bd×Bool):=(t.pr q r).filter λp=>p.1.IW
noncomputable def nums(k:Nat)(l:List (Bd×Bool)):List PV:=((l.zipIdx k).filter λc=>c.1.2).map λc=>.int (c.2:Int)
noncomputable def Bd.OS(q:Qs)(t:Bd):List PV:=nums 0 (t.rws q true)++[.int ((t.rws q true).length:Int)]
def gF(k:Nat)(p:Bd×Bool)(l:List (Bd×Bool)):nums k (p::l)=(if p.2 then [.int (k:Int)] else [])++nums (k+1) l:=by
 unfold nums;rw[List.zipIdx_cons,XN]
 split<;>rfl
def dh(k:Nat)(l m:List (Bd×Bool)):nums k (l++m)=nums k l++nums (k+l.length) m:=by
 unfold nums;rw[List.zipIdx_append,VD,U8]
def ot(k:Nat)(l:List (Bd×Bool)):(nums k l).length<=l.length:=by
 unfold nums;rw[Ul];exact UJ (WO _ _) (Yr List.length_zipIdx)
def vy(q:Qs)(t:Bd)(r:Bool):(t.rws q r).length<=t.size:=UJ (WO _ _) (Yr (t.JZ q r))
abbrev l_(w:ay):Prop:=∀{S:aA}{t:Bd}{js us hs:Vs}{nm:Addr}{Q:bB}{E:bR},t.dep<=6->t.size<=900->t.good js us->rX js->rX hs->S nm=some (.lst (hs.map PV.str))->
  (∀S',Ext S S'->Q (.tup (t.OS (mq hs))) S')->w [t.pv,.ref nm] S Q E
def y_{xp xh:ay}(ND:oo 6 xp)(Qp:kh xh):l_ (aT 4 (e7 xp xh)):=by
 intro S t js us hs nm Q E hd hz hg hj hh hn k;unfold e7;refine cY ?_;rw[show ax 4 [t.pv,.ref nm]=[some t.pv,some (.ref nm),none,none] from rfl];walk_at "3";simp only[ap,aJ,aL,lR,am,v3,lk,List.cons_append,List.nil_append];refine ND hd hz hg hj hh hn λp S1 hp X1 f1=>?_;simp only[bW,f1];have hpl:=t.JZ (mq hs) true;refine hZ ja ja (λp=>p.1.IW) f1 (t.pr (mq hs) true) [] (λx hx=>⟨_,rfl,?_,λ_ Q q=>q⟩) (bA (by rw[UN,U0,hpl];omega)) ?_
 .intro K hK;simp only[aG,ad,am,af,v3,lk,c3,aa,ja,eY,List.reduceReplicate,U4,Vd,List.set_cons_zero,bG];exact Qp hK
 intro p2 hp2;rw[UX];have X2:Ext S1 (II S1 p2 (.lst ((t.rws (mq hs) true).map ja))):=.new hp2;have f2:(II S1 p2 (.lst ((t.rws (mq hs) true).map ja))) p2=some (.lst ((t.rws (mq hs) true).map ja)):=ac;show N _ (II S1 p2 (.lst ((t.rws (mq hs) true).map ja)));generalize II S1 p2 (.lst ((t.rws (mq hs) true).map ja))=S2 at X2 f2;walk_at "0";simp only[ap,aJ,eX,v3,lk,List.set_cons_zero,List.set_cons_succ,f2];rw[q_];have hol:(t.rws (mq hs) true).length<=900:=UJ (vy _ _ _) hz;refine hZ (λc:Nb=>.tup [.int (c.2:Int),ja c.1]) (λc=>.int (c.2:Int)) (λc=>c.1.2) f2 (t.rws (mq hs) true).zipIdx [] (λc hc=>⟨_,rfl,?_,λ_ Q q=>q⟩) (bA (by rw[UN,U0,List.length_zipIdx];omega)) ?_
 .intro K hK;simp only[aG,af,v3,lk,c3,aa,ja,eY,List.reduceReplicate,U4,Vd,List.set_cons_zero,List.set_cons_succ,bU];exact hK
 intro p3 hp3;rw[UX];have X3:Ext S2 (II S2 p3 (.lst (nums 0 (t.rws (mq hs) true)))):=.new hp3;have f3:(II S2 p3 (.lst (nums 0 (t.rws (mq hs) true)))) p3=some (.lst (nums 0 (t.rws (mq hs) true))):=ac;have f32:=X3 _ _ f2;show N _ (II S2 p3 (.lst (nums 0 (t.rws (mq hs) true))));generalize II S2 p3 (.lst (nums 0 (t.rws (mq hs) true)))=S3 at X3 f3 f32;refine hN _ _ ?_;simp only[aw,ak,am,af,bf,v3,lk,bx,List.set_cons_zero,List.set_cons_succ,f32,Ul];intro p4 Om;have n4:p3≠p4:=λh=>by rw[h,Om]at f3;cases f3
 simp only[aR,ar n4,f3,ac];refine⟨bA (by have:=ot 0 (t.rws (mq hs) true);rw[UM];omega),λp5 Sy=>?_⟩;simp only[aW,lL,ac];exact k _ ((X1.trans (X2.trans X3)).trans ((Ext.new Om).trans (.new Sy)))
abbrev ma(w:ay):Prop:=∀{S:aA}{js:Vs}{ds:List (Str×Bd)}{Q:bB}{E:bR},HG js ds->
  (∀hs S',MV js ds hs->Ext S S'->Q (.tup (ds.map λp=>.tup (p.2.OS (mq hs)))) S')->w [bV js ds] S Q E
def MK{xf xr:ay}(Pb:hW xf)(Pc:l_ xr):ma (aT 2 (e8 xf xr)):=by
 intro S js ds Q E hG k;unfold e8;refine cY ?_;rw[show ax 2 [bV js ds]=[some (.tup [.tup (js.map PV.str),.tup (ds.map fX)]),none] from rfl];walk_at "3";simp only[ap,ad,am,v3,lk];refine Pb hG λnm hs S1 hnm X1 TJ hf=>?_;have hh:=hf.ok hG.jw;refine hN _ _ ?_;simp only[aw,ak,am,aJ,aL,af,v3,lk,c3,aa,bU,bW,List.set_cons_zero,List.set_cons_succ];refine e_ (λdone ys S'=>Ext S1 S'/\done.length<=ds.length/\ys=(ds.take done.length).map λp=>.tup (p.2.OS (mq hs))) ⟨.refl,UT _,rfl⟩ (λdone ys S' ⟨X,l,e⟩=>⟨trivial,bA (by rw[e,Ul,Vi];have:=hG.dl;omega)⟩) ?_ ?_
 .rintro done x rest ys S' K e ⟨X,l,rfl⟩ hK;have hget:(ds.map fX)[done.length]?=some x:=by rw[e];simp
  obtain⟨p,hp,rfl⟩:∃p,ds[done.length]?=some p/\fX p=x:=by rw[Ut]at hget;exact VC.mp hget
  have hm:=UD hp;have hlt:done.length < ds.length:=(UH.mp hp).1;simp only[fX,Tg.put,eY,List.reduceReplicate,UA,U4,List.cons_append,List.nil_append,List.set_cons_zero,List.set_cons_succ,lk,bZ,U6,ad,am,af,c3,v3,aa,bU,List.getElem?_cons_zero,List.getElem?_cons_succ,Option.join];refine Pc (hG.dp p hm) (UJ (hG.sz p hm) (by decide)) (hG.gd p hm) hG.jw hh (X _ _ TJ) λS2 X2=>hK _ _ ⟨X.trans X2,by rw[Um,UM];omega,?_⟩;rw[Um,UM,XA,hp,U8];rfl
 .rintro ys S' ⟨X,_,rfl⟩ q hq;rw[Ul,XO];simp only[aW,lL,ac];exact k hs _ hf (X1.trans (X.trans (.new hq)))
abbrev ff(n:Nat)(w:ay):Prop:=∀{S:aA}{t:Bd}{js us hs:Vs}{fs:List PV}{i:Nat}{r:Bool}{hl fd:Addr}{Q:bB}{E:bR},t.dep<=n->t.good js us->rX js->rX hs->S hl=some (.lst (hs.map PV.str))->S fd=some (.lst fs)->hl≠fd->fs.length+t.size<=1000->
  (∀S',LK fd S S'->S' fd=some (.lst (fs++nums i (t.rws (mq hs) r)))->Q (.int ((i+(t.rws (mq hs) r).length:Nat):Int)) S')->w [t.pv,.int (i:Int),.ref hl,.bl r,.ref fd] S Q E
def wU{s0:ay}(n:Nat)(ih:ff n s0):ff (n+1) (aT 5 (iZ s0)):=by
 intro S t js us hs fs i r hl fd Q E hd hg hj hh h1 h2 hne hsz k;have hb:=Bd.size_pos t;unfold iZ;refine cY ?_;rw[Bd.Lc,show ax 5 [.tup (.str t.hd::t.tl),.int (i:Int),.ref hl,.bl r,.ref fd]=[some (.tup (.str t.hd::t.tl)),some (.int (i:Int)),some (.ref hl),some (.bl r),some (.ref fd)] from rfl];walk_at "3"
 -- the row of the part itself
 have own:∀(S1:aA)(i1:Nat),LK fd S S1->S1 fd=some (.lst (fs++nums i ([(t,r)].filter λp=>p.1.IW)))->i1=i+([(t,r)].filter λp=>p.1.IW).length->N [some (.tup (.str t.hd::t.tl)),some (.int (i1:Int)),some (.ref hl),some (.bl r),some (.ref fd)] S1:=by
  intro S1 i1 X1 f1 ei;have h11:=X1 _ _ h1 hne;have TK:([(t,r)].filter λp=>p.1.IW).length<=1:=UJ (WO _ _) (by simp);have TL:=ot i ([(t,r)].filter λp=>p.1.IW);walk_at "0";simp only[bm,aG,af,v3,lk,c3,aa,bG,aS,Uu,Us];by_cases ho:t.hd=("often":Str)
  .rw[if_pos ho];cases t with
   |IU a=>
    walk_at "6";simp only[Bd.size]at hsz;simp only[Bd.hd,Bd.tl,aw,ad,am,af,v3,lk,c3,aa,bU];refine ih (by omega) hg hj hh h11 f1 hne (by rw[Um];omega) λS2 X2 f2=>?_;have er:(Bd.IU a).rws (mq hs) r=([(Bd.IU a,r)].filter λp=>p.1.IW)++a.rws (mq hs) r:=rfl;have:=k S2 (X1.trans X2) (by rw[f2,er,dh,VX,ei]);rw[er,Um,<-Nat.add_assoc,<-ei]at this;exact this
   |_=>simp[Bd.hd,av]at ho
  rw[if_neg ho];simp only[aO];walk_at "0";simp only[bm,aG,af,v3,lk,c3,aa,bG,aD,am];rw[show([PV.str "then",PV.str "either",PV.str "take"]:List PV)=(["then","either","take"]:Vs).map PV.str from rfl];refine dY t.N7 i7 ?_;rw[Uu];by_cases h3:t.hd∈(["then","either","take"]:Vs)
  .rw[UO h3];simp only[U6];have sides:∀(hd2:List PV)(a b:Bd),(.str t.hd::t.tl)=hd2++[a.pv,b.pv]->JU (.str t.hd::t.tl) (-1)=some b.pv/\JU (.str t.hd::t.tl) (-2)=some a.pv:=λhd2 a b e1=>⟨by rw[e1];have:=hJ (a:=a.pv) (b:=b.pv) (hd:=hd2) (i:=1) (.inr rfl);simpa using this,by rw[e1];have:=hJ (a:=a.pv) (b:=b.pv) (hd:=hd2) (i:=0) (.inl rfl);simpa using this⟩
   have both:∀(a b:Bd) (hd2:List PV) (r':Bool),(.str t.hd::t.tl)=hd2++[a.pv,b.pv]->a.dep<=n->b.dep<=n->t.size=a.size+b.size+1->a.good js us->b.good js us->t.rws (mq hs) r=([(t,r)].filter λp=>p.1.IW)++(a.rws (mq hs) r'++b.rws (mq hs) r)->
     (∀(S1:aA) (Q1:bB),S1 hl=some (.lst (hs.map PV.str))->Q1 (.bl r') S1->cw (v3 3) (oR (af (aS true) (af aa (v3 0) (c3 (.int 0))) (c3 (.str "take"))) (af (jN false) (af aa (v3 0) (c3 (.int 1))) (v3 2))) [some (.tup (.str t.hd::t.tl)),some (.int (i1:Int)),some (.ref hl),some (.bl r),some (.ref fd)] S1 Q1 fE)->
     ai (ap 1 (ad s0 [af aa (v3 0) (mQ d5 (c3 (.int 2))),v3 1,v3 2,cw (v3 3) (oR (af (aS true) (af aa (v3 0) (c3 (.int 0))) (c3 (.str "take"))) (af (jN false) (af aa (v3 0) (c3 (.int 1))) (v3 2))),v3 4]))
      (aw (ad s0 [af aa (v3 0) (mQ d5 (c3 (.int 1))),v3 1,v3 2,v3 3,v3 4])) { nx:=N,rt:=Q,ex:=fE } [some (.tup (.str t.hd::t.tl)),some (.int (i1:Int)),some (.ref hl),some (.bl r),some (.ref fd)] S1:=by
    intro a b hd2 r' e1 da db es ga gb et hr;obtain⟨sb,sa⟩:=sides hd2 a b e1;have hsa:=vy (mq hs) a r';have hna:=ot i1 (a.rws (mq hs) r');refine al λN2 JV=>?_;simp only[ap,am,ad,af,mQ,d5,v3,lk,c3,aa,sa];refine hr S1 _ h11 ?_;refine ih da ga hj hh h11 f1 hne (by rw[Um];omega) λS2 X2 f2=>?_;refine JV _ _ ?_;simp only[aw,am,ad,af,mQ,d5,v3,lk,c3,aa,sb,List.set_cons_zero,List.set_cons_succ];refine ih db gb hj hh (X2 _ _ h11 hne) f2 hne (by rw[Um,Um];omega) λS3 X3 f3=>?_;have:=k S3 (X1.trans (X2.trans X3)) (by rw[f3,et,dh,dh,<-ei,VX,VX]);rw[et,Um,Um]at this;have e9:i+(([(t,r)].filter λp=>p.1.IW).length+((a.rws (mq hs) r').length+(b.rws (mq hs) r).length))=i1+(a.rws (mq hs) r').length+(b.rws (mq hs) r).length:=by omega
    rw[e9]at this;exact this
   cases t with
   |IK a b=>
    walk_at "6";refine both a b [.str "then"] r rfl (by omega) (by omega) rfl hg.1 hg.2 (by show((a.pr (mq hs) r++b.pr (mq hs) r).filter _)=_;rw[VD];rfl) λS1 Q1 h1 q1=>?_;have en:decide (("then":Str) = "take")=false:=by decide
    simp only[cw,oR,af,v3,lk,c3,aa,bG,aS,Bd.hd,en,VT,VZ,U6];cases r
    .exact q1
    .exact q1
   |IY a b=>
    walk_at "6";refine both a b [.str "either"] r rfl (by omega) (by omega) rfl hg.1 hg.2 (by show(_::(a.pr (mq hs) r++b.pr (mq hs) r).filter _)=_;rw[VD];rfl) λS1 Q1 h1 q1=>?_;have en:decide (("either":Str) = "take")=false:=by decide
    simp only[cw,oR,af,v3,lk,c3,aa,bG,aS,Bd.hd,en,VT,VZ,U6];cases r
    .exact q1
    .exact q1
   |IV z m a b=>
    walk_at "6";refine both a b [.str "take",.str z,.int m] (r&&mq hs z) rfl (by omega) (by omega) rfl hg.2.2.2.1 hg.2.2.2.2 (by show(_::(a.pr (mq hs) (r&&mq hs z)++b.pr (mq hs) r).filter _)=_;rw[VD];rfl) λS1 Q1 h1 q1=>?_;simp only[cw,oR,af,v3,lk,c3,aa,bG,bU,aS,Bd.hd,Bd.tl,Vt,VT,U3,UB,UZ];cases r
    .exact q1
    .simp only[U6];refine eI h1 (hj z hg.1) hh ?_;rw[Uu];exact q1
   |_=>simp[Bd.hd,av]at h3
  .rw[UG h3];simp only[UB,UZ,aO];refine hN _ _ ?_;simp only[aw,v3,lk];have er:t.rws (mq hs) r=[(t,r)].filter λp=>p.1.IW:=by cases t<;>first|rfl|exact absurd rfl ho|simp[Bd.hd]at h3
   have:=k S1 X1 (by rw[f1,er]);rw[er,<-ei]at this;exact this
 have e1:(t.hd≠("rest":Str)/\t.hd≠("then":Str))↔t.IW=true:=by cases t<;>simp[Bd.hd,av,Bd.IW]
 simp only[bm,eU,aG,af,v3,lk,c3,aa,bG,aS,VT,Bool.not_eq_true',decide_eq_false_iff_not];by_cases hr:t.IW=true
 .obtain⟨n1,n2⟩:=e1.mpr hr;rw[if_pos n1,if_pos n2];have ef:([(t,r)].filter λp=>p.1.IW)=[(t,r)]:=Xk (p:=λp:Bd×Bool=>p.1.IW) hr;refine al λN2 JV=>?_;simp only[bm,aG,v3,lk];cases r
  .simp only[UB,UZ,aO];refine JV _ _ ?_;simp only[ap,af,v3,lk,c3,aR,List.set_cons_zero,List.set_cons_succ];exact own S (i+1) .refl (by rw[ef,gF];simpa [nums]using h2) (by rw[ef];rfl)
  .simp only[U6,bg,jp,vg,am,v3,lk,h2,Xz,cp];refine⟨UL (show fs.length < 1000 by omega) (by decide),JV _ _ ?_⟩;simp only[ap,af,v3,lk,c3,aR,List.set_cons_zero,List.set_cons_succ];exact own _ (i+1) .upd (by rw[ac,ef,gF];rfl) (by rw[ef];rfl)
 .have ef:([(t,r)].filter λp=>p.1.IW)=[]:=Xl (p:=λp:Bd×Bool=>p.1.IW) hr;have hno:=own S i .refl (by rw[ef];simpa [nums]using h2) (by rw[ef];rfl);have TM:¬(t.hd≠("rest":Str)/\t.hd≠("then":Str)):=λh=>hr (e1.mp h);by_cases n1:t.hd≠("rest":Str)
  .rw[if_pos n1,if_neg (λh=>TM ⟨n1,h⟩)];exact hno
  .rw[if_neg n1];exact hno
structure On(S0 S:aA)(d l p po pb:Addr)(W O B:List PV):Prop where
 D:IR S d l
 w:S p=some (.lst W)
 o:S po=some (.lst O)
 b:S pb=some (.lst B)
 n:p≠d/\p≠l/\po≠d/\po≠l/\pb≠d/\pb≠l/\p≠pb/\po≠pb
 x:JF d l S0 S
 f:S0 pb=none
def On.Op{S0 S S':aA}{d l p po pb:Addr}{W O B:List PV}(h:On S0 S d l p po pb W O B)(D':IR S' d l)(X:JF d l S S'):On S0 S' d l p po pb W O B:=
 ⟨D',X _ _ h.w h.n.1 h.n.2.1,X _ _ h.o h.n.2.2.1 h.n.2.2.2.1,X _ _ h.b h.n.2.2.2.2.1 h.n.2.2.2.2.2.1,h.n,h.x.trans X,h.f⟩
theorem On.new{S0 S:aA}{d l p po pb q:Addr}{W O B:List PV}{o:SO}(h:On S0 S d l p po pb W O B)(hq:S q=none):On S0 (II S q o) d l p po pb W O B:=
 h.Op (h.D.new hq) (.new hq)
theorem On.put{S0 S:aA}{d l p po pb:Addr}{W O B B':List PV}(h:On S0 S d l p po pb W O B):On S0 (II S pb (.lst B')) d l p po pb W O B':=
 ⟨h.D.upd h.n.2.2.2.2.1 h.n.2.2.2.2.2.1,by rw[ar h.n.2.2.2.2.2.2.1];exact h.w,by rw[ar h.n.2.2.2.2.2.2.2];exact h.o,ac,h.n,h.x.put h.f,h.f⟩
structure Wl where
 jars:List Int
 cost:Int
 rows:List (Int×List Int×Int)
 st:Option Int
 ov:Bool
noncomputable def Wl.run(w:Wl):Bool:=w.st.isNone&&!w.ov
noncomputable def Wl.go(w:Wl)(f:Wl->Wl):Wl:=if w.run=true then f w else w
noncomputable def Wl.I9(js:Vs)(z:Str)(m:Int)(w:Wl):Wl:={ w with jars:=w.jars.set (js.idxOf z) (w.jars.getD (js.idxOf z) 0+m) }
noncomputable def Wl.pay(n:Int)(w:Wl):Wl:={ w with cost:=w.cost+n }
noncomputable def iter(f:Wl->Wl):Nat->Wl->Wl
 |0,w=>w
 |n+1,w=>iter f n (f w)
noncomputable def jx:PV->PV
 | .tup (x::_)=>x
 |v=>v
noncomputable def cP:PV->PV
 | .tup [_,y]=>y
 |v=>v
noncomputable def nm:PV->Int
 | .int i=>i
 |_=>0
noncomputable def F_:PV->List PV
 | .tup xs=>xs
 |_=>[]
def Wl.N9{w:Wl}{f:Wl->Wl}(h:w.run=false):w.go f=w:=by unfold Wl.go;rw[h];rfl
def Wl.LL{w:Wl}{f:Wl->Wl}(h:w.run=true):w.go f=f w:=by unfold Wl.go;rw[h];rfl
def re{w:Wl}{r:Int}(h:w.st=some r):w.run=false:=by unfold Wl.run;rw[h];rfl
def Pd{w:Wl}:w.run=true↔w.st=none/\w.ov=false:=by unfold Wl.run;simp
theorem sQ{P:Wl->Prop}{f:Wl->Wl}(h:∀w,P w->P (f w)):∀n w,P w->P (iter f n w)
 |0,_,q=>q
 |n+1,w,q=>sQ h n (f w) (h w q)
theorem sR{P:Wl->Prop}{f:PV->Wl->Wl}(h:∀v w,P w->P (f v w)):∀(l:List PV)(w:Wl),P w->P (l.foldl (λw v=>f v w) w)
 |[],_,q=>q
 |v::l,w,q=>sR h l (f v w) (h v w q)
theorem fg{z:Str}:∀{js:Vs},z∈js->js[js.idxOf z]?=some z/\(∀j:Nat,j < js.idxOf z->js[j]?≠some z)/\js.idxOf z < js.length
 |[],h=>by simp at h
 |y::js,h=>by
  rw[List.idxOf_cons];by_cases e:y=z
  .subst e;simp
  .have hz:z∈js:=by simpa [Ww e]using h
   obtain⟨a,b,c⟩:=fg hz;have e2:(y == z)=false:=by simpa using e
   rw[e2];refine⟨by simpa using a,λj hj=>?_,by simpa using c⟩;cases j with
   |zero=>simpa using e
   |succ j=>simpa using b j (by simpa using hj)
def pX{js:Vs}{z:Str}{m c:Int}{w:Wl}(h:c∈(w.I9 js z m).jars):c∈w.jars\/((js.idxOf z < w.jars.length)/\c=w.jars.getD (js.idxOf z) 0+m):=by
 unfold Wl.I9 at h;dsimp only at h;by_cases hl:js.idxOf z < w.jars.length
 .rcases List.mem_or_eq_of_mem_set h with h|h
  .exact .inl h
  .exact .inr ⟨hl,h⟩
 .rw[List.set_eq_of_length_le (by omega)]at h;exact .inl h
def getD_mem{xs:Vu}{i:Nat}(h:i < xs.length):xs.getD i 0∈xs:=by rw[List.getD_eq_getElem?_getD,Uq h];exact V7 h
noncomputable def bQ:Bd->PV->Nat
 | .rest,_=>0
 | .pay _ _,_=>1
 | .put _ _,_=>2
 | .use _,_=>1
 | .IK a b,v=>bQ a (jx v)+bQ b (cP v)
 | .IY a b,v=>(if nm (jx v)=0 then bQ a (cP v) else bQ b (cP v))+1
 | .IV _ _ a b,v=>(if nm (jx v)=0 then bQ a (cP v) else bQ b (cP v))+2
 | .IU a,v=>(F_ v).foldl (λk g=>k+(nm (jx g)).toNat * (bQ a (cP g)+1)) 0+1
def Ed{a b c d u v:Nat}(h1:c<=2 * a * 4 ^ u)(h2:d<=2 * b * 4 ^ v):c+d<=2 * (a+b+1) * 4 ^ (u+v):=by
 have q1:=W3 (2 * a) (VB (n:=4) (by decide) (show u<=u+v by omega));have q2:=W3 (2 * b) (VB (n:=4) (by decide) (show v<=u+v by omega));rw[show 2 * (a+b+1)=2 * a+2 * b+2 by omega,Nat.add_mul,Nat.add_mul];omega
def Ee{a n c u:Nat}(hn:a+1<=n)(h:c<=2 * a * 4 ^ u):c+2<=2 * n * 4 ^ u:=by
 have q:=WY (4 ^ u) (show 2 * a+2<=2 * n by omega);rw[Nat.add_mul]at q;have:=Nat.pow_pos (n:=u) (show 0 < 4 by decide);omega
def Ef{s c k m u v:Nat}(h1:k+1<=2 * (s+1) * 4 ^ u)(h2:c<=2 * s * 4 ^ v)(hm:m<=3):k+m * (c+1)+1<=2 * (s+1) * 4 ^ (u+1+v):=by
 have a1:=Nat.pow_pos (n:=u) (show 0 < 4 by decide);have b1:=Nat.pow_pos (n:=v) (show 0 < 4 by decide);rw[Nat.pow_add,Nat.pow_add,Nat.pow_one];generalize 4 ^ u=A at *;generalize 4 ^ v=B at *;have q0:c+1<=2 * (s+1) * B:=by rw[show 2 * (s+1)=2 * s+2 by omega,Nat.add_mul];omega
 have q1:=WY (c+1) hm;have q2:2 * (s+1) * A<=2 * (s+1) * (A * B):=W3 _ (Nat.le_mul_of_pos_right A b1);have q3:2 * (s+1) * B<=2 * (s+1) * (A * B):=W3 _ (XC B a1);have q4:2 * (s+1) * (A * 4 * B)=4 * (2 * (s+1) * (A * B)):=by rw[Nat.mul_right_comm A 4 B,<-Nat.mul_assoc,Nat.mul_comm]
 omega
abbrev k9(n:Nat)(w:ay):Prop:=∀{S:aA}{d l x:Addr}{t:Bd}{left:Int}{Q:bB}{E:bR},IR S d l->S x=some (.lst [.int left])->x≠d->x≠l->0<=left->t.dep<=n->
  (∀v S' left',aX t v=true->ci (2 ^ 60) v=true->bQ t v<=2 * t.size * 4 ^ (left - left').toNat->0<=left'->left'<=left->IR S' d l->S' x=some (.lst [.int left'])->LJ d l x S S'->Q v S')->w [.ref d,t.pv,.ref x] S Q E
def Eg{xd s0 : ay}(IJ : b8 xd)(n : Nat)(ih : k9 n s0) : k9 (n + 1) (aT 7 (gU xd s0)) := by
 intro S d l x t left Q E D hx hxd Nd h0 hd k;unfold gU;refine cY ?_;rw [show ax 7 [PV.ref d, t.pv, PV.ref x] = [some (.ref d), some t.pv, some (.ref x), none, none, none, none] from rfl];refine al λN hN => ?_;simp only [bm, aG, af, v3, lk, c3];rw [Bd.Lc];simp only [aa, bG, aS, Uu, Us];by_cases ht : t.hd = ("then" : Str)
 .rw [if_pos ht];obtain ⟨a, b, rfl⟩ := (Bd.MH t).mp ht;simp only [Bd.dep] at hd;walk_at "y";simp only [Bd.tl, bU, kC];refine ih (t := a) D hx hxd Nd h0 (by omega) λv1 S1 l1 i1 n1 c1 q0 q1 D1 x1 O1 => ?_;refine ih (t := b) D1 x1 hxd Nd q0 (by omega) λv2 S2 l2 i2 n2 c2 r0 r1 D2 x2 O2 => ?_;exact k (.tup [v1, v2]) S2 l2 (by rw [i9, i1, i2]; rfl) (b9 n1 n2) (by rw [show (left - l2).toNat = (left - l1).toNat + (l1 - l2).toNat by omega]; exact Ed c1 c2) r0 (by omega) D2 x2 (O1.trans O2)
 rw [if_neg ht];refine hN _ _ (al λN hN => ?_);simp only [bm, iy, aG, af, v3, lk, c3];simp only [aa, bG, aS, Uu, Us];have two : ∀ (hd2 : List PV) (a b : Bd) (N' : cU -> aA -> Prop), .str t.hd :: t.tl = hd2 ++ [a.pv, b.pv] -> a.dep <= n -> b.dep <= n -> t.size = a.size + b.size + 1 -> (∀ (i : Int) y, bQ t (.tup [.int i, y]) <= (if i = 0 then bQ a y else bQ b y) + 2) -> (∀ (i : Int) y, aX t (.tup [.int i, y]) = if i = 0 then aX a y else if i = 1 then aX b y else false) ->
   ai (ap 4 (ad xd [v3 0, c3 (.int 2)])) (aw (aD [v3 4, ad s0 [v3 0, af aa (v3 1) (af bd (v3 4) (c3 (.int 2))), v3 2]])) { nx := N', rt := Q, ex := fE } [some (.ref d), some (.tup (.str t.hd :: t.tl)), some (.ref x), none, none, none, none] S := by
  intro hd2 a b N' e hda hdb hsz Sz SA;rw [e];refine al λN2 JV => ?_;walk_at "x";refine IJ D (by decide) (by decide) λi S1 i0 i1 D1 O1 => ?_;refine JV _ _ ?_;have hi : i = 0 \/ i = 1 := by omega
  walk_at "x";rw [hJ hi];have go : ∀ c : Bd, c.dep <= n -> c.size + 1 <= t.size -> (∀ y, bQ t (.tup [.int i, y]) <= bQ c y + 2) -> (∀ y, aX t (.tup [.int i, y]) = aX c y) -> s0 [.ref d, c.pv, .ref x] S1 (λv S2 => Q (.tup [.int i, v]) S2) fE := λc hc hc2 cc ec => by
   refine ih (t := c) D1 (O1 _ _ hx hxd Nd) hxd Nd h0 hc λv1 S2 l1 j1 n1 c1 q0 q1 D2 x1 O2 => ?_;exact k (.tup [.int i, v1]) S2 l1 (by rw [ec, j1]) (b9 (sJ (by rcases hi with rfl | rfl <;> decide)) n1) (UJ (cc v1) (Ee hc2 c1)) q0 q1 D2 x1 (O1.x.trans O2)
  rcases hi with rfl | rfl
  .exact go a hda (by omega) (λy => Sz 0 y) λy => by rw [SA]; rfl
  .exact go b hdb (by omega) (λy => Sz 1 y) λy => by rw [SA]; rfl
 by_cases he : t.hd = ("either" : Str)
 .rw [if_pos he, if_pos trivial];cases t with
  | IY a b => simp only [Bd.dep] at hd; exact two [.str "either"] a b _ rfl (by omega) (by omega) rfl (λ_ _ => XW _) (λ_ _ => rfl)
  | _ => simp [Bd.hd, av] at he
 rw [if_neg he];by_cases hk : t.hd = ("take" : Str)
 .rw [if_pos hk];cases t with
  | IV z mm a b => simp only [Bd.dep] at hd; exact two [.str "take", .str z, .int mm] a b _ rfl (by omega) (by omega) rfl (λ_ _ => Uo _) (λ_ _ => rfl)
  | _ => simp [Bd.hd, av] at hk
 rw [if_neg hk];refine hN _ _ (al λN hN => ?_);walk_at "x";intro pf hpf;have Pp := D.free hpf;have hpx : pf ≠ x := λh => by rw [h, hx] at hpf; cases hpf
 have D1 : IR (II S pf (.lst [])) d l := D.new hpf;have x1 : (II S pf (.lst [])) x = some (.lst [.int left]) := by rw [ar hpx.symm]; exact hx
 have O1 : LJ d l x S (II S pf (.lst [])) := (JF.new hpf).x;have f1 : (II S pf (.lst [])) pf = some (.lst []) := ac;generalize II S pf (.lst []) = S1 at D1 x1 O1 f1;refine hN _ _ (al λN hN => ?_);simp only [bS, iQ, af, ad, am, ak, v3, lk, c3];refine IJ D1 (by decide) (by decide) λr S2 r0 r1 D2 O2 => ?_;have x2 := O2 _ _ x1 hxd Nd;have f2 := O2 _ _ f1 Pp.1 Pp.2;have Pq := O1.trans (O2.x (x := x));simp only [aa, bG, aS, eW, b_, Uu, Us];by_cases ho : t.hd = ("often" : Str)
 .rw [if_pos ho];refine ⟨sE (by omega) (by omega), by omega, by omega, ?_⟩;obtain ⟨a, rfl⟩ := (Bd.MI t).mp ho;simp only [Bd.dep] at hd;obtain ⟨rr, er⟩ : ∃ rr : Nat, r * 1 = (rr : Int) := ⟨r.toNat, by omega⟩
  rw [er, Vk];refine bp (λdone σ S' => ∃ (vs : List PV) (l2 : Int) (x6 : Option PV), σ = [some (.ref d), some (Bd.IU a).pv, some (.ref x), none, none, some (.ref pf), x6] /\ vs.length <= done.length /\ done.length <= rr /\ (∀ v ∈ vs, kT a v = true /\ ci (2 ^ 60) v = true) /\ bQ (.IU a) (.tup vs) <= 2 * (a.size + 1) * 4 ^ (left - l2).toNat /\ 0 <= l2 /\ l2 <= left /\ IR S' d l /\ S' x = some (.lst [.int l2]) /\ S' pf = some (.lst vs) /\ LJ d l x S S') ⟨[], left, _, rfl, Uo _, UT _, by simp, by rw [Int.sub_self]; show 1 <= 2 * (a.size + 1) * 1; omega, h0, VF _, D2, x2, f2, Pq⟩ (λ_ _ _ _ => trivial) ?_ ?_
  .rintro done y rest σ S3 K e ⟨vs, l2, x6, rfl, hv, hdl, hvs, hc, q0, q1, D3, x3, f3, O3⟩ hK;obtain ⟨rfl, hi⟩ := qN e;simp only [Tg.put, List.set_cons_succ, List.set_cons_zero];simp only [bm, aG, af, v3, lk, c3, aa, x3, bG, m6, cA, Us];by_cases hl2 : 0 < l2
   .rw [if_pos hl2];refine al λN2 JV => ?_;walk_at "x";simp only [x3, bG, qi];have e1 : (if (0 : Int) <= 0 then if (0 : Int) < (([PV.int l2] : List PV).length : Nat) then some (0 : Int).toNat else none else if -((([PV.int l2] : List PV).length : Nat) : Int) <= 0 then some (0 + ((([PV.int l2] : List PV).length : Nat) : Int)).toNat else none) = some 0 := rfl;rw [e1];dsimp only;have D4 : IR (II S3 x (.lst [.int (l2 - 1)])) d l := D3.upd hxd Nd;have x4 : (II S3 x (.lst [.int (l2 - 1)])) x = some (.lst [.int (l2 - 1)]) := ac;have f4 : (II S3 x (.lst [.int (l2 - 1)])) pf = some (.lst vs) := by rw [ar hpx]; exact f3
    have O4 : LJ d l x S (II S3 x (.lst [.int (l2 - 1)])) := O3.trans .upd;refine JV _ _ ?_;show bg _ _ _ (II S3 x (.lst [.int (l2 - 1)]));generalize II S3 x (.lst [.int (l2 - 1)]) = S4 at D4 x4 f4 O4;walk_at "x";refine ⟨by rw [f4]; trivial, IJ D4 (by decide) (by decide) λm S5 m0 m1 D5 O5 => ?_⟩;dsimp only;unfold Bd.pv;simp only [bU];refine ih (t := a) D5 (O5 _ _ x4 hxd Nd) hxd Nd (by omega) (by omega) λv S6 l6 i6 n6 c6 a0 a1 D6 x6 O6 => ?_;have f6 := O6 _ _ (O5 _ _ f4 Pp.1 Pp.2) Pp.1 Pp.2 hpx;simp only [f6];refine ⟨UL (show _ < 1000 by omega) (by decide), ?_⟩;refine hK _ _ ⟨vs ++ [.tup [.int (1 + m), v]], l6, _, rfl, by simp; omega, by rw [Um]; exact hi, λw hw => ?_, ?_, a0, by omega, D6.upd Pp.1 Pp.2, by rw [ar hpx.symm]; exact x6, ac, ?_⟩
    .rcases Ur.mp hw with hw | hw
     .exact hvs w hw
     .rw [Uy.mp hw];exact ⟨by simp [kT, i6]; omega, b9 (sJ (by omega)) n6⟩
    .rw [show (left - l6).toNat = (left - l2).toNat + 1 + (l2 - 1 - l6).toNat by omega];show (vs ++ [PV.tup [.int (1 + m), v]]).foldl _ 0 + 1 <= _;rw [WS];exact Ef hc c6 (show (1 + m).toNat <= 3 by omega)
    .intro b o hb h1 h2 h3;have TN : b ≠ pf := λh => by rw [h, hpf] at hb; cases hb
     rw [ar TN];exact O6 _ _ (O5 _ _ (O4 _ _ hb h1 h2 h3) h1 h2) h1 h2 h3
   .rw [if_neg hl2];exact hK _ _ ⟨vs, l2, _, rfl, by simp; omega, by rw [Um]; exact hi, hvs, hc, q0, q1, D3, x3, f3, O3⟩
  .rintro σ S3 ⟨vs, l2, x6, rfl, hv, hdl, hvs, hc, q0, q1, D3, x3, f3, O3⟩;refine hN _ _ ?_;walk_at "x";simp only [f3];refine k (.tup vs) S3 l2 ?_ (sK λv hv => (hvs v hv).2) hc q0 q1 D3 x3 O3;rw [kX, UW];exact λv hv => (hvs v hv).1
 .rw [if_neg ho];refine ⟨sE (by omega) (by omega), by omega, by omega, ?_⟩;rw [Ys];refine ⟨trivial, ?_⟩;refine hN _ _ ?_;walk_at "x";simp only [f2];have hp : t.plain = true := by
   cases t with
   | IU a => exact absurd rfl ho
   | IK => exact absurd rfl ht
   | IY => exact absurd rfl he
   | IV => exact absurd rfl hk
   | _ => rfl
  refine k (.tup []) S2 left (by rw [oa hp]; rfl) rfl (by rw [Int.sub_self]; cases t <;> first | (simp [bQ, Bd.size]; done) | (cases hp)) h0 (VF _) D2 x2 Pq
noncomputable def J_:Bd->PV->List (Str×Int)
 | .put z m,_=>[(z,m)]
 | .IK a b,v=>J_ a (jx v)++J_ b (cP v)
 | .IY a b,v=>if nm (jx v)=0 then J_ a (cP v) else J_ b (cP v)
 | .IV z m a b,v=>if nm (jx v)=0 then (z,0 - m)::J_ a (cP v) else J_ b (cP v)
 | .IU a,v=>(F_ v).flatMap λg=>J_ a (cP g)
 |_,_=>[]
noncomputable def uD:Bd->Nat
 | .IU a=>uD a+1
 | .IK a b=>uD a+uD b
 | .IY a b=>uD a+uD b
 | .IV _ _ a b=>uD a+uD b
 |_=>0
noncomputable def Bg:Bd->PV->PV
 | .IK a b,v=>.tup [Bg a (jx v),Bg b (cP v)]
 | .IY a b,v=>.tup [jx v,if nm (jx v)=0 then Bg a (cP v) else Bg b (cP v)]
 | .IV _ _ a b,v=>.tup [jx v,if nm (jx v)=0 then Bg a (cP v) else Bg b (cP v)]
 |_,_=>.tup []
abbrev Gi:=Nat×PV×Int×Bd
noncomputable def uE:Bd->PV->Nat->Int->List Gi
 | .IK a b,v,k,m=>uE a (jx v) k m++uE b (cP v) (k+uD a) m
 | .IY a b,v,k,m=>if nm (jx v)=0 then uE a (cP v) k m else uE b (cP v) (k+uD a) m
 | .IV _ _ a b,v,k,m=>if nm (jx v)=0 then uE a (cP v) k m else uE b (cP v) (k+uD a) m
 | .IU a,v,k,m=>(F_ v).flatMap λg=>uE a (cP g) (k+1) (m * nm (jx g))++[(k,Bg a (cP g),m * nm (jx g),a)]
 |_,_,_,_=>[]
def sU(t:Bd){js:Vs}(g:t.good js []):(∀p∈J_ t t.IN,0<=p.2)/\bQ t t.IN<=2 * t.size:=by
 induction t with
 |rest=>exact⟨(λp hp=>by cases hp),by show 0<=2 * 1;omega⟩
 |pay x y=>exact⟨(λp hp=>by cases hp),by show 1<=2 * 1;omega⟩
 |use z=>exact⟨(λp hp=>by cases hp),by show 1<=2 * 1;omega⟩
 |put z m=>exact⟨λp hp=>by rw[Uy.mp hp];have:=g.2;show 0<=m;omega,by show 2<=2 * 1;omega⟩
 |IU a ih=>exact⟨(λp hp=>by cases hp),by show 0+1<=2 * (a.size+1);omega⟩
 |IK a b Ja Jd=>
  have x:=Ja g.1;have y:=Jd g.2;refine⟨λp hp=>(Ur.mp hp).elim (x.1 p) (y.1 p),?_⟩;show bQ a a.IN+bQ b b.IN<=2 * (a.size+b.size+1);omega
 |IY a b Ja Jd=>
  have x:=Ja g.1;refine⟨x.1,?_⟩;show bQ a a.IN+1<=2 * (a.size+b.size+1);omega
 |IV z m a b Ja Jd=>
  have y:=Jd g.2.2.2.2;refine⟨y.1,?_⟩;show bQ b b.IN+2<=2 * (a.size+b.size+1);omega
structure Ga(q:Qs)(t:Bd)(v:PV)(z:Str)(m:Int):Prop where
 tr:aX t v=true
 mem:(z,m)∈J_ t v
 neg:∀p∈J_ t v,p.2 < 0->q p.1=true
 room:bQ t v<=2 * t.size
def h_{q:Qs}{a b:Bd}{r s:Bool}{p:Nat}{u:Bd×Bool}(h:(a.pr q r++b.pr q s)[p]?=some u):(p < a.size/\(a.pr q r)[p]?=some u)\/(¬p < a.size/\(b.pr q s)[p - a.size]?=some u):=by
 have hl:=Bd.JZ q a r;by_cases hp:p < a.size
 .rw[U9 (by omega)]at h;exact .inl ⟨hp,h⟩
 .rw[Vg (by omega),hl]at h;exact .inr ⟨hp,h⟩
def zb{q:Qs}{js:Vs}{z:Str}{m:Int}(t:Bd):∀pl:Nat,t.good js []->(t.pr q true)[pl]?=some (.put z m,true)->Ga q t (t.led pl (.tup [])) z m:=by
 induction t with
 |rest=>intro pl g h;cases pl<;>simp[Bd.pr]at h
 |pay x y=>intro pl g h;cases pl<;>simp[Bd.pr]at h
 |use y=>intro pl g h;cases pl<;>simp[Bd.pr]at h
 |put y n=>
  intro pl g h;cases pl with
  |succ p=>simp[Bd.pr]at h
  |zero=>
   simp[Bd.pr]at h;obtain⟨rfl,rfl⟩:=h;exact⟨rfl,by simp[J_],λp hp hn=>by rw[show p=(y,n)from Uy.mp hp]at hn;have:=g.2;have:n < 0:=hn;omega,by show 2<=2 * 1;omega⟩
 |IU a ih=>
  intro pl g h;cases pl with
  |zero=>simp[Bd.pr]at h
  |succ p=>
   have x:=ih p g (by simpa [Bd.pr]using h);have e:(Bd.IU a).led (p+1) (.tup []) = .tup [.tup [.int 1,a.led p (.tup [])]]:=rfl;have em:J_ (.IU a) (.tup [.tup [.int 1,a.led p (.tup [])]])=J_ a (a.led p (.tup [])):=by
    show([PV.tup [.int 1,a.led p (.tup [])]].flatMap λg=>J_ a (cP g))=_;simp[cP]
   rw[e];refine⟨?_,by rw[em];exact x.mem,by rw[em];exact x.neg,?_⟩
   .rw[kX];simp[kT,x.tr]
   .show(0+(1:Int).toNat * (bQ a (a.led p (.tup []))+1))+1<=2 * (a.size+1);have:=x.room;simp;omega
 |IK a b Ja Jd=>
  intro pl g h;cases pl with
  |zero=>simp[Bd.pr]at h
  |succ p=>
   rcases h_ (q:=q) (a:=a) (b:=b) (r:=true) (s:=true) (p:=p) (by simpa [Bd.pr]using h)with⟨hp,h⟩|⟨hp,h⟩
   .have x:=Ja p g.1 h;have y:=sU b g.2;have e:(Bd.IK a b).led (p+1) (.tup []) = .tup [a.led p (.tup []),b.IN]:=by simp only[Bd.led,if_pos hp]
    rw[e];refine⟨by rw[i9,x.tr,Bd.KR];rfl,Ur.mpr (.inl x.mem),λw hw hn=>(Ur.mp hw).elim (λh=>x.neg w h hn) (λh=>by have:=y.1 w h;omega),?_⟩;show bQ a (a.led p (.tup []))+bQ b b.IN<=2 * (a.size+b.size+1);have:=x.room;omega
   .have x:=Jd (p - a.size) g.2 h;have y:=sU a g.1;have e:(Bd.IK a b).led (p+1) (.tup []) = .tup [a.IN,b.led (p - a.size) (.tup [])]:=by simp only[Bd.led,if_neg hp]
    rw[e];refine⟨by rw[i9,x.tr,Bd.KR];rfl,Ur.mpr (.inr x.mem),λw hw hn=>(Ur.mp hw).elim (λh=>by have:=y.1 w h;omega) (λh=>x.neg w h hn),?_⟩;show bQ a a.IN+bQ b (b.led (p - a.size) (.tup []))<=2 * (a.size+b.size+1);have:=x.room;omega
 |IY a b Ja Jd=>
  intro pl g h;cases pl with
  |zero=>simp[Bd.pr]at h
  |succ p=>
   rcases h_ (q:=q) (a:=a) (b:=b) (r:=true) (s:=true) (p:=p) (by simpa [Bd.pr]using h)with⟨hp,h⟩|⟨hp,h⟩
   .have x:=Ja p g.1 h;have e:(Bd.IY a b).led (p+1) (.tup []) = .tup [.int 0,a.led p (.tup [])]:=by simp only[Bd.led,if_pos hp]
    rw[e];refine⟨by rw[kU,if_pos rfl,x.tr],x.mem,x.neg,?_⟩;show bQ a (a.led p (.tup []))+1<=2 * (a.size+b.size+1);have:=x.room;omega
   .have x:=Jd (p - a.size) g.2 h;have e:(Bd.IY a b).led (p+1) (.tup []) = .tup [.int 1,b.led (p - a.size) (.tup [])]:=by simp only[Bd.led,if_neg hp]
    rw[e];refine⟨by rw[kU,if_neg (by decide),if_pos rfl,x.tr],x.mem,x.neg,?_⟩;show bQ b (b.led (p - a.size) (.tup []))+1<=2 * (a.size+b.size+1);have:=x.room;omega
 |IV y n a b Ja Jd=>
  intro pl g h;cases pl with
  |zero=>simp[Bd.pr]at h
  |succ p=>
   rcases h_ (q:=q) (a:=a) (b:=b) (r:=true&&q y) (s:=true) (p:=p) (by simpa [Bd.pr]using h)with⟨hp,h⟩|⟨hp,h⟩
   .have hq:q y=true:=by
     cases hq:q y with
     |true=>rfl
     |false=>rw[hq]at h;exact absurd (UD h) (a.Jg q _)
    rw[hq]at h;have x:=Ja p g.2.2.2.1 h;have e:(Bd.IV y n a b).led (p+1) (.tup []) = .tup [.int 0,a.led p (.tup [])]:=by simp only[Bd.led,if_pos hp]
    rw[e];refine⟨by rw[kW,if_pos rfl,x.tr],VG _ x.mem,λw hw hn=>?_,?_⟩
    .rcases Uv.mp (show w∈(y,0 - n)::J_ a (a.led p (.tup []))from hw)with rfl|hw
     .exact hq
     .exact x.neg w hw hn
    .show bQ a (a.led p (.tup []))+2<=2 * (a.size+b.size+1);have:=x.room;omega
   .have x:=Jd (p - a.size) g.2.2.2.2 h;have e:(Bd.IV y n a b).led (p+1) (.tup []) = .tup [.int 1,b.led (p - a.size) (.tup [])]:=by simp only[Bd.led,if_neg hp]
    rw[e];refine⟨by rw[kW,if_neg (by decide),if_pos rfl,x.tr],x.mem,x.neg,?_⟩;show bQ b (b.led (p - a.size) (.tup []))+2<=2 * (a.size+b.size+1);have:=x.room;omega
inductive zc(ds:List (Str×Bd)):Nat->PV->Prop
 |QQ {n i k:Nat} {z:Str} {t:Bd} {tr:PV}:ds[i]?=some (z,t)->aX t tr=true->ci (2 ^ 60) tr=true->KP 3 k tr->zc ds n (.tup [.str "do",.int (i:Int),tr])
 |QR {n:Nat} {m:Int} {vs:List PV}:1<=m->m<=2 ^ 60->vs.length<=3->(∀v∈vs,zc ds n v)->zc ds (n+1) (.tup [.str "again",.int m,.tup vs])
noncomputable def ES(js:Vs)(ds:List (Str×Bd)):PV->Ty
 | .tup [_,.int i,tr]=>(match ds[i.toNat]? with|some p=>p.2.Jw js tr|none=>z0 js)
 |_=>z0 js
noncomputable def kD(js:Vs)(f:PV->Ty)(vs:List PV):Ty:=(vs.map f).foldl Ty.join (z0 js)
noncomputable def IC(js:Vs)(ds:List (Str×Bd))(f:PV->Ty)(v:PV):Ty:=match v with
 | .tup [.str a,.int m,.tup vs]=>if a=("again":Str) then (kD js f vs).again m else ES js ds v
 |_=>ES js ds v
noncomputable def jb(js:Vs)(ds:List (Str×Bd)):Nat->PV->Ty
 |0=>ES js ds
 |n+1=>IC js ds (jb js ds n)
def B_:¬(("do":Str)=("again":Str)):=by simp[av]
def uF{js:Vs}{ds:List (Str×Bd)}{i:Nat}{p:Str×Bd}{tr:PV}(h:ds[i]?=some p):ES js ds (.tup [.str "do",.int (i:Int),tr])=p.2.Jw js tr:=by
 show(match ds[((i:Int)).toNat]? with|some p=>p.2.Jw js tr|none=>z0 js)=_;rw[Vk,h]
theorem rf{js:Vs}{ds:List (Str×Bd)}{i:Nat}{p:Str×Bd}{tr:PV}(h:ds[i]?=some p):∀n,jb js ds n (.tup [.str "do",.int (i:Int),tr])=p.2.Jw js tr
 |0=>uF h
 |n+1=>by
  cases tr with
  |tup vs=>
   show(if ("do":Str)=("again":Str) then (kD js (jb js ds n) vs).again (i:Int) else ES js ds (.tup [.str "do",.int (i:Int),.tup vs]))=_;rw[if_neg B_];exact uF h
  |_=>exact uF h
def rg{js:Vs}{ds:List (Str×Bd)}{m:Int}{vs:List PV}(n:Nat):jb js ds (n+1) (.tup [.str "again",.int m,.tup vs])=(kD js (jb js ds n) vs).again m:=by
 show(if ("again":Str)=("again":Str) then (kD js (jb js ds n) vs).again m else ES js ds (.tup [.str "again",.int m,.tup vs]))=_;rw[if_pos rfl]
def sV{js:Vs}(f:PV->Ty)(done:List PV)(x:PV):kD js f (done++[x])=(kD js f done).join (f x):=l8 f done x
def HB(js:Vs)(ds:List (Str×Bd)):Prop:=∀p∈ds,p.2.good js []/\p.2.dep<=6
def km{js:Vs}{f:PV->Ty}{vs:List PV}(h:∀v∈vs,(f v).Ok js):(kD js f vs).Ok js:=k7 _ _ (λu hu=>by obtain⟨v,hv,rfl⟩:=UU.mp hu;exact h v hv) (fI js)
def fZ{js:Vs}{ds:List (Str×Bd)}(hb:HB js ds){n:Nat}{v:PV}(h:zc ds n v):(jb js ds n v).Ok js:=by
 induction h with
 |QQ hi htr _ _=>rw[rf hi];exact aV _ _ (hb _ (UD hi)).1 htr
 |QR h1 _ _ _ ih=>rw[rg];exact(km ih).again h1
noncomputable def EU:PV->Nat->Int
 | .tup [_,.int i,_]=>λj=>if j=i.toNat then 1 else 0
 |_=>λ_=>0
noncomputable def uG(f:PV->Nat->Int)(vs:List PV)(j:Nat):Int:=vs.foldl (λa v=>a+f v j) 0
noncomputable def ID(f:PV->Nat->Int)(v:PV):Nat->Int:=match v with
 | .tup [.str a,.int m,.tup vs]=>if a=("again":Str) then λj=>uG f vs j * m else EU v
 |_=>EU v
noncomputable def tP:Nat->PV->Nat->Int
 |0=>EU
 |n+1=>ID (tP n)
theorem Eh{i:Nat}{tr:PV}:∀n,tP n (.tup [.str "do",.int (i:Int),tr])=λj=>if j=i then 1 else 0
 |0=>by show(λj=>if j=((i:Int)).toNat then _ else _)=_;rw[Vk]
 |n+1=>by
  have e:EU (.tup [.str "do",.int (i:Int),tr])=λj=>if j=i then 1 else 0:=by show(λj=>if j=((i:Int)).toNat then _ else _)=_;rw[Vk]
  cases tr with
  |tup vs=>
   show(if ("do":Str)=("again":Str) then (λj=>uG (tP n) vs j * (i:Int)) else EU (.tup [.str "do",.int (i:Int),.tup vs]))=_;rw[if_neg B_];exact e
  |_=>exact e
def Ei{m:Int}{vs:List PV}(n:Nat):tP (n+1) (.tup [.str "again",.int m,.tup vs])=λj=>uG (tP n) vs j * m:=by
 show(if ("again":Str)=("again":Str) then (λj=>uG (tP n) vs j * m) else EU (.tup [.str "again",.int m,.tup vs]))=_;rw[if_pos rfl]
def zd(f:PV->Nat->Int)(done:List PV)(x:PV)(j:Nat):uG f (done++[x]) j=uG f done j+f x j:=by unfold uG;rw[WS];rfl
noncomputable def rY(n:Nat)(c:Nat->Int):Ty:=(0,(List.range n).map λj=>(c j,0))
def rh(n:Nat)(c:Nat->Int):(rY n c).es=(List.range n).map λj=>PV.int (c j):=by unfold rY Ty.es;rw[UQ];rfl
def rj(n:Nat)(c:Nat->Int):(rY n c).2.length=n:=by unfold rY;rw[Ul,Yn]
def ze(n:Nat)(c e:Nat->Int):((rY n c).join (rY n e)).es=(rY n λj=>c j+e j).es:=by
 rw[rh,<-qU];unfold rY;dsimp only;rw[List.zip_map,UQ,show(List.range n).zip (List.range n)=(List.range n).map λx=>(x,x)from oh _ _,UQ]
 rfl
def wV(n:Nat)(c:Nat->Int)(m:Int):((rY n c).again m).es=(rY n λj=>c j * m).es:=by
 rw[rh,<-om];unfold rY;dsimp only;rw[UQ]
 rfl
abbrev k_(k:Nat)(w:ay):Prop:=∀{S:aA}{js:Vs}{ds:List (Str×Bd)}{n:Nat}{vs:List PV}{Q:bB}{E:bR},js.length<=1000->HB js ds->n < k->(∀v∈vs,zc ds n v)->(∀S',Ext S S'->Q (kD js (jb js ds n) vs).pv S')->w [bV js ds,.tup vs] S Q E
def Ng{xn xb xt xa s0:ay}(Ka:k6 xn)(JB:fe xb)(Ln:jv xt)(Lm:ju xa)(k:Nat)(ih:k_ k s0):k_ (k+1) (aT 4 (dJ xn xb xt xa s0)):=by
 intro S js ds n vs Q E hj hb hn hvs kk;unfold dJ;refine cY ?_;rw[show ax 4 [bV js ds,.tup vs]=[some (bV js ds),some (.tup vs),none,none] from rfl];walk_at "3";rw[show bV js ds = .tup [eP js,.tup (ds.map fX)] from rfl];walk_at "x";simp only[bG];rw[show PV.tup [eP js,.tup (ds.map fX)]=bV js ds from rfl];refine Ka hj (hN _ _ (al λN hN=>?_));simp only[bS,aL,v3,lk,bW];refine bp (λdone σ S'=>∃x3,σ=[some (bV js ds),some (.tup vs),some (kD js (jb js ds n) done).pv,x3]/\Ext S S') ⟨_,rfl,.refl⟩ (λ_ _ _ _=>trivial) ?_ ?_
 .rintro done g rest σ S1 K e ⟨x3,rfl,X1⟩ hK;have hp:=hvs g (by rw[e];simp);have ok:(kD js (jb js ds n) done).Ok js:=km λv hv=>fZ hb (hvs v (by rw[e];simp[hv]));have TQ:=fZ hb hp;simp only[Tg.put,List.set_cons_succ,List.set_cons_zero];have fin:∀S2,Ext S1 S2->xb [(kD js (jb js ds n) done).pv,(jb js ds n g).pv] S2 (λv S3=>K [some (bV js ds),some (.tup vs),some v,some g] S3) fE:=λS2 X2=>by
   refine JB hj ok TQ λS3 X3=>?_;rw[<-sV];exact hK _ _ ⟨_,rfl,X1.trans (X2.trans X3)⟩
  cases hp with
  |@QQ _ i kk z t tr hi htr hib TR=>
   walk_at "y";refine Ln hj hi (hb _ (UD hi)).1 htr hib (hb _ (UD hi)).2 λS2 X2=>?_;rw[rf hi]at fin;exact fin S2 X2
  |@QR n' m us h1 h2 hl hu=>
   walk_at "y";refine ih hj hb (by omega) hu λS2 X2=>?_;refine Lm hj (km λv hv=>fZ hb (hu v hv)) h1 (by omega) λS3 X3=>?_;rw[rg]at fin;exact fin S3 (X2.trans X3)
 .rintro σ S1 ⟨x3,rfl,X1⟩;refine hN _ _ ?_;walk_at "x";exact kk S1 X1
abbrev ld(k:Nat)(w:ay):Prop:=∀{S:aA}{js:Vs}{ds:List (Str×Bd)}{n:Nat}{vs:List PV}{Q:bB}{E:bR},ds.length<=1000->n < k->(∀v∈vs,zc ds n v)->(∀S',Ext S S'->Q (.tup (rY ds.length (uG (tP n) vs)).es) S')->w [bV js ds,.tup vs] S Q E
def Nh{xa xm s0:ay}(KQ:l7 xa)(Ly:ol xm)(k:Nat)(ih:ld k s0):ld (k+1) (aT 5 (dB xa xm s0)):=by
 intro S js ds n vs Q E hj hn hvs kk;unfold dB;refine cY ?_;rw[show ax 5 [bV js ds,.tup vs]=[some (bV js ds),some (.tup vs),none,none,none] from rfl];walk_at "3";rw[show bV js ds = .tup [eP js,.tup (ds.map fX)] from rfl];walk_at "x";simp only[bU,nU,Ul,Int.toNat_natCast];rw[show PV.tup [eP js,.tup (ds.map fX)]=bV js ds from rfl];refine⟨by omega,by omega,?_⟩;rw[show List.replicate ds.length (PV.int 0)=(rY ds.length (uG (tP n) [])).es by rw[rh];exact(List.eq_replicate_iff.mpr ⟨by simp,λb hb=>by obtain⟨x,_,rfl⟩:=UU.mp hb;rfl⟩).symm];walk_at "0";simp only[bS,aL,v3,lk,bW];refine bp (λdone σ S'=>∃x3 x4,σ=[some (bV js ds),some (.tup vs),some (.tup (rY ds.length (uG (tP n) done)).es),x3,x4]/\Ext S S') ⟨_,_,rfl,.refl⟩ (λ_ _ _ _=>trivial) ?_ ?_
 .rintro done g rest σ S1 K e ⟨x3,x4,rfl,X1⟩ hK;have hp:=hvs g (by rw[e];simp);simp only[Tg.put,List.set_cons_succ,List.set_cons_zero];have fin:∀(S2:aA)(x:Option PV),Ext S1 S2->xa [.tup (rY ds.length (uG (tP n) done)).es,.tup (rY ds.length (tP n g)).es] S2 (λv S3=>K [some (bV js ds),some (.tup vs),some v,some g,x] S3) fE:=λS2 x X2=>by
   refine KQ (by rw[rj];exact hj) λS3 X3=>?_;rw[ze,show(λj=>uG (tP n) done j+tP n g j)=uG (tP n) (done++[g])from funext λj=>(zd _ _ _ _).symm];exact hK _ _ ⟨_,_,rfl,X1.trans (X2.trans X3)⟩
  cases hp with
  |@QQ _ i kk z t tr hi htr hib TR=>
   simp only[bm,aG,af,v3,lk,c3,aa,bG,aS,Uu,Vt,U6];refine al λN2 JV=>?_;walk_at "x";have le:(rY ds.length (uG (tP n) done)).es.length=ds.length:=by unfold Ty.es;rw[Ul,rj]
   simp only[le];refine⟨by omega,by omega,?_⟩;rw[Vk,uC];refine aQ (λj:Nat=>PV.int (j:Int)) (λj=>PV.int (if j=i then 1 else 0)) trivial _ [] (λj hj=>⟨_,rfl,λQ q=>?_⟩) (by rw[UN,U0,Yn];exact bA hj) λp hp=>?_
   .walk_at "x";simp only[bU,Uu,Us];by_cases h:j=i
    .subst h;rw[if_pos rfl]at q ⊢;exact q
    .rw[if_neg h]at q;rw[if_neg (by omega)];exact q
   .rw[UX];simp only[ac];refine JV _ _ ?_;walk_at "x";rw[Eh]at fin;rw[<-rh];exact fin _ _ (.new hp)
  |@QR n' m us h1 h2 hl hu=>
   walk_at "y";refine ih hj (by omega) hu λS2 X2=>?_;refine Ly (by rw[rj];exact hj) (by omega) (by omega) λS3 X3=>?_;rw[wV];rw[Ei]at fin;exact fin S3 _ (X2.trans X3)
 .rintro σ S1 ⟨x3,x4,rfl,X1⟩;refine hN _ _ ?_;walk_at "x";exact kk S1 X1
noncomputable def Gb(js:Vs)(ds:List (Str×Bd))(n:Nat)(vs:List PV):PV:=.tup [cf (kD js (jb js ds n) vs).1,.tup (rY ds.length (uG (tP n) vs)).es,.tup (kD js (jb js ds n) vs).es,.tup (kD js (jb js ds n) vs).dm]
abbrev rm(k:Nat)(w:ay):Prop:=∀{S:aA}{js:Vs}{ds:List (Str×Bd)}{n:Nat}{vs:List PV}{Q:bB}{E:bR},js.length<=1000->ds.length<=1000->HB js ds->n < k->(∀v∈vs,zc ds n v)->(∀S',Ext S S'->Q (Gb js ds n vs) S')->w [bV js ds,.tup vs] S Q E
def NP{xt xc:ay}(k:Nat)(Ng:k_ k xt)(Nh:ld k xc):rm k (aT 3 (fW xt xc)):=by
 intro S js ds n vs Q E hj hd hb hn hvs kk;unfold fW;refine cY ?_;rw[show ax 3 [bV js ds,.tup vs]=[some (bV js ds),some (.tup vs),none] from rfl];walk_at "3";walk_at "x";refine Ng hj hb hn hvs λS1 X1=>hN _ _ ?_;unfold Ty.pv;walk_at "x";simp only[bG,bU,kC];refine Nh hd hn hvs λS2 X2=>?_;exact kk S2 (X1.trans X2)
def cO{T U:Ty}{k:Nat}{p q:Int×Int}(h1:T.2[k]?=some p)(h2:U.2[k]?=some q):(T.join U).2[k]?=some (jn p q):=by
 unfold Ty.join;rw[List.getElem?_zipWith,h1,h2]
def jy{T:Ty}{k:Nat}{p:Int×Int}(m:Int)(h:T.2[k]?=some p):(T.again m).2[k]?=some (ag m p):=by
 unfold Ty.again;rw[Ut,h]
 rfl
def md{js:Vs}{k:Nat}{y:Str}(hk:js[k]?=some y):(z0 js).2[k]?=some (0,0):=by
 unfold z0 zl;rw[Ut,hk]
 rfl
def jz{js:Vs}{k:Nat}{y z:Str}{e d:Int}(hk:js[k]?=some y):(jF js z e d)[k]?=some (if y=z then (e,d) else (0,0)):=by
 unfold jF;rw[Ut,hk]
 rfl
def pY{q:Qs}{js:Vs}{k:Nat}{y:Str}(hk:js[k]?=some y)(t:Bd)(g:t.good js []):∃e,(t.Jw js t.IN).2[k]?=some (e,0)/\0<=e/\e<=9 * t.size/\(y ∉ t.IL q->e=0):=by
 induction t with
 |rest=>exact⟨0,md hk,VF _,by simp only[Bd.size];omega,λ_=>rfl⟩
 |pay a b=>exact⟨0,md hk,VF _,by simp only[Bd.size];omega,λ_=>rfl⟩
 |use z=>exact absurd (show z∈[] from g) (by simp)
 |put z m=>
  have g2:=g.2;have h:=jz (z:=z) (e:=m) (d:=0) hk;by_cases e:y=z
  .rw[if_pos e]at h;exact⟨m,h,by omega,by simp only[Bd.size];omega,λn=>absurd (by simp[Bd.IL,e]) n⟩
  .rw[if_neg e]at h;exact⟨0,h,VF _,by simp only[Bd.size];omega,λ_=>rfl⟩
 |IU a ih=>exact⟨0,md hk,VF _,by simp only[Bd.size];omega,λ_=>rfl⟩
 |IK a b Ja Jd=>
  obtain⟨e,h1,h2,h3,h4⟩:=Ja g.1;obtain⟨f,k1,k2,k3,k4⟩:=Jd g.2;refine⟨e+f,?_,by omega,by simp only[Bd.size];omega,λn=>?_⟩
  .show((a.Jw js a.IN).join (b.Jw js b.IN)).2[k]?=_;rw[cO h1 k1];unfold jn;rw[if_neg (by dsimp only;omega)]
  .simp only[Bd.IL,Ur,not_or]at n;rw[h4 n.1,k4 n.2]
   rfl
 |IY a b Ja Jd=>
  obtain⟨e,h1,h2,h3,h4⟩:=Ja g.1;refine⟨e,h1,h2,by simp only[Bd.size];omega,λn=>?_⟩;simp only[Bd.IL,Ur,not_or]at n;exact h4 n.1
 |IV z m a b Ja Jd=>
  obtain⟨e,h1,h2,h3,h4⟩:=Jd g.2.2.2.2;refine⟨e,h1,h2,by simp only[Bd.size];omega,λn=>?_⟩;simp only[Bd.IL,Ur,not_or]at n;exact h4 n.2
def vz{q:Qs}{js:Vs}{z:Str}{m:Int}{k:Nat}{y:Str}(hk:js[k]?=some y)(t:Bd):∀pl:Nat,t.good js []->(t.pr q true)[pl]?=some (.put z m,true)->
  ∃e d:Int,(t.Jw js (t.led pl (.tup []))).2[k]?=some (e,d)/\0<=d/\d<=9 * t.dep/\-(9 * t.dep)<=e/\e<=9 * t.size/\(q y=false->d=0/\0<=e/\(y=z->m<=e))/\(y ∉ t.IL q->q y=false->e=0):=by
 induction t with
 |rest=>intro pl g h;cases pl<;>simp[Bd.pr]at h
 |pay a b=>intro pl g h;cases pl<;>simp[Bd.pr]at h
 |use a=>intro pl g h;cases pl<;>simp[Bd.pr]at h
 |put a n=>
  intro pl g h;cases pl with
  |succ p=>simp[Bd.pr]at h
  |zero=>
   simp[Bd.pr]at h;obtain⟨rfl,rfl⟩:=h;have g2:=g.2;have h:=jz (z:=a) (e:=n) (d:=0) hk;by_cases e:y=a
   .rw[if_pos e]at h;exact⟨n,0,h,by omega,by simp only[Bd.dep];omega,by simp only[Bd.dep];omega,by simp only[Bd.size];omega,λ_=>⟨rfl,by omega,λ_=>VF _⟩,λn=>absurd (by simp[Bd.IL,e]) n⟩
   .rw[if_neg e]at h;exact⟨0,0,h,by omega,by simp only[Bd.dep];omega,by simp only[Bd.dep];omega,by simp only[Bd.size];omega,λ_=>⟨rfl,by omega,λz=>absurd z e⟩,λ_ _=>rfl⟩
 |IU a ih=>
  intro pl g h;cases pl with
  |zero=>simp[Bd.pr]at h
  |succ p=>
   obtain⟨e,d,h1,h2,h3,h4,h5,h6,h7⟩:=ih p g (by simpa [Bd.pr]using h);refine⟨e,d,?_,h2,by simp only[Bd.dep];omega,by simp only[Bd.dep];omega,by simp only[Bd.size];omega,h6,h7⟩;show((z0 js).join ((a.Jw js (a.led p (.tup []))).again 1)).2[k]?=_;rw[cO (md hk) (jy 1 h1)];unfold jn ag;have e1:(if d+(if -e * (1 - 1) > 0 then -e * (1 - 1) else 0) - 0 > 0 then d+(if -e * (1 - 1) > 0 then -e * (1 - 1) else 0) - 0 else 0)=d:=by
    rw[show(-e * (1 - 1):Int)=0 by simp];simp only[gt_iff_lt,Int.lt_irrefl,UZ,XE,Int.sub_zero]
    split<;>omega
   dsimp only;rw[e1];simp
 |IK a b Ja Jd=>
  intro pl g h;cases pl with
  |zero=>simp[Bd.pr]at h
  |succ p=>
   rcases h_ (q:=q) (a:=a) (b:=b) (r:=true) (s:=true) (p:=p) (by simpa [Bd.pr]using h)with⟨hp,h⟩|⟨hp,h⟩
   .obtain⟨e,d,h1,h2,h3,h4,h5,h6,h7⟩:=Ja p g.1 h;obtain⟨f,k1,k2,k3,k4⟩:=pY (q:=q) hk b g.2;rw[show(Bd.IK a b).led (p+1) (.tup []) = .tup [a.led p (.tup []),b.IN] by simp only[Bd.led,if_pos hp]];refine⟨e+f,if 0 - e > d then 0 - e else d,?_,?_,?_,?_,?_,λhq=>?_,λn hq=>?_⟩
    .rw[qX,cO h1 k1];rfl
    .split<;>omega
    .simp only[Bd.dep];split<;>omega
    .simp only[Bd.dep];omega
    .simp only[Bd.size];omega
    .obtain⟨h8,h9,OX⟩:=h6 hq;exact⟨by rw[h8,if_neg (by omega)],by omega,λz=>by have:=OX z;omega⟩
    .simp only[Bd.IL,Ur,not_or]at n;rw[h7 n.1 hq,k4 n.2];rfl
   .obtain⟨e,d,h1,h2,h3,h4,h5,h6,h7⟩:=Jd (p - a.size) g.2 h;obtain⟨f,k1,k2,k3,k4⟩:=pY (q:=q) hk a g.1;rw[show(Bd.IK a b).led (p+1) (.tup []) = .tup [a.IN,b.led (p - a.size) (.tup [])] by simp only[Bd.led,if_neg hp]];refine⟨f+e,if d - f > 0 then d - f else 0,?_,?_,?_,?_,?_,λhq=>?_,λn hq=>?_⟩
    .rw[qX,cO k1 h1];rfl
    .split<;>omega
    .simp only[Bd.dep];split<;>omega
    .simp only[Bd.dep];omega
    .simp only[Bd.size];omega
    .obtain⟨h8,h9,OX⟩:=h6 hq;exact⟨by rw[h8,if_neg (by omega)],by omega,λz=>by have:=OX z;omega⟩
    .simp only[Bd.IL,Ur,not_or]at n;rw[h7 n.2 hq,k4 n.1];rfl
 |IY a b Ja Jd=>
  intro pl g h;cases pl with
  |zero=>simp[Bd.pr]at h
  |succ p=>
   rcases h_ (q:=q) (a:=a) (b:=b) (r:=true) (s:=true) (p:=p) (by simpa [Bd.pr]using h)with⟨hp,h⟩|⟨hp,h⟩
   .obtain⟨e,d,h1,h2,h3,h4,h5,h6,h7⟩:=Ja p g.1 h;rw[show(Bd.IY a b).led (p+1) (.tup []) = .tup [.int 0,a.led p (.tup [])] by simp only[Bd.led,if_pos hp]];refine⟨e,d,by rw[m9,if_pos rfl];exact h1,h2,by simp only[Bd.dep];omega,by simp only[Bd.dep];omega,by simp only[Bd.size];omega,h6,λn hq=>?_⟩;simp only[Bd.IL,Ur,not_or]at n;exact h7 n.1 hq
   .obtain⟨e,d,h1,h2,h3,h4,h5,h6,h7⟩:=Jd (p - a.size) g.2 h;rw[show(Bd.IY a b).led (p+1) (.tup []) = .tup [.int 1,b.led (p - a.size) (.tup [])] by simp only[Bd.led,if_neg hp]];refine⟨e,d,by rw[m9,if_neg (by decide)];exact h1,h2,by simp only[Bd.dep];omega,by simp only[Bd.dep];omega,by simp only[Bd.size];omega,h6,λn hq=>?_⟩;simp only[Bd.IL,Ur,not_or]at n;exact h7 n.2 hq
 |IV x c a b Ja Jd=>
  intro pl g h;cases pl with
  |zero=>simp[Bd.pr]at h
  |succ p=>
   rcases h_ (q:=q) (a:=a) (b:=b) (r:=true&&q x) (s:=true) (p:=p) (by simpa [Bd.pr]using h)with⟨hp,h⟩|⟨hp,h⟩
   .have hx:q x=true:=by
     cases e:q x with
     |true=>rfl
     |false=>rw[e]at h;exact absurd (UD h) (Bd.Jg q a _)
    rw[hx]at h;obtain⟨e,d,h1,h2,h3,h4,h5,h6,h7⟩:=Ja p g.2.2.2.1 h;have gm:=g.2.1;have gm9:=g.2.2.1;rw[show(Bd.IV x c a b).led (p+1) (.tup []) = .tup [.int 0,a.led p (.tup [])] by simp only[Bd.led,if_pos hp]];have hc:=jz (z:=x) (e:=-c) (d:=c) hk;by_cases ey:y=x
    .rw[if_pos ey]at hc;refine⟨-c+e,if d - -c > c then d - -c else c,by rw[hV,if_pos rfl,cO (T:=(0,jF js x (-c) c)) hc h1];rfl,?_,?_,?_,?_,λhq=>?_,λn hq=>?_⟩
     .split<;>omega
     .simp only[Bd.dep];split<;>omega
     .simp only[Bd.dep];omega
     .simp only[Bd.size];omega
     .rw[ey,hx]at hq;cases hq
     .rw[ey,hx]at hq;cases hq
    .rw[if_neg ey]at hc;refine⟨0+e,if d - 0 > 0 then d - 0 else 0,by rw[hV,if_pos rfl,cO (T:=(0,jF js x (-c) c)) hc h1];rfl,?_,?_,?_,?_,λhq=>?_,λn hq=>?_⟩
     .split<;>omega
     .simp only[Bd.dep];split<;>omega
     .simp only[Bd.dep];omega
     .simp only[Bd.size];omega
     .obtain⟨h8,h9,OX⟩:=h6 hq;exact⟨by rw[h8];rfl,by omega,λz=>by have:=OX z;omega⟩
     .simp only[Bd.IL,hx,U6,Ur,not_or]at n;rw[h7 n.1 hq];rfl
   .obtain⟨e,d,h1,h2,h3,h4,h5,h6,h7⟩:=Jd (p - a.size) g.2.2.2.2 h;rw[show(Bd.IV x c a b).led (p+1) (.tup []) = .tup [.int 1,b.led (p - a.size) (.tup [])] by simp only[Bd.led,if_neg hp]];refine⟨e,d,by rw[hV,if_neg (by decide)];exact h1,h2,by simp only[Bd.dep];omega,by simp only[Bd.dep];omega,by simp only[Bd.size];omega,h6,λn hq=>?_⟩;simp only[Bd.IL,Ur,not_or]at n;exact h7 n.2 hq
def uH{q:Qs}{z:Str}{m:Int}(t:Bd):∀pl:Nat,(t.pr q true)[pl]?=some (.put z m,true)->KP 2 (2 * t.dep) (t.led pl (.tup []))/\ci 3 (t.led pl (.tup []))=true:=by
 induction t with
 |rest=>intro pl h;cases pl<;>simp[Bd.pr]at h
 |pay a b=>intro pl h;cases pl<;>simp[Bd.pr]at h
 |use a=>intro pl h;cases pl<;>simp[Bd.pr]at h
 |put a n=>
  intro pl h;cases pl with
  |succ p=>simp[Bd.pr]at h
  |zero=>exact⟨.tup (UT _) (by simp),rfl⟩
 |IU a ih=>
  intro pl h;cases pl with
  |zero=>simp[Bd.pr]at h
  |succ p=>
   obtain⟨h1,h2⟩:=ih p (by simpa [Bd.pr]using h);refine⟨?_,sK λx hx=>by rw[Uy.mp hx];exact b9 rfl h2⟩;have e:2 * (Bd.IU a).dep=2 * a.dep+1+1:=by simp only[Bd.dep];omega
   rw[e];exact .tup (by show 1<=2;decide) λx hx=>by rw[Uy.mp hx];exact KP.two (Uo _) (.int 1) h1
 |IK a b Ja Jd=>
  intro pl h;cases pl with
  |zero=>simp[Bd.pr]at h
  |succ p=>
   have fa:∀{v:PV},KP 2 (2 * a.dep) v->KP 2 (2 * max a.dep b.dep) v:=λx=>x.mono (Uo _) (by omega);have fb:∀{v:PV},KP 2 (2 * b.dep) v->KP 2 (2 * max a.dep b.dep) v:=λx=>x.mono (Uo _) (by omega);rcases h_ (q:=q) (a:=a) (b:=b) (r:=true) (s:=true) (p:=p) (by simpa [Bd.pr]using h)with⟨hp,h⟩|⟨hp,h⟩
   .obtain⟨h1,h2⟩:=Ja p h;rw[show(Bd.IK a b).led (p+1) (.tup []) = .tup [a.led p (.tup []),b.IN] by simp only[Bd.led,if_pos hp]];exact⟨(KP.two (Uo _) (fa h1) (fb b.Kc)).mono (Uo _) (by simp only[Bd.dep];omega),b9 h2 b.Kd⟩
   .obtain⟨h1,h2⟩:=Jd (p - a.size) h;rw[show(Bd.IK a b).led (p+1) (.tup []) = .tup [a.IN,b.led (p - a.size) (.tup [])] by simp only[Bd.led,if_neg hp]];exact⟨(KP.two (Uo _) (fa a.Kc) (fb h1)).mono (Uo _) (by simp only[Bd.dep];omega),b9 a.Kd h2⟩
 |IY a b Ja Jd=>
  intro pl h;cases pl with
  |zero=>simp[Bd.pr]at h
  |succ p=>
   rcases h_ (q:=q) (a:=a) (b:=b) (r:=true) (s:=true) (p:=p) (by simpa [Bd.pr]using h)with⟨hp,h⟩|⟨hp,h⟩
   .obtain⟨h1,h2⟩:=Ja p h;rw[show(Bd.IY a b).led (p+1) (.tup []) = .tup [.int 0,a.led p (.tup [])] by simp only[Bd.led,if_pos hp]];exact⟨(KP.two (Uo _) (.int 0) h1).mono (Uo _) (by simp only[Bd.dep];omega),b9 rfl h2⟩
   .obtain⟨h1,h2⟩:=Jd (p - a.size) h;rw[show(Bd.IY a b).led (p+1) (.tup []) = .tup [.int 1,b.led (p - a.size) (.tup [])] by simp only[Bd.led,if_neg hp]];exact⟨(KP.two (Uo _) (.int 1) h1).mono (Uo _) (by simp only[Bd.dep];omega),b9 rfl h2⟩
 |IV x c a b Ja Jd=>
  intro pl h;cases pl with
  |zero=>simp[Bd.pr]at h
  |succ p=>
   rcases h_ (q:=q) (a:=a) (b:=b) (r:=true&&q x) (s:=true) (p:=p) (by simpa [Bd.pr]using h)with⟨hp,h⟩|⟨hp,h⟩
   .have hx:q x=true:=by
     cases e:q x with
     |true=>rfl
     |false=>rw[e]at h;exact absurd (UD h) (Bd.Jg q a _)
    rw[hx]at h;obtain⟨h1,h2⟩:=Ja p h;rw[show(Bd.IV x c a b).led (p+1) (.tup []) = .tup [.int 0,a.led p (.tup [])] by simp only[Bd.led,if_pos hp]];exact⟨(KP.two (Uo _) (.int 0) h1).mono (Uo _) (by simp only[Bd.dep];omega),b9 rfl h2⟩
   .obtain⟨h1,h2⟩:=Jd (p - a.size) h;rw[show(Bd.IV x c a b).led (p+1) (.tup []) = .tup [.int 1,b.led (p - a.size) (.tup [])] by simp only[Bd.led,if_neg hp]];exact⟨(KP.two (Uo _) (.int 1) h1).mono (Uo _) (by simp only[Bd.dep];omega),b9 rfl h2⟩
abbrev kn(w:ay):Prop:=∀{S:aA}{d l:Addr}{Q:bB}{E:bR},IR S d l->(∀js ds S',HG js ds->1<=ds.length->js.length<=4->js.Nodup->IR S' d l->JF d l S S'->Q (bV js ds) S')->w [.ref d] S Q E
def wW{xw xd xl:ay}(Kj:gC xw)(IJ:b8 xd)(JT:l9 xl):kn (aT 10 (gX xw xd xl)):=by
 intro S0 d l Q E D0 k;unfold gX;refine cY ?_;rw[show ax 10 [PV.ref d]=[some (.ref d),none,none,none,none,none,none,none,none,none] from rfl];walk_at "3";walk_at "x";refine Kj D0 (by decide) (by decide) λp ns S hl hnd hw0 _ Ni hpl hp D O0=>?_;have TU:ns.length=8:=hl;walk_at "0";walk_at "x";refine IJ D (by decide) (by decide) λr S1 r0 r1 D1 O1=>?_;obtain⟨j,ej⟩:∃j:Nat,1+r=(j:Int):=⟨(1+r).toNat,by omega⟩
 have hp1:=O1 _ _ hp Ni hpl;dsimp only;rw[ej,hp1];dsimp only;rw[ux (by rw[Ul];omega),<-XR];have QS:j<=4:=by omega
 have hj1:1<=j:=by omega
 intro p2 hp2;have n2:=D1.free hp2;have D2:IR (II S1 p2 (.lst ((ns.take j).map PV.str))) d l:=D1.new hp2;have f2:(II S1 p2 (.lst ((ns.take j).map PV.str))) p2=some (.lst ((ns.take j).map PV.str)):=ac;have Pr:p≠p2:=λh=>by rw[h,hp2]at hp1;cases hp1
 have hp2':(II S1 p2 (.lst ((ns.take j).map PV.str))) p=some (.lst (ns.map PV.str)):=by rw[ar Pr];exact hp1
 have RJ:=(O0.trans O1).free hp2 n2.1 n2.2;have Pq:JF d l S0 (II S1 p2 (.lst ((ns.take j).map PV.str))):=O0.trans (O1.trans (.new hp2));generalize II S1 p2 (.lst ((ns.take j).map PV.str))=S2 at D2 f2 hp2' Pq;have NQ:(ns.take j).length=j:=by rw[Vi];omega
 have SB:∀z∈ns.take j,M8 z:=λz hz=>(hw0 z (VA hz)).1;have hjn:(ns.take j).Nodup:=hnd.sublist (WR _ _);generalize ns.take j=js at f2 NQ SB hjn;walk_at "0";walk_at "x";simp only[f2];walk_at "0";simp only[List.set_cons_zero,List.set_cons_succ,ap,aJ,aL,v3,lk,bW];refine e_ (λdone ys S'=>∃os rs:List Str,ys=os.map PV.str/\os.length=done.length/\rs.length+done.length=j/\(∀z∈os,z∈js)/\(∀z∈rs,z∈js)/\IR S' d l/\S' p2=some (.lst (rs.map PV.str))/\S' p=some (.lst (ns.map PV.str))/\JF d l S0 S') ⟨[],js,rfl,rfl,NQ,by simp,λz h=>h,D2,f2,hp2',Pq⟩ ?_ ?_ ?_
 .rintro done ys S' ⟨os,rs,rfl,e,l1,_⟩;exact⟨trivial,bA (by rw[Ul,e];omega)⟩
 .rintro done x rest ys S' K e ⟨os,rs,rfl,e1,e2,ho,hr,D',f',w',O'⟩ hK;have hlen:done.length < j:=by
   have:(js.map PV.str).length=done.length+(rest.length+1):=by rw[e,Um,UE]
   rw[Ul]at this;omega
  simp only[Tg.put,eY,List.reduceReplicate,UA,U4,List.cons_append,List.nil_append,List.set_cons_zero,List.set_cons_succ,lk,bZ,U6,jp,vg,am,ad,ak,v3,bx,f',Xz,Ul,List.getElem?_cons_zero,List.getElem?_cons_succ,Option.join];refine IJ D' (by omega) (by omega) λr S3 r0 r1 D3 O3=>?_;obtain⟨i,rfl⟩:∃i:Nat,r=(i:Int):=⟨r.toNat,by omega⟩
  have hi:i < rs.length:=by omega
  have f3:=O3 _ _ f' n2.1 n2.2;simp only[sv,f3,Ul,IB hi,Ut,Uq hi,Option.map_some];refine⟨by omega,by omega,hK _ _ ⟨os++[rs[i]],rs.eraseIdx i,by rw[U8];rfl,by rw[Um,Um,e1];rfl,?_,?_,?_,D3.upd n2.1 n2.2,?_,?_,(O'.trans O3).put RJ⟩⟩
  .rw[List.length_eraseIdx_of_lt hi,Um,UM];omega
  .intro z hz;rcases Ur.mp hz with h|h
   .exact ho z h
   .rw[Uy.mp h];exact hr _ (V7 hi)
  .exact λz hz=>hr z (List.mem_of_mem_eraseIdx hz)
  .rw[ac,pW]
  .rw[ar Pr];exact O3 _ _ w' Ni hpl
 rintro ys S3 ⟨os,rs,rfl,eo,_,ho,_,D3,_,w3,O3⟩ po Qq;rw[Ul,NQ]at eo;have SC:=D3.free Qq;have TV:p≠po:=λh=>by rw[h,Qq]at w3;cases w3
 walk_at "0";walk_at "x";intro pb PX;have D4:=(D3.new (o:=.lst (os.map PV.str)) Qq)
 have QT:=D4.free PX;have H0:On S0 (II (II S3 po (.lst (os.map PV.str))) pb (.lst [])) d l p po pb (ns.map PV.str) (os.map PV.str) (([]:List Bd).map Bd.pv):=by
  have a:(II S3 po (.lst (os.map PV.str))) p=some (.lst (ns.map PV.str)):=by rw[ar TV];exact w3
  have b:(II S3 po (.lst (os.map PV.str))) po=some (.lst (os.map PV.str)):=ac;have n1:p≠pb:=λh=>by rw[h,PX]at a;cases a
  have n2:po≠pb:=λh=>by rw[<-h,b]at PX;cases PX
  exact⟨D4.new PX,by rw[ar n1];exact a,by rw[ar n2];exact b,ac,⟨Ni,hpl,SC.1,SC.2,QT.1,QT.2,n1,n2⟩,(O3.trans (.new Qq)).trans (.new PX),(O3.trans (.new Qq)).free PX QT.1 QT.2⟩
 generalize II (II S3 po (.lst (os.map PV.str))) pb (.lst [])=S4 at H0;walk_at "0";simp only[bS,eX,v3,lk,List.set_cons_zero,List.set_cons_succ,H0.o];refine bp (λdone σ S'=>∃(bs:List Bd) (x4 x7 x8 x9:Option PV),σ=[some (.ref d),some (.ref p),some (.ref p2),some (.tup (js.map PV.str)),x4,some (.ref po),some (.ref pb),x7,x8,x9]/\On S0 S' d l p po pb (ns.map PV.str) (os.map PV.str) (bs.map Bd.pv)/\bs.length=done.length/\done.length<=j/\∀t∈bs,CB js t) ⟨[],_,_,_,_,rfl,H0,rfl,UT _,by simp⟩ (λ_ _ _ ⟨_,_,_,_,_,_,H,_⟩=>H.o) ?_ ?_
 .rintro done x rest σ S' K e ⟨bs,x4,x7,x8,x9,rfl,H,lb,lj,hb⟩ hK;obtain⟨y,rfl,hy⟩:=i8 e;obtain⟨z,hz,rfl⟩:∃z,os[done.length]?=some z/\.str z=y:=by rw[Ut]at hy;exact VC.mp hy
  have hlt:done.length < os.length:=(UH.mp hz).1;have PU:z∈js:=ho z (UD hz);simp only[Tg.put,Tg.IL,List.set_cons_zero,List.set_cons_succ];refine al λN2 JV=>?_;simp only[ap,aD,am,af,ad,v3,lk,c3];refine IJ H.D (by decide) (by decide) λr1 S1 a0 a1 D1 O1=>?_;have H1:=H.Op D1 O1;simp only[aR,List.set_cons_zero,List.set_cons_succ];refine JV _ _ (al λN2 JV=>?_);have next:∀(t:Bd)(S2:aA),CI js t->On S0 S2 d l p po pb (ns.map PV.str) (os.map PV.str) (bs.map Bd.pv)->N2 [some (.ref d),some (.ref p),some (.ref p2),some (.tup (js.map PV.str)),some (.str z),some (.ref po),some (.ref pb),some (.int done.length),some t.pv,x9] S2:=by
   intro t S2 ht H2;refine JV _ _ (al λN3 N6=>?_);simp only[ap,bf,aD,am,ad,v3,lk,c3];intro e1 Pa;have n1:=H2.D.free Pa;refine JT (js:=js) (H2.new Pa).D ac n1.1 n1.2 λf1 S3 l1 g1 D3 O3=>?_;have H3:=(H2.new Pa).Op D3 O3;intro e2 RK;have n2:=H3.D.free RK;refine JT (js:=js) (H3.new RK).D ac n2.1 n2.2 λf2 S4 l2 g2 D4 O4=>?_;have H4:=(H3.new RK).Op D4 O4;intro p9 hp9;have n9:=H4.D.free hp9;have H5:=H4.new (o:=.lst [.tup [.str "then",f1.pv,t.pv],.tup [.str "often",t.pv],.tup [.str "either",f2.pv,t.pv]]) hp9;have f5:(II S4 p9 (.lst [.tup [.str "then",f1.pv,t.pv],.tup [.str "often",t.pv],.tup [.str "either",f2.pv,t.pv]])) p9=some (.lst [.tup [.str "then",f1.pv,t.pv],.tup [.str "often",t.pv],.tup [.str "either",f2.pv,t.pv]]):=ac;refine N6 _ _ ?_;generalize II S4 p9 (.lst [.tup [.str "then",f1.pv,t.pv],.tup [.str "often",t.pv],.tup [.str "either",f2.pv,t.pv]])=S5 at H5 f5;simp only[List.set_cons_zero,List.set_cons_succ,bg,jp,vg,am,af,ad,ak,bf,v3,lk,c3,bx,aR,H5.b,Xz,Ul];refine IJ (m:=(bs.length:Int)+1) H5.D (by omega) (by omega) λr6 S6 b0 b1 D6 O6=>?_;have H6:=H5.Op D6 O6;have f6:=O6 _ _ f5 n9.1 n9.2;simp only[aa,f6,bG,bU,kC];intro p10 PY;have SD:=H6.D.free PY;refine IJ (H6.new PY).D (by decide) (by decide) λr7 S7 c0 c1 D7 O7=>?_;have H7:=(H6.new PY).Op D7 O7;have f7:=O7 _ _ (ac (S:=S6)) SD.1 SD.2;simp only[f7];obtain⟨v,hv,hm⟩:=gZ (xs:=[t.pv,.tup [.str "then",f1.pv,t.pv],.tup [.str "often",t.pv],.tup [.str "either",f2.pv,t.pv]]) c0 (by simpa using c1);rw[hv];obtain⟨u,hu,rfl⟩:∃u,CB js u/\u.pv=v:=by
    simp only[Uv,UK,Vp]at hm;rcases hm with rfl|rfl|rfl|rfl
    .exact⟨t,ht.cb,rfl⟩
    .exact⟨_,ht.IK l1 g1,rfl⟩
    .exact⟨_,ht.IU,rfl⟩
    .exact⟨_,ht.IY l2 g2,rfl⟩
   simp only[m7,H7.b];refine⟨b0,by rw[Ul];omega,UL (show(bs.map Bd.pv).length < 5 by rw[Ul];omega) (by decide),?_⟩;refine hK _ _ ⟨bs.take r6.toNat++u::bs.drop r6.toNat,_,_,_,_,rfl,?_,?_,?_,?_⟩
   .rw[U8,UA,XR,List.map_drop];exact H7.put
   .rw[Um,UE,Vi,VM,Um,UM];omega
   .rw[Um,UM];omega
   .intro w hw;rcases Ur.mp hw with h|h
    .exact hb w (VA h)
    .rcases Uv.mp h with rfl|h
     .exact hu
     .exact hb w (XY h)
  have take:∀(S2:aA),On S0 S2 d l p po pb (ns.map PV.str) (os.map PV.str) (bs.map Bd.pv)->ap 8 (aD [c3 (.str "take"),af aa (v3 5) (af bd (v3 7) (c3 (.int 1))),af aR (c3 (.int 1)) (ad xd [v3 0,c3 (.int 9)]),v3 8,ad xl [v3 0,bf []]]) { nx:=N2,rt:=Q,ex:=fE,ct:=K,bk:=N } [some (.ref d),some (.ref p),some (.ref p2),some (.tup (js.map PV.str)),some (.str z),some (.ref po),some (.ref pb),some (.int done.length),some (.tup [.str "put",.str z,.int (1+r1)]),x9] S2:=by
   intro S2 H2;obtain⟨y,hy,ey⟩:=wT (xs:=os.map PV.str) (i:=done.length) (by rw[Ul];exact hlt);obtain⟨y,TW,rfl⟩:=UU.mp hy;simp only[ap,aD,am,af,ad,bf,v3,lk,c3,bd,aa,cA,H2.o,ey];refine IJ H2.D (by decide) (by decide) λr2 S3 b0 b1 D3 O3=>?_;have H3:=H2.Op D3 O3;simp only[aR];intro e1 Pa;have n1:=H3.D.free Pa;refine JT (js:=js) (H3.new Pa).D ac n1.1 n1.2 λf S4 TX hgf D4 O4=>?_;have H4:=(H3.new Pa).Op D4 O4;exact next (.IV y (1+r2) (.put z (1+r1)) f) S4 (.IV PU (by omega) (by omega) (ho y TW) (by omega) (by omega) TX hgf) H4
  simp only[bm,iy,aG,af,ak,am,ad,v3,lk,c3,m6,cA,Us]
  split
  .rw[if_pos trivial];exact take S1 H1
  .refine IJ H1.D (by decide) (by decide) λr2 S2 b0 b1 D2 O2=>?_;have H2:=H1.Op D2 O2;simp only[aS,Uu,Us]
   split
   .exact take S2 H2
   .simp only[aO];exact next (.put z (1+r1)) S2 (.put PU (by omega) (by omega)) H2
 .rintro σ S5 ⟨bs,x4,x7,x8,x9,rfl,H,lb,lj,hb⟩;refine hN _ _ ?_;have ON:bs.length<=4:=by omega
  simp only[aw,aD,am,ak,aJ,eX,v3,lk,H.b];refine e_ (λdone ys S'=>S'=S5/\∃es:List (Str×Bd),ys=es.map fX/\es.length=done.length/\done.length<=bs.length/\∀q∈es,q.2∈bs) ⟨rfl,[],rfl,rfl,UT _,by simp⟩ ?_ ?_ ?_
  .rintro done ys S' ⟨rfl,es,rfl,e,l1,_⟩;exact⟨H.b,bA (by rw[Ul,e];omega)⟩
  .rintro done x rest ys S' K e ⟨rfl,es,rfl,e2,l1,he⟩ hK;obtain⟨y,rfl,hy⟩:=i8 e;obtain⟨t,ht,rfl⟩:∃t,bs[done.length]?=some t/\t.pv=y:=by rw[Ut]at hy;exact VC.mp hy
   have hlt:done.length < bs.length:=(UH.mp ht).1;have h8:4+done.length < ns.length:=by omega
   have hat:JU (ns.map PV.str) (4+(done.length:Int))=some (.str ns[4+done.length]):=by
    rw[show(4+(done.length:Int))=((4+done.length:Nat):Int) by omega];exact qO (by rw[Ut,Uq h8];rfl)
   simp only[Tg.put,Tg.IL,eY,List.reduceReplicate,UA,U4,List.cons_append,List.nil_append,List.set_cons_zero,List.set_cons_succ,lk,bZ,U6,aD,am,af,c3,v3,aR,aa,List.getElem?_cons_zero,List.getElem?_cons_succ,Option.join,H.w,hat];refine hK _ _ ⟨rfl,es++[(ns[4+done.length],t)],by rw[U8];rfl,by rw[Um,Um,e2];rfl,by rw[Um,UM];omega,λq hq=>?_⟩;rcases Ur.mp hq with h|h
   .exact he q h
   .rw[Uy.mp h];exact UD ht
  .rintro ys S' ⟨rfl,es,rfl,e,_,he⟩ pl hpl;simp only[aW,lL,ac];have hel:es.length<=1000:=by
    rw[e];unfold L3.aU;rw[V9,Ul];omega
   refine k js es _ ⟨λz hz=>lU (SB z hz),by omega,hel,λq hq=>(hb _ (he q hq)).g,λq hq=>by have:=(hb _ (he q hq)).d;omega,λq hq=>by have:=(hb _ (he q hq)).s;omega⟩ (by
    have h1:(js.map PV.str).length=js.length:=Ul _;have h2:(L3.aU (os.map PV.str)).length=os.length:=by unfold L3.aU;rw[V9,Ul]
    rw[e];unfold L3.aU;rw[V9,Ul];omega) (by omega) hjn (H.D.new hpl) (H.x.trans (.new hpl))
abbrev jc(w:ay):Prop:=∀{S:aA}{d l:Addr}{most many size:Nat}{Q:bB}{E:bR},IR S d l->most<=8->1<=many->many<=4->1<=size->size<=60->
  (∀js ds S',Lz 6 js [] ds->1<=ds.length->ds.length<=many->js.length<=8->js.length<=most->IR S' d l->JF d l S S'->Q (bV js ds) S')->w [.ref d,.int most,.int many,.int size] S Q E
def uI{xw xd xb:ay}(Kj:gC xw)(IJ:b8 xd)(Qr:g_ xb):jc (aT 9 (gS xw xd xb)):=by
 intro S0 d l most many size Q E D0 hmo hm1 hm4 hs1 hs2 k;unfold gS;refine cY ?_;rw[show ax 9 [PV.ref d,PV.int most,PV.int many,PV.int size]=[some (.ref d),some (.int most),some (.int many),some (.int size),none,none,none,none,none] from rfl];walk_at "3";walk_at "x";refine Kj D0 (by decide) (by decide) λp ns S hl hnd hw0 _ Ni hpl hp D O0=>?_;have hl8':ns.length=8:=hl;have TU:8<=ns.length:=by omega
 have SE:ns.length<=100:=by omega
 have hw:∀z∈ns,M8 z:=λz hz=>(hw0 z hz).1;refine hN _ _ ?_;walk_at "3";walk_at "x";refine IJ (m:=most+1) D (by omega) (by omega) λr S1 r0 r1 D1 O1=>?_;obtain⟨j,rfl⟩:∃j:Nat,r=(j:Int):=⟨r.toNat,by omega⟩
 have hp1:=O1 _ _ hp Ni hpl;rw[hp1];dsimp only;rw[ux (by rw[Ul];omega),<-XR];intro p2 hp2;rw[ac];dsimp only;have D2:IR (II S1 p2 (.lst ((ns.take j).map PV.str))) d l:=D1.new hp2;have O2:JF d l S (II S1 p2 (.lst ((ns.take j).map PV.str))):=O1.trans (.new hp2);have hp2':=JF.new (o:=.lst ((ns.take j).map PV.str)) hp2 _ _ hp1 Ni hpl;generalize II S1 p2 (.lst ((ns.take j).map PV.str))=S2 at D2 O2 hp2';walk_at "0";walk_at "x";intro p3 hp3;have Qt:=D2.free hp3;refine IJ (D2.new hp3) (by decide) (by decide) λf S3 f0 f1 D3 O3=>?_;have e3:=O3 _ _ (ac (S:=S2) (o:=.lst [.int 0,.int 4])) Qt.1 Qt.2;have PZ:=O3 _ _ (JF.new hp3 _ _ hp2' Ni hpl) Ni hpl;have TY:JF d l S S3:=O2.trans ((JF.new hp3).trans O3);simp only[e3];obtain⟨v,hv,Qu⟩:=gZ (xs:=[PV.int 0,.int 4]) f0 (by simpa using f1);rw[hv];obtain⟨g,rfl,hg⟩:∃g:Nat,v = .int g/\g<=4:=by
  simp only[Uv,UK,Vp]at Qu;rcases Qu with rfl|rfl
  .exact⟨0,rfl,by omega⟩
  .exact⟨4,rfl,by omega⟩
 walk_at "0";walk_at "x";refine IJ (m:=many) D3 (by omega) (by omega) λr4 S4 a0 a1 D4 O4=>?_;obtain⟨mm,em⟩:∃mm:Nat,1+r4=(mm:Int):=⟨(1+r4).toNat,by omega⟩
 dsimp only;rw[em];have Om:=O4 _ _ PZ Ni hpl;walk_at "0";walk_at "x";refine⟨by omega,by omega,?_⟩;rw[Vk];have hjl:(ns.take j).length<=8:=by rw[Vi];omega
 refine e_ (λdone ys S'=>∃ds:List (Str×Bd),ys=ds.map fX/\ds.length=done.length/\ds.map Prod.fst=(ns.drop g).take done.length/\done.length<=mm/\(∀q∈ds,q.2.good (ns.take j) []/\q.2.dep<=6/\q.2.size<=60)/\IR S' d l/\JF d l S4 S') ⟨[],rfl,rfl,rfl,UT _,by simp,D4,.refl⟩ ?_ ?_ ?_
 .rintro done ys S' ⟨ds,rfl,e,_,hd,_⟩;exact⟨trivial,eG (by rw[Ul,e];omega)⟩
 .rintro done x rest ys S' K e ⟨ds,rfl,e2,e3,hd,hc,D',O'⟩ hK;obtain⟨rfl,hi⟩:=qN e;walk_at "x"
  try simp only[bZ,U6]
  have hp':=O' _ _ Om Ni hpl;simp only[hp'];have hlt:g+done.length < ns.length:=by omega
  have hat:JU (ns.map PV.str) ((g:Int)+(done.length:Int))=some (.str ns[g+done.length]):=by
   have:((g:Int)+(done.length:Int))=((g+done.length:Nat):Int):=by omega
   rw[this];exact qO (by rw[Ut,Uq hlt];rfl)
  rw[hat];dsimp only;refine⟨DP (by omega) (by omega),Qr D' (by omega) (by omega) (by omega) λt S5 tg td tz tz2 _ D5 RL=>?_⟩;refine hK _ _ ⟨ds++[(ns[g+done.length],t)],by simp[fX],by simp[e2],?_,by rw[Um];exact hi,λy hy=>?_,D5,O'.trans RL⟩
  .rw[U8,e3,Um,UM,XA,Yj,Uq hlt]
   rfl
  .rcases Ur.mp hy with hy|hy
   .exact hc y hy
   .rw[Uy.mp hy];exact⟨tg,td,tz⟩
 rintro ys S5 ⟨ds,rfl,e,ef,_,hds,D5,O5⟩;rw[dX]at e ef;intro p6 P0;refine hN _ _ ?_;walk_at "x";rw[ac];dsimp only;have sub:∀q∈ds,q.1∈ns:=λq hq=>by
  have:q.1∈ds.map Prod.fst:=UU.mpr ⟨q,hq,rfl⟩;rw[ef]at this;exact XY (VA this)
 refine k (ns.take j) ds _ ⟨⟨by omega,by omega,λz hz=>hw z (VA hz),by simp,λq hq=>hw _ (sub q hq),λq hq=>(hds q hq).1,λq hq=>by have:=(hds q hq).2.1;omega,λq hq=>(hds q hq).2.2⟩,hnd.sublist (WR _ _),by rw[ef];exact hnd.sublist ((WR _ _).trans (List.drop_sublist _ _)),λq hq=>(hds q hq).2.1⟩ (by omega) (by omega) hjl (by rw[Vi];omega) (D5.new P0) (O0.trans (TY.trans (O4.trans (O5.trans (.new P0)))))
def OT(q:Qs)(js:Vs)(T:Ty):Prop:=∀(k:Nat) y,js[k]?=some y->q y=false->T.2[k]?=some (0,0)
def Ask(q:Qs)(js:Vs)(T:Ty):Prop:=∃(k:Nat)(y:Str)(e d:Int),js[k]?=some y/\q y=false/\T.2[k]?=some (e,d)/\0 < d
theorem OT.join{q:Qs}{js:Vs}{T U:Ty}(h:OT q js T)(g:OT q js U):OT q js (T.join U):=λk y h1 h2=>cO (h k y h1 h2) (g k y h1 h2)
def Gc{js:Vs}{T:Ty}{k:Nat}{y:Str}(h:T.Ok js)(hk:js[k]?=some y):∃e d,T.2[k]?=some (e,d)/\0<=d:=by
 have hl:k < T.2.length:=by rw[h.1];exact(UH.mp hk).1
 exact⟨(T.2[k]).1,(T.2[k]).2,Uq hl,h.2.2 _ (V7 hl)⟩
def Ask.left{q:Qs}{js:Vs}{T U:Ty}(h:Ask q js T)(g:U.Ok js):Ask q js (T.join U):=by
 obtain⟨k,y,e,d,h1,h2,h3,h4⟩:=h;obtain⟨f,c,g1,g2⟩:=Gc g h1;exact⟨k,y,_,_,h1,h2,cO h3 g1,by dsimp only [jn];split<;>omega⟩
def Ask.right{q:Qs}{js:Vs}{T U:Ty}(h:OT q js T)(g:Ask q js U):Ask q js (T.join U):=by
 obtain⟨k,y,e,d,h1,h2,h3,h4⟩:=g;exact⟨k,y,_,_,h1,h2,cO (h k y h1 h2) h3,by dsimp only [jn];split<;>omega⟩
theorem OT.again{q:Qs}{js:Vs}{T:Ty}(m:Int)(h:OT q js T):OT q js (T.again m):=λk y h1 h2=>by
 rw[jy m (h k y h1 h2)];simp[ag]
theorem Ask.again{q:Qs}{js:Vs}{T:Ty}(m:Int)(h:Ask q js T):Ask q js (T.again m):=by
 obtain⟨k,y,e,d,h1,h2,h3,h4⟩:=h;exact⟨k,y,_,_,h1,h2,jy m h3,by dsimp only [ag];split<;>omega⟩
def uJ(q:Qs)(js:Vs):OT q js (z0 js):=λk y h1 _=>md h1
def OE(q:Qs)(js:Vs)(ms:List (Str×Int))(T:Ty):Prop:=((∀p∈ms,q p.1=true)/\OT q js T)\/((∃p∈ms,p.2 < 0/\q p.1=false)/\Ask q js T)
theorem OE.join{q:Qs}{js:Vs}{ms ns:List (Str×Int)}{T U:Ty}(h:OE q js ms T)(g:OE q js ns U)(ok:U.Ok js):OE q js (ms++ns) (T.join U):=by
 rcases h with⟨h1,h2⟩|⟨⟨p,h1,h2⟩,h3⟩
 .rcases g with⟨g1,g2⟩|⟨⟨p,g1,g2⟩,g3⟩
  .exact .inl ⟨λp hp=>(Ur.mp hp).elim (h1 p) (g1 p),h2.join g2⟩
  .exact .inr ⟨⟨p,UI _ g1,g2⟩,.right h2 g3⟩
 .exact .inr ⟨⟨p,UY _ h1,h2⟩,h3.left ok⟩
def zf{q:Qs}{js:Vs}(t:Bd):∀v:PV,t.good js []->aX t v=true->(∀z∈t.IL q,q z=true)->OE q js (J_ t v) (t.Jw js v):=by
 induction t with
 |rest=>exact λv _ _ _=>.inl ⟨λp hp=>(by cases hp),uJ q js⟩
 |pay a b=>exact λv _ _ _=>.inl ⟨λp hp=>(by cases hp),uJ q js⟩
 |use z=>exact λv g _ _=>absurd (show z∈[] from g) (by simp)
 |put z m=>
  intro v g _ hp;have hz:=hp z (by simp[Bd.IL]);refine .inl ⟨λp hm=>by rw[show p=(z,m)from Uy.mp hm];exact hz,λk y h1 h2=>?_⟩;show(jF js z m 0)[k]?=_;rw[jz h1,if_neg (λe=>by rw[e,hz]at h2;cases h2)]
 |IK a b Ja Jd=>
  intro v g hv hp;obtain⟨x,y,rfl,hx,hy⟩:=dM hv;exact(Ja x g.1 hx λz hz=>hp z (UY _ hz)).join (Jd y g.2 hy λz hz=>hp z (UI _ hz)) (aV b y g.2 hy)
 |IY a b Ja Jd=>
  intro v g hv hp;obtain⟨i,y,rfl,hc⟩:=dN hv;rcases hc with⟨rfl,hy⟩|⟨rfl,hy⟩
  .exact Ja y g.1 hy λz hz=>hp z (UY _ hz)
  .exact Jd y g.2 hy λz hz=>hp z (UI _ hz)
 |IV z m a b Ja Jd=>
  intro v g hv hp;obtain⟨i,y,rfl,hc⟩:=dO hv;rcases hc with⟨rfl,hy⟩|⟨rfl,hy⟩
  .rw[hV,if_pos rfl];show OE q js ((z,0 - m)::J_ a y) _;have gm:=g.2.1;by_cases hz:q z=true
   .have ha:=Ja y g.2.2.2.1 hy λw hw=>hp w (UY _ (by rw[if_pos hz];exact hw));refine OE.join (ms:=[(z,0 - m)]) (T:=(0,jF js z (-m) m)) (.inl ⟨λp hm=>by rw[show p=(z,0 - m)from Uy.mp hm];exact hz,λk w h1 h2=>?_⟩) ha (aV a y g.2.2.2.1 hy);show(jF js z (-m) m)[k]?=_;rw[jz h1,if_neg (λe=>by rw[e,hz]at h2;cases h2)]
   .have hz:q z=false:=by cases e:q z with|true=>exact absurd e hz|false=>rfl
    obtain⟨k,hk,e⟩:=Wh g.1;have h1:js[k]?=some z:=by rw[Uq hk,e]
    refine .inr ⟨⟨(z,0 - m),by simp,by show 0 - m < 0;omega,hz⟩,Ask.left ⟨k,z,-m,m,h1,hz,?_,by omega⟩ (aV a y g.2.2.2.1 hy)⟩;show(jF js z (-m) m)[k]?=_;rw[jz h1,if_pos rfl]
  .rw[hV,if_neg (by decide)];exact Jd y g.2.2.2.2 hy λw hw=>hp w (UI _ hw)
 |IU a ih=>
  intro v g hv hp;obtain⟨xs,rfl,hx⟩:=d_ hv;rw[qW];show OE q js (xs.flatMap λg=>J_ a (cP g)) _;have key:∀(xs:List PV)(ms:List (Str×Int))(T:Ty),xs.all (kT a)=true->OE q js ms T->OE q js (ms++xs.flatMap λg=>J_ a (cP g)) ((xs.map (Pn js λy=>a.Jw js y)).foldl Ty.join T):=by
   intro xs
   induction xs with
   |nil=>intro ms T _ h;simpa using h
   |cons x xs ih2=>
    intro ms T hx h;rw[List.all_cons,V6]at hx;obtain⟨m,y,rfl,hm,hy⟩:=cJ hx.1;rw[Wz,UA,VJ,<-VX];refine ih2 _ _ hx.2 (h.join ?_ ((aV a y g hy).again hm));show OE q js (J_ a y) ((a.Jw js y).again m);rcases ih y g hy hp with⟨h1,h2⟩|⟨h1,h2⟩
    .exact .inl ⟨h1,h2.again m⟩
    .exact .inr ⟨h1,h2.again m⟩
  have:=key xs [] (z0 js) hx (.inl ⟨λp hp=>(by cases hp),uJ q js⟩)
  simpa using this
end C
namespace C
open PySem L2 L3 Wd
open CY
def Lo(a pj pr:Addr)(S S':aA):Prop:=∀b o,S b=some o->b≠a->b≠pj->b≠pr->S' b=some o
def Lo.refl{a pj pr:Addr}{S:aA}:Lo a pj pr S S:=λ_ _ h _ _ _=>h
def Lo.trans{a pj pr:Addr}{S S1 S2:aA}(x:Lo a pj pr S S1)(y:Lo a pj pr S1 S2):Lo a pj pr S S2:=λb o h h1 h2 h3=>y b o (x b o h h1 h2 h3) h1 h2 h3
section
variable {S:aA}{a pj pr:Addr}{js:Vs}{lim:Nat}{w:Wl}
def Lo.ud{o:SO}:Lo a pj pr S (II S a o):=λb u h h1 _ _=>by rw[ar h1];exact h
def Lo.uj{o:SO}:Lo a pj pr S (II S pj o):=λb u h _ h1 _=>by rw[ar h1];exact h
end
theorem eZ:∀js:List Str,gW (js.map PV.str)=some js
 |[]=>rfl
 |j::js=>by rw[UA];unfold gW;rw[eZ js];rfl
def vA{js:Vs}{z:Str}{S:aA}{Q:bB}(h:z∈js)(q:Q (.int (js.idxOf z:Nat)) S):fG (eP js) [.str z] S Q:=by
 unfold fG eP;simp only[eZ];exact⟨js.idxOf z,(fg h).1,(fg h).2.1,q⟩
def rq{cs:Vu}{i:Nat}(h:i < cs.length):JU (cs.map PV.int) (i:Int)=some (.int (cs.getD i 0)):=bj (by rw[Ut,Uq h,List.getD_eq_getElem?_getD,Uq h];rfl)
def rA{n i:Nat}(h:i < n):qi n (i:Int)=some i:=by unfold qi;rw[if_pos (by omega),if_pos (by omega)];simp
def rB{cs:Vu}{i:Nat}{m:Int}:(cs.map PV.int).set i (.int m)=(cs.set i m).map PV.int:=by rw[List.map_set]
section
variable {i:Nat}{y z:Str}{σ:cU}{S:aA}{D:mH}{a b:bv}
def me(h:lk σ i=some (.str y))(q:a D σ S):bm (aG (af (aS false) (v3 i) (c3 (.str y)))) a b D σ S:=by
 simp only[bm,aG,af,v3,h,c3,aS,Vt,Uu,U6];exact q
def bO(h:lk σ i=some (.str z))(hz:z≠y)(q:b D σ S):bm (aG (af (aS false) (v3 i) (c3 (.str y)))) a b D σ S:=by
 simp only[bm,aG,af,v3,h,c3,aS,hz,WM,Uu,UB,UZ];exact q
end
theorem m_{f:Wl->Wl}(hf:∀w,w.run=false->f w=w):∀(n:Nat)(w:Wl),w.run=false->iter f n w=w
 |0,_,_=>rfl
 |n+1,w,h=>by show iter f n (f w)=w;rw[hf w h];exact m_ hf n w h
def uK{α β:Type}(f:β->α->β)(xs:List α)(x:α)(b:β):(xs++[x]).foldl f b=f (xs.foldl f b) x:=by rw[WS];rfl
theorem vB{F:PV->Wl->Wl}(hF:∀g w,w.run=false->F g w=w):∀(l:List PV)(w:Wl),w.run=false->l.foldl (λw g=>F g w) w=w
 |[],_,_=>rfl
 |g::l,w,h=>by rw[VJ,hF g w h];exact vB hF l w h
theorem mf(f:Wl->Wl):∀(n:Nat)(w:Wl),iter f (n+1) w=f (iter f n w)
 |0,_=>rfl
 |n+1,w=>mf f n (f w)
def Gd{P:Wl->Prop}{w:Wl}{f:Wl->Wl}(h:P w)(k:w.run=true->P (f w)):P (w.go f):=by
 cases hr:w.run with
 |false=>rw[Wl.N9 hr];exact h
 |true=>rw[Wl.LL hr];exact k hr
noncomputable def di:List (Int×Int)->List Int->Bool
 |p::ps,c::cs=>decide (p.2<=c)&&di ps cs
 |_,_=>true
noncomputable def iI:List (Int×Int)->List Int->List Int
 |p::ps,c::cs=>(c+p.1)::iI ps cs
 |_,cs=>cs
theorem sW:∀(ps:List (Int×Int))(cs:Vu),(iI ps cs).length=cs.length
 |[],[]=>rfl
 |[],_::_=>rfl
 |_::_,[]=>rfl
 |p::ps,c::cs=>by simp only[iI,List.length_cons,sW ps cs]
theorem pZ:∀(ps qs:List (Int×Int))(cs:Vu),ps.length=qs.length->iI (List.zipWith jn ps qs) cs=iI qs (iI ps cs)
 |[],[],cs,_=>by cases cs<;>rfl
 |p::ps,q::qs,[],_=>rfl
 |p::ps,q::qs,c::cs,h=>by
  simp only[List.zipWith_cons_cons,iI,jn];rw[pZ ps qs cs (by simpa using h)]
  congr 1;omega
 |[],_::_,_,h=>by simp at h
 |_::_,[],_,h=>by simp at h
theorem mh:∀(ps qs:List (Int×Int))(cs:Vu),ps.length=qs.length->di (List.zipWith jn ps qs) cs=(di ps cs&&di qs (iI ps cs))
 |[],[],cs,_=>by cases cs<;>rfl
 |p::ps,q::qs,[],_=>rfl
 |p::ps,q::qs,c::cs,h=>by
  simp only[List.zipWith_cons_cons,di,iI,jn];rw[mh ps qs cs (by simpa using h)];have e:decide ((if q.2 - p.1 > p.2 then q.2 - p.1 else p.2)<=c)=(decide (p.2<=c)&&decide (q.2<=c+p.1)):=by
   rw[<-Bool.decide_and]
   congr 1
   apply propext
   split<;>omega
  rw[e];cases decide (p.2<=c)<;>cases decide (q.2<=c+p.1)<;>cases di ps cs<;>rfl
 |[],_::_,_,h=>by simp at h
 |_::_,[],_,h=>by simp at h
theorem rC:∀(js:Vs)(cs:Vu),(∀c∈cs,0<=c)->di (zl js) cs=true/\iI (zl js) cs=cs
 |[],cs,_=>by cases cs<;>exact⟨rfl,rfl⟩
 |j::js,[],_=>⟨rfl,rfl⟩
 |j::js,c::cs,h=>by
  have:=rC js cs (λx hx=>h x (by simp[hx]));have h0:=h c (by simp);refine⟨?_,?_⟩
  .show(decide ((0:Int)<=c)&&di (zl js) cs)=true;rw[this.1,UO h0];rfl
  .show(c+0)::iI (zl js) cs=c::cs;rw[this.2,XE]
theorem uL{z:Str}{e d:Int}(hd:0<=d):∀(js:Vs)(cs:Vu),js.Nodup->cs.length=js.length->(∀c∈cs,0<=c)->z∈js->
  di (jF js z e d) cs=decide (d<=cs.getD (js.idxOf z) 0)/\iI (jF js z e d) cs=cs.set (js.idxOf z) (cs.getD (js.idxOf z) 0+e)
 |[],_,_,_,_,h=>by simp at h
 |j::js,[],_,h,_,_=>by simp at h
 |j::js,c::cs,hn,hl,h0,hz=>by
  have hn':=VE.mp hn;rw[List.idxOf_cons];by_cases hj:j=z
  .subst hj;have e0:∀(js:Vs)(cs:Vu),(∀c∈cs,0<=c)->j ∉ js->di (jF js j e d) cs=true/\iI (jF js j e d) cs=cs:=by
    intro js
    induction js with
    |nil=>intro cs _ _;cases cs<;>exact⟨rfl,rfl⟩
    |cons y js ih=>
     intro cs hc hni;cases cs with
     |nil=>exact⟨rfl,rfl⟩
     |cons x cs=>
      rw[Uv,not_or]at hni;have k:=ih cs (λa ha=>hc a (by simp[ha])) hni.2;unfold jF at k ⊢;simp only[UA,di,iI];rw[if_neg (Ww hni.1),k.1,k.2];exact⟨by rw[UO (hc x (by simp))];rfl,by simp⟩
   have k:=e0 js cs (λa ha=>h0 a (by simp[ha])) hn'.1;unfold jF at k ⊢;simp only[UA,di,iI,U6,k.1,k.2,beq_self_eq_true,XS];exact⟨by simp,by simp⟩
  .have e2:(j == z)=false:=by simpa using hj
   have hz':z∈js:=by simpa [Ww hj]using hz
   have k:=uL hd (e:=e) js cs hn'.2 (by simpa using hl) (λa ha=>h0 a (by simp[ha])) hz';unfold jF at k ⊢;simp only[UA,di,iI,hj,UZ,k.1,k.2,e2];exact⟨by rw[UO (h0 c (by simp))];simp,by simp⟩
noncomputable def gn(js:Vs):Bd->PV->Wl->Wl
 | .rest,_,w=>w
 | .pay x y,_,w=>w.go (Wl.pay (x * (2520 / y)))
 | .put z m,_,w=>w.go (Wl.I9 js z m)
 | .use _,_,w=>w
 | .IK a b,v,w=>gn js b (cP v) (gn js a (jx v) w)
 | .IY a b,v,w=>if nm (jx v)=0 then gn js a (cP v) w else gn js b (cP v) w
 | .IV z m a b,v,w=>if nm (jx v)=0 then w.go λw=>if w.jars.getD (js.idxOf z) 0 < m then { w.I9 js z (-m)with st:=some 0 } else gn js a (cP v) (w.I9 js z (-m)) else gn js b (cP v) w
 | .IU a,v,w=>(F_ v).foldl (λw g=>iter (λw=>gn js a (cP g) w) (nm (jx g)).toNat w) w
theorem jd{js:Vs}:∀(t:Bd)(v:PV)(w:Wl),w.run=false->gn js t v w=w
 | .rest,_,_,_=>rfl
 | .pay _ _,_,_,h=>Wl.N9 h
 | .put _ _,_,_,h=>Wl.N9 h
 | .use _,_,_,_=>rfl
 | .IK a b,v,w,h=>by show gn js b _ (gn js a _ w)=w;rw[jd a _ w h,jd b _ w h]
 | .IY a b,v,w,h=>by
  show(if _ then _ else _)=w
  split
  .exact jd a _ w h
  .exact jd b _ w h
 | .IV z m a b,v,w,h=>by
  show(if _ then _ else _)=w
  split
  .exact Wl.N9 h
  .exact jd b _ w h
 | .IU a,v,w,h=>vB (F:=λg w=>iter (λw=>gn js a (cP g) w) (nm (jx g)).toNat w) (λg w h=>m_ (λw h=>jd a _ w h) _ w h) _ w h
structure Bh(js:Vs)(w:Wl):Prop where
 len:w.jars.length=js.length
 pos:∀c∈w.jars,0<=c
 cost:0<=w.cost
def Ju(js:Vs)(T:Ty)(w w':Wl):Prop:=
 (di T.2 w.jars=true->w'={ w with jars:=iI T.2 w.jars,cost:=w.cost+T.1 }/\Bh js w')/\(di T.2 w.jars=false->w'.st=some 0/\w'.rows=w.rows/\w'.ov=w.ov/\w'.jars.length=w.jars.length)
theorem Ju.join{js:Vs}{T U:Ty}{w w1 w2:Wl}(hT:T.2.length=U.2.length)(hr:w.run=true)(a:Ju js T w w1)(b:w1.run=true->Bh js w1->Ju js U w1 w2)(c:w1.run=false->w2=w1):Ju js (T.join U) w w2:=by
 unfold Ju Ty.join;dsimp only;rw[mh _ _ _ hT,pZ _ _ _ hT];cases hf:di T.2 w.jars with
 |true=>
  obtain⟨e,j⟩:=a.1 hf;have hr1:w1.run=true:=by rw[e];exact hr
  have g:=b hr1 j;rw[Bool.true_and];have ej:w1.jars=iI T.2 w.jars:=by rw[e]
  rw[<-ej];refine⟨λh=>?_,λh=>?_⟩
  .obtain⟨e2,j2⟩:=g.1 h;refine⟨?_,j2⟩;rw[e2,e];dsimp only;rw[Int.add_assoc]
  .obtain⟨g1,g2,g3,g4⟩:=g.2 h;exact⟨g1,by rw[g2,e],by rw[g3,e],by rw[g4,ej,sW]⟩
 |false=>
  obtain⟨g1,g2,g3,g4⟩:=a.2 hf;rw[c (re g1),Yi];exact⟨λh=>(nomatch h),λ_=>⟨g1,g2,g3,g4⟩⟩
def Ju.zero{js:Vs}{w:Wl}(j:Bh js w):Ju js (z0 js) w w:=by
 have k:=rC js w.jars j.pos;unfold Ju z0;dsimp only;rw[k.1,k.2,XE];exact⟨λ_=>⟨rfl,j⟩,λh=>(nomatch h)⟩
def p7(T:Ty):T.again 1=T:=by
 unfold Ty.again;rw[XT];have:T.2.map (ag 1)=T.2:=by
  conv=>rhs;rw[<-List.map_id T.2]
  apply Wi;intro p _;unfold ag;simp
 rw[this]
def uM(T:Ty){a b:Int}(ha:1<=a)(hb:1<=b):(T.again a).join (T.again b)=T.again (a+b):=by
 unfold Ty.again Ty.join;dsimp only;refine Yu (by dsimp only;rw[Int.mul_add]) ?_;dsimp only
 induction T.2 with
 |nil=>rfl
 |cons p ps ih=>simp only[UA,List.zipWith_cons_cons];rw[ih,Bc p ha hb]
theorem Ju.again{js:Vs}{T:Ty}{f:Wl->Wl}(hf:∀w,w.run=true->Bh js w->Ju js T w (f w))(hno:∀w,w.run=false->f w=w):∀(n:Nat)(w:Wl),w.run=true->Bh js w->Ju js (T.again ((n+1:Nat):Int)) w (iter f (n+1) w)
 |0,w,hr,j=>by rw[show((0+1:Nat):Int)=1 from rfl,p7];exact hf w hr j
 |n+1,w,hr,j=>by
  have ih:=Ju.again hf hno n w hr j;have e:T.again ((n+1+1:Nat):Int)=(T.again ((n+1:Nat):Int)).join T:=by
   conv=>rhs;rw[show((T.again ((n+1:Nat):Int)).join T)=((T.again ((n+1:Nat):Int)).join (T.again 1)) by rw[p7]]
   rw[uM T (by omega) (by omega)]
   congr 1
  rw[e,mf];exact Ju.join (by unfold Ty.again;rw[Ul]) hr ih (λh1 j1=>hf _ h1 j1) (λh=>hno _ h)
def Ej{js:Vs}(hn:js.Nodup):∀(t:Bd)(v:PV)(w:Wl),t.good js []->aX t v=true->w.run=true->Bh js w->Ju js (t.Jw js v) w (gn js t v w):=by
 intro t
 induction t with
 |rest=>intro v w _ _ _ j;exact Ju.zero j
 |use z=>intro v w g;exact absurd (show z∈[] from g) (by simp)
 |pay x y=>
  intro v w g _ hr j;have c:sH x y:=g;have k:=rC js w.jars j.pos;show Ju js (x * (2520 / y),zl js) w (w.go (Wl.pay (x * (2520 / y))));rw[Wl.LL hr];unfold Ju;dsimp only;rw[k.1,k.2];exact⟨λ_=>⟨rfl,j.len,j.pos,show 0<=w.cost+x * (2520 / y)from Yl j.cost (VI c.x0 (Wu (by decide) (by have:=c.low.pos;omega)))⟩,λh=>(nomatch h)⟩
 |put z m=>
  intro v w g _ hr j;have k:=uL (z:=z) (e:=m) (VF 0) js w.jars hn j.len j.pos g.1;have hl:js.idxOf z < w.jars.length:=by rw[j.len];exact(fg g.1).2.2
  show Ju js (0,jF js z m 0) w (w.go (Wl.I9 js z m));rw[Wl.LL hr];unfold Ju;dsimp only;rw[k.1,k.2,XE,UO (j.pos _ (getD_mem hl))];refine⟨λ_=>⟨rfl,⟨by unfold Wl.I9;dsimp only;rw[V2];exact j.len,λc hc=>?_,j.cost⟩⟩,λh=>(nomatch h)⟩;rcases pX hc with hc|⟨_,hc⟩
  .exact j.pos c hc
  .have:=j.pos _ (getD_mem hl);have:=g.2.1;omega
 |IK a b Ja Jd=>
  intro v w g hv hr j;obtain⟨x,y,rfl,hx,hy⟩:=dM hv;rw[qX];exact Ju.join (by rw[(aV a x g.1 hx).1,(aV b y g.2 hy).1]) hr (Ja x w g.1 hx hr j) (λh1 j1=>Jd y _ g.2 hy h1 j1) (λh=>jd b y _ h)
 |IY a b Ja Jd=>
  intro v w g hv hr j;obtain⟨i,y,rfl,hi⟩:=dN hv;rw[m9];rcases hi with⟨rfl,h⟩|⟨rfl,h⟩
  .exact Ja y w g.1 h hr j
  .exact Jd y w g.2 h hr j
 |IV z m a b Ja Jd=>
  intro v w g hv hr j;obtain⟨i,y,rfl,hi⟩:=dO hv;rw[hV];rcases hi with⟨rfl,h⟩|⟨rfl,h⟩
  .rw[if_pos rfl];have hm:=g.2.1;have k:=uL (z:=z) (e:=-m) (d:=m) (by omega) js w.jars hn j.len j.pos g.1;have hl:js.idxOf z < w.jars.length:=by rw[j.len];exact(fg g.1).2.2
   show Ju js _ w (w.go λw=>if w.jars.getD (js.idxOf z) 0 < m then { w.I9 js z (-m)with st:=some 0 } else gn js a y (w.I9 js z (-m)));rw[Wl.LL hr];by_cases hs:w.jars.getD (js.idxOf z) 0 < m
   .rw[if_pos hs];unfold Ju Ty.join;dsimp only;rw[mh _ _ _ (by rw[(aV a y g.2.2.2.1 h).1];exact Ul _),k.1,UG (by omega),Yi];exact⟨λh=>(nomatch h),λ_=>⟨rfl,rfl,rfl,by unfold Wl.I9;dsimp only;rw[V2]⟩⟩
   .rw[if_neg hs];have j1:Bh js (w.I9 js z (-m)):=⟨by unfold Wl.I9;dsimp only;rw[V2];exact j.len,λc hc=>by
     rcases pX hc with hc|⟨_,hc⟩
     .exact j.pos c hc
     .omega,j.cost⟩
    refine Ju.join (w1:=w.I9 js z (-m)) (by rw[(aV a y g.2.2.2.1 h).1];exact Ul _) hr ?_ (λh1 j1=>Ja y _ g.2.2.2.1 h h1 j1) (λh'=>jd a y _ h');unfold Ju;dsimp only;rw[k.1,k.2,XE,UO (by omega)];exact⟨λ_=>⟨rfl,j1⟩,λh=>(nomatch h)⟩
  .exact Jd y w g.2.2.2.2 h hr j
 |IU a Ja=>
  intro v w g hv hr j;obtain⟨xs,rfl,hx⟩:=d_ hv;rw[UW]at hx;rw[qW];show Ju js _ w (xs.foldl (λw g=>iter (λw=>gn js a (cP g) w) (nm (jx g)).toNat w) w);have gen:∀(xs:List PV)(T:Ty)(w1:Wl),(∀x∈xs,kT a x=true)->T.Ok js->Ju js T w w1->(w1.run=true->Bh js w1)->Ju js ((xs.map (Pn js λy=>a.Jw js y)).foldl Ty.join T) w (xs.foldl (λw g=>iter (λw=>gn js a (cP g) w) (nm (jx g)).toNat w) w1):=by
   intro xs
   induction xs with
   |nil=>intro T w1 _ _ h _;exact h
   |cons x xs ih=>
    intro T w1 hx hT h hj;obtain⟨m,y,rfl,hm,hy⟩:=cJ (hx x (by simp));have SF:Ty.Ok js ((a.Jw js y).again m):=(aV a y g hy).again hm;have RM:∀w:Wl,w.run=false->gn js a y w=w:=λw h=>jd a y w h;have step:w1.run=true->Bh js w1->Ju js ((a.Jw js y).again m) w1 (iter (λw=>gn js a y w) m.toNat w1):=λh1 j1=>by
     have:=Ju.again (λw h j=>Ja y w g hy h j) RM (m.toNat - 1) w1 h1 j1;rw[show m.toNat - 1+1=m.toNat by omega,Int.toNat_of_nonneg (by omega)]at this;exact this
    rw[UA,VJ,VJ];show Ju js (List.foldl Ty.join (T.join ((a.Jw js y).again m)) _) w (List.foldl _ (iter (λw=>gn js a y w) m.toNat w1) xs);refine ih _ _ (λx hx'=>hx x (by simp[hx'])) (hT.join SF) (Ju.join (by rw[hT.1,SF.1]) hr h (λh1 j1=>step h1 j1) (λh'=>m_ RM _ _ h')) λh2=>?_;cases h1:w1.run with
    |false=>rw[m_ RM _ _ h1,h1]at h2;cases h2
    |true=>
     have s:=step h1 (hj h1);cases hf:di ((a.Jw js y).again m).2 w1.jars with
     |true=>exact(s.1 hf).2
     |false=>rw[re (s.2 hf).1]at h2;cases h2
  exact gen xs (z0 js) w hx (fI js) (Ju.zero j) (λ_=>j)
structure Gk(js:Vs)(w:Wl):Prop where
 o:w.ov=false
 l:w.jars.length=js.length
 c:0<=w.cost
def Ca{js:Vs}:∀(t:Bd)(v:PV)(w:Wl),t.good js []->Gk js w->Gk js (gn js t v w):=by
 intro t;have go:∀(w:Wl)(f:Wl->Wl),Gk js w->(w.run=true->Gk js (f w))->Gk js (w.go f):=λw f h k=>Gd (P:=Gk js) h k;have br:∀(w:Wl) z m,Gk js w->Gk js (w.I9 js z m):=λw z m h=>⟨h.o,by unfold Wl.I9;dsimp only;rw[V2];exact h.l,h.c⟩
 induction t with
 |rest=>intro v w _ h;exact h
 |use z=>intro v w _ h;exact h
 |pay x y=>
  intro v w g h;have c:sH x y:=g;exact go w _ h λ_=>⟨h.o,h.l,show 0<=w.cost+x * (2520 / y)from Yl h.c (VI c.x0 (Wu (by decide) (by have:=c.low.pos;omega)))⟩
 |put z m=>intro v w _ h;exact go w _ h λ_=>br w z m h
 |IK a b Ja Jd=>intro v w g h;exact Jd _ _ g.2 (Ja _ _ g.1 h)
 |IY a b Ja Jd=>
  intro v w g h;show Gk js (if _ then _ else _)
  split
  .exact Ja _ _ g.1 h
  .exact Jd _ _ g.2 h
 |IV z m a b Ja Jd=>
  intro v w g h;show Gk js (if _ then _ else _)
  split
  .refine go w _ h λ_=>?_
   split
   .exact⟨h.o,(br w z (-m) h).l,h.c⟩
   .exact Ja _ _ g.2.2.2.1 (br w z (-m) h)
  .exact Jd _ _ g.2.2.2.2 h
 |IU a Ja=>
  intro v w g h;exact sR (P:=Gk js) (f:=λg w=>iter (λw=>gn js a (cP g) w) (nm (jx g)).toNat w) (λu w h=>sQ (P:=Gk js) (λw h=>Ja _ _ g h) _ w h) _ _ h
end C
namespace G29
open PySem L2 L3
noncomputable def a_(i:Nat):Stmt:=PySem.Challenge.pw_dueworth_k29_whole_what_never_fills.main.body.getD i (.Pass ⟨0,0,0,0⟩)
structure Txt(P:Program)(w:World)(K:Vo)(mg:Vr):Prop where
 o_sides_of:aY K mg "sides_of" (a_ 2) ["body"]
 o_parts_in:aY K mg "parts_in" (a_ 3) ["body"]
 o_parts:aY K mg "parts" (a_ 4) ["body"]
 o_chosen:aY K mg "chosen" (a_ 6) ["body","trace"]
 o_plain_trace:aY K mg "plain_trace" (a_ 7) ["body"]
 o_led_to_part:aY K mg "led_to_part" (a_ 8) ["body","place","trace"]
 o_parts_reached:sC K mg "parts_reached" (a_ 10) ["body","names","reached"]
 o_next_step:aY K mg "next_step" (a_ 11) ["house","names"]
 o_filling:aY K mg "filling" (a_ 12) ["house"]
 o_fillable:aY K mg "fillable" (a_ 13) ["house"]
 o_common:aY K mg "common" (a_ 18) ["one","other"]
 o_fraction:aY K mg "fraction" (a_ 19) ["top","bottom"]
 o_plus:aY K mg "plus" (a_ 20) ["one","other"]
 o_times:aY K mg "times" (a_ 21) ["one","other"]
 o_things_of:aY K mg "things_of" (a_ 23) ["jars","name","things"]
 o_added:aY K mg "added" (a_ 24) ["one","other"]
 o_multiplied:aY K mg "multiplied" (a_ 25) ["one","many"]
 o_no_tally:aY K mg "no_tally" (a_ 26) ["jars"]
 o_behind:aY K mg "behind" (a_ 27) ["one","other"]
 o_again:aY K mg "again" (a_ 28) ["one","many"]
 o_tally_of_often:aY K mg "tally_of_often" (a_ 29) ["jars","body","goings"]
 o_tally_of_take:aY K mg "tally_of_take" (a_ 30) ["jars","body"]
 o_tally_of:aY K mg "tally_of" (a_ 31) ["jars","body","trace"]
 o_tally:aY K mg "tally" (a_ 32) ["house","d","trace"]
 o_tally_of_story:aY K mg "tally_of_story" (a_ 34) ["house","story"]
 o_counts_of_story:aY K mg "counts_of_story" (a_ 35) ["house","story"]
 o_story_tally:aY K mg "story_tally" (a_ 36) ["house","story"]
 o_brought:aY K mg "brought" (a_ 38) ["house","step","count"]
 o_needed_ahead:aY K mg "needed_ahead" (a_ 39) ["house","part","needed"]
 o_filled:aY K mg "filled" (a_ 40) ["house","counts"]
 o_has_row:aY K mg "has_row" (a_ 42) ["part"]
 o_rows_of_body:aY K mg "rows_of_body" (a_ 44) ["body","names"]
 o_rows_come_to:aY K mg "rows_come_to" (a_ 45) ["house"]
 o__law_deal:aY K mg "_law_deal" (a_ 47) ["_law_script","_law_base"]
 o__law_draw:aY K mg "_law_draw" (a_ 48) ["_law_deal_here","_law_many_here"]
 o__law_words:aY K mg "_law_words" (a_ 49) ["_law_deal_here","_law_many_here"]
 o__law_low:aY K mg "_law_low" (a_ 50) ["_law_top","_law_bottom"]
 o__law_plus:aY K mg "_law_plus" (a_ 51) ["_law_one","_law_other"]
 o__law_times:aY K mg "_law_times" (a_ 52) ["_law_one","_law_many_here"]
 o__law_cost:aY K mg "_law_cost" (a_ 53) ["_law_deal_here"]
 o__law_leaf:aY K mg "_law_leaf" (a_ 54) ["_law_deal_here","_law_jars"]
 o__law_body:aY K mg "_law_body" (a_ 55) ["_law_deal_here","_law_jars","_law_left","_law_down"]
 o__law_pass_count:aY K mg "_law_pass_count" (a_ 56) ["_law_body_here"]
 o__law_round_count:aY K mg "_law_round_count" (a_ 57) ["_law_body_here"]
 o__law_deed_body:aY K mg "_law_deed_body" (a_ 58) ["_law_deal_here","_law_jars","_law_most_parts","_law_most_lines"]
 o__law_house:aY K mg "_law_house" (a_ 59) ["_law_deal_here","_law_most_jars","_law_most_deeds","_law_most_parts"]
 o__law_trace:aY K mg "_law_trace" (a_ 60) ["_law_deal_here","_law_body_here","_law_left"]
 o__law_gone:aY K mg "_law_gone" (a_ 61) ["_law_body_here","_law_trace_here","_law_world_here"]
 o__law_world:aY K mg "_law_world" (a_ 62) ["_law_house_here","_law_jars"]
 o__law_number:aY K mg "_law_number" (a_ 63) ["_law_one"]
 o__law_follows:aY K mg "_law_follows" (a_ 64) ["_law_body_here","_law_trace_here","_law_moves"]
 o__law_is_going:aY K mg "_law_is_going" (a_ 65) ["_law_body_here","_law_one","_law_moves"]
 o__law_walk:aY K mg "_law_walk" (a_ 66) ["_law_body_here","_law_at","_law_held","_law_there","_law_found"]
 o__law_sum:aY K mg "_law_sum" (a_ 67) ["_law_one","_law_other"]
 o__law_many:aY K mg "_law_many" (a_ 68) ["_law_one","_law_many_here"]
 o__law_tally:aY K mg "_law_tally" (a_ 69) ["_law_names","_law_body_here","_law_trace_here"]
 o__law_is_story:aY K mg "_law_is_story" (a_ 70) ["_law_house_here","_law_story"]
 o__law_story_tally:aY K mg "_law_story_tally" (a_ 71) ["_law_house_here","_law_story"]
 o__law_chain:aY K mg "_law_chain" (a_ 72) ["_law_deal_here"]
 o__law_visit:aY K mg "_law_visit" (a_ 73) ["_law_body_here","_law_trace_here","_law_at"]
 o__law_wide_house:aY K mg "_law_wide_house" (a_ 74) ["_law_deal_here"]
 o__law_within:aY K mg "_law_within" (a_ 75) ["_law_house_here","_law_d","_law_trace_here","_law_jars","_law_rows"]
 o__law_brings:aY K mg "_law_brings" (a_ 76) ["_law_house_here","_law_story","_law_jars"]
 Qv:mg "abs" = none
 Qw:mg "all" = none
 Qx:mg "any" = none
 P1:mg "bool" = none
 JE:mg "enumerate" = none
 ML:mg "int" = none
 Jk:mg "isinstance" = none
 I_:mg "len" = none
 OF:mg "list" = none
 Mw:mg "max" = none
 Kb:mg "range" = none
 MM:mg "reversed" = none
 IP:mg "tuple" = none
 Ma:mg "zip" = none
 Nj:∃a,mg "SIDES_FROM" = some (.ref a)/\KD P w K a (C.k_SIDES_FROM.map λkv=>(kv.1,V.int kv.2))
section
variable {P:Program}{w:World}{K:Vo}{mg:Vr}{base:Heap}
def HE:(["step","house"]:Vs).Nodup:=by decide +kernel
def HF:(["jar","name","things"]:Vs).Nodup:=by decide +kernel
def Ge:(["left","right"]:Vs).Nodup:=by decide +kernel
def HH:(["number","many"]:Vs).Nodup:=by decide +kernel
def Ek:(["effect","first","second"]:Vs).Nodup:=by decide +kernel
def Gf:(["effect","asked","many"]:Vs).Nodup:=by decide +kernel
def HI:(["d","part"]:Vs).Nodup:=by decide +kernel
def El:(["effect","asked","count"]:Vs).Nodup:=by decide +kernel
def HJ:(["count"]:Vs).Nodup:=by decide +kernel
def HK:(["found"]:Vs).Nodup:=by decide +kernel
def Cb:(["row","found"]:Vs).Nodup:=by decide +kernel
def Gg:(["deed","names"]:Vs).Nodup:=by decide +kernel
def zg:(["_law_one"]:Vs).Nodup:=by decide +kernel
def Gh:(["_law_k","_law_deal_here","_law_letters"]:Vs).Nodup:=by decide +kernel
def Gj:(["_law_j","_law_deal_here","_law_letters"]:Vs).Nodup:=by decide +kernel
def Gm:(["_law_k","_law_deal_here","_law_first","_law_jars","_law_many_here","_law_most_parts","_law_words_here"]:Vs).Nodup:=by decide +kernel
def Gn:(["_law_one","_law_body_here","_law_moves"]:Vs).Nodup:=by decide +kernel
def Cc:(["_law_a","_law_b"]:Vs).Nodup:=by decide +kernel
def zh:(["_law_a","_law_b","_law_c"]:Vs).Nodup:=by decide +kernel
def Cd:(["_law_a","_law_b","_law_many_here"]:Vs).Nodup:=by decide +kernel
def Go:(["_law_b","_law_many_here"]:Vs).Nodup:=by decide +kernel
def Ce:(["_law_name","_law_body_here"]:Vs).Nodup:=by decide +kernel
def Cf:(["_law_a","_law_b","_law_number_here"]:Vs).Nodup:=by decide +kernel
def Gp:(["_law_jar","_law_deal_here","_law_left"]:Vs).Nodup:=by decide +kernel
def Cg:(["_law_k","_law_body_here","_law_words_here"]:Vs).Nodup:=by decide +kernel
def Gq:(["_law_k","_law_deal_here","_law_first","_law_jars","_law_words_here"]:Vs).Nodup:=by decide +kernel
def vC:(["_law_jar","_law_many_here","_law_jars"]:Vs).Nodup:=by decide +kernel
def Ch:(["_law_jar","_law_jars"]:Vs).Nodup:=by decide +kernel
def Gr:(["_law_row","_law_d","_law_rows"]:Vs).Nodup:=by decide +kernel
def Ci:(["_law_one","_law_jar","_law_jars"]:Vs).Nodup:=by decide +kernel
def Gs:(["_law_row","_law_house_here"]:Vs).Nodup:=by decide +kernel
def ie:ay:=aT 1 C.j9
def mK(T:Txt P w K mg):Jc P w K mg base 1 "sides_of" 1 ie:=df ["body"] T.o_sides_of (λ_ _ _ _ _ _ _ hr nd=>(aj (au (eF (ab 0) (fS (Iy hr T.Nj (aB hr (ab 0)) (cB bK T.I_ (l1 (ab 0))))) iM)))) rfl
noncomputable def ig:Nat->ay
 |0=>m8
 |n+1=>aT 3 (C.j_ ie (ig n))
def ou:ay:=ig 12
def sX(T:Txt P w K mg):Jc P w K mg base 13 "parts_in" 1 ou:=jE (b:=1) (r:=ig) T.o_parts_in (λn R0=>df ["body","found","side"] T.o_parts_in (λ_ _ _ _ _ _ _ hr nd=>(ae (s4 1 nd (bo (l1 (ab 0))))
  (ae (dy UP rfl (bF (c4 (mK T) hr (l1 (ab 0)))) (gn 2 nd) (aj (cn (tO gB iN (ab 1) (l1 (c4 R0 hr (l1 (ab 2))))))))
  (aj (au (ab 1)))))) rfl) rfl rfl 12
def rD:ay:=aT 1 (C.qG ou)
def zi(T:Txt P w K mg):Jc P w K mg base 14 "parts" 1 rD:=df ["body"] T.o_parts (λ_ _ _ _ _ _ _ hr nd=>(aj (au (cB bK T.I_ (l1 (c4 (sX T) hr (l1 (ab 0)))))))) rfl
def ow:ay:=aT 2 C.nR
def wX(T:Txt P w K mg):Jc P w K mg base 1 "chosen" 2 ow:=df ["body","trace"] T.o_chosen (λ_ _ _ _ _ _ _ hr nd=>(aj (au (cM hr (ab 0) (az aH (jX cV ah) (aB hr (ab 1))))))) rfl
noncomputable def dS:Nat->ay
 |0=>m8
 |n+1=>aT 1 (C.fU (dS n))
def jQ:ay:=dS 12
def je(T:Txt P w K mg):Jc P w K mg base 12 "plain_trace" 1 jQ:=jE (b:=0) (r:=dS) T.o_plain_trace (λn R0=>df ["body"] T.o_plain_trace (λ_ _ _ _ _ _ _ hr nd=>(ae (aP (dg hr (aB hr (ab 0)) aq) (aj (au (aC (lc (c4 R0 hr (l1 (aB hr (ab 0)))) (l1 (c4 R0 hr (l1 (aB hr (ab 0))))))))) aE)
  (ae (aP (dg hr (aB hr (ab 0)) aq) (aj (au (aC (lc ah (l1 (c4 R0 hr (l1 (aB hr (ab 0))))))))) aE)
  (ae (aP (dg hr (aB hr (ab 0)) aq) (aj (au (aC (lc ah (l1 (c4 R0 hr (l1 (aB hr (ab 0))))))))) aE)
  (aj (au (aC cK))))))) rfl) rfl rfl 12
noncomputable def dU:Nat->ay
 |0=>m8
 |n+1=>aT 8 (C.fV rD jQ (dU n))
def jR:ay:=dU 12
def ox(T:Txt P w K mg):Jc P w K mg base 26 "led_to_part" 3 jR:=jE (b:=14) (r:=dU) T.o_led_to_part (λn R0=>df ["body","place","trace","one","other","second","side","inner"] T.o_led_to_part (λ_ _ _ _ _ _ _ hr nd=>(ae (aP (dg hr (ab 1) ah) (aj (au (ab 2))) aE)
  (ae (aP (dg hr (aB hr (ab 0)) aq) (aj (au (aC (l1 (aC (lc ah (l1 (c4 R0 hr (lc (aB hr (ab 0)) (lc (az cg (ab 1) ah) (l1 (ab 2)))))))))))) aE)
  (ae (s4 3 nd (cM hr (ab 0) (jX cV ah)))
  (ae (s4 4 nd (cM hr (ab 0) (jX cV ah)))
  (ae (s4 5 nd (az aH ah (c4 (zi T) hr (l1 (ab 3)))))
  (ae (s4 6 nd (vc (bh j6 (ab 1) (ab 5) (aN _)) ah ah))
  (ae (s4 7 nd (vc (dg hr (ab 6) ah) (c4 R0 hr (lc (ab 3) (lc (az cg (ab 1) ah) (l1 (ab 2))))) (c4 R0 hr (lc (ab 4) (lc (az cg (ab 1) (ab 5)) (l1 (ab 2)))))))
  (ae (aP (B7 hr (aB hr (ab 0)) aq) (aj (au (aC (lc (ab 6) (l1 (ab 7)))))) aE)
  (ae (aP (dg hr (ab 6) ah) (aj (au (aC (lc (ab 7) (l1 (c4 (je T) hr (l1 (ab 4)))))))) aE)
  (aj (au (aC (lc (c4 (je T) hr (l1 (ab 3))) (l1 (ab 7)))))))))))))))) rfl) rfl rfl 12
noncomputable def cQ:Nat->ay
 |0=>m8
 |n+1=>aT 7 (C.d9 ie (cQ n))
def ed:ay:=cQ 12
def gG(T:Txt P w K mg):O9 P w K mg base 13 "parts_reached" 3 ed:=F4 (b:=1) (r:=cQ) T.o_parts_reached (λn R0=>Iz ["body","names","reached","found","number","side","shut"] T.o_parts_reached (λ_ _ _ _ _ _ _ hr nd=>(ae (s4 3 nd (bo (l1 (aC (lc (ab 0) (l1 (ab 2)))))))
  (ae (dy UP rfl (lN rfl rfl T.JE (by decide +kernel) (l1 (c4 (mK T) hr (l1 (ab 0))))) (m5 rfl (aF (gn 4 nd) (aF (gn 5 nd) cq))) (ae (s4 6 nd (nI (de (iA (fF hr)) (aB hr (ab 0)) aq (aN _)) (nI (de (iA (fF hr)) (ab 4) ah (aN _)) (nH (de (gx (eC hr)) (aB hr (ab 0)) (ab 1) rfl)))))
  (aj (cn (tO gB iN (ab 3) (l1 (IA R0 hr (lc (ab 5) (lc (ab 1) (l1 (nI (ab 2) (nH (BW (ab 6))))))))))))))
  (aj (au (ab 3)))))) rfl) rfl rfl 12
def jf:ay:=aT 7 (C.iY ed jR)
def lg(T:Txt P w K mg):Jc P w K mg base 27 "next_step" 2 jf:=df ["house","names","d","deed","place","found","part"] T.o_next_step (λ_ _ _ _ _ _ _ hr nd=>(ae (dy UP rfl (lN rfl rfl T.JE (by decide +kernel) (l1 (aB hr (ab 0)))) (m5 rfl (aF (gn 2 nd) (aF (gn 3 nd) cq))) (aj (dy UP rfl (lN rfl rfl T.JE (by decide +kernel) (l1 (cD (gG T) hr (lc (aB hr (ab 3)) (l1 (ab 1)))))) (m5 rfl (aF (gn 4 nd) (aF (gn 5 nd) cq))) (ae (s4 6 nd (aB hr (ab 5)))
  (aj (aP (nG (jL (cL (aB hr (ab 5))) (jL (dg hr (aB hr (ab 6)) aq) (gP (bh (gx (eC hr)) (aB hr (ab 6)) (ab 1) rfl))))) (aj (au (aC (lc (yL W7 WC W8 nW rfl (aB hr (ab 0)) (l1 (aB hr (ab 6)))) (lc (ab 2) (l1 (c4 (ox T) hr (lc (aB hr (ab 3)) (lc (ab 4) (l1 (aC cK))))))))))) aE))))))
  (aj (au BV)))) rfl
def gH:ay:=aT 4 (C.lS jf)
def ko(T:Txt P w K mg):Jc P w K mg base 28 "filling" 1 gH:=df ["house","found","names","step"] T.o_filling (λ_ _ _ _ _ _ _ hr nd=>(ae (s4 1 nd (bo cK))
  (ae (s4 2 nd (bo cK))
  (ae (s4 3 nd (c4 (lg T) hr (lc (ab 0) (l1 (ab 2)))))
  (ae (kM UP (bh yq (ab 3) BV (aN _)) (ae (cn (tO eO gA (ab 1) (l1 (ab 3))))
  (ae (cn (tO eO gA (ab 2) (l1 (cM hr (aB hr (ab 0)) (aB hr (ab 3))))))
  (aj (s4 3 nd (c4 (lg T) hr (lc (ab 0) (l1 (ab 2)))))))))
  (aj (au (ab 1)))))))) rfl
def kq:ay:=aT 1 (C.kg gH)
def sY(T:Txt P w K mg):Jc P w K mg base 29 "fillable" 1 kq:=df ["house"] T.o_fillable (λ_ _ _ _ _ _ _ hr nd=>(aj (au (oM ["house"] 1 [0] ["step","house"] (bF (c4 (ko T) hr (l1 (ab 0)))) (λ_=>(gn 0 HE)) (λ_=>bM) (λ_=>(cM hr (aB hr (ab 1)) (aB hr (ab 0)))))))) rfl
def sZ:ay:=aT 3 C.nQ
def wY(T:Txt P w K mg):Jc P w K mg base 1 "common" 2 sZ:=df ["one","other","left"] T.o_common (λ_ _ _ _ _ _ _ hr nd=>(ae (kM UP (B7 hr (ab 1) ah) (ae (s4 2 nd (az iE (ab 0) (ab 1)))
  (ae (s4 0 nd (ab 1))
  (aj (s4 1 nd (ab 2))))))
  (aj (au (cB FO T.Qv (l1 (ab 0))))))) rfl
def kr:ay:=aT 3 (C.ke sZ)
def mL(T:Txt P w K mg):Jc P w K mg base 2 "fraction" 2 kr:=df ["top","bottom","part"] T.o_fraction (λ_ _ _ _ _ _ _ hr nd=>(ae (s4 2 nd (c4 (wY T) hr (lc (ab 0) (l1 (ab 1)))))
  (ae (aP (bh j6 (ab 1) ah (aN _)) (aj (s4 2 nd (jX cV (ab 2)))) aE)
  (aj (au (aC (lc (az j5 (ab 0) (ab 2)) (l1 (az j5 (ab 1) (ab 2)))))))))) rfl
def uN:ay:=aT 2 (C.ur kr)
def Bi(T:Txt P w K mg):Jc P w K mg base 3 "plus" 2 uN:=df ["one","other"] T.o_plus (λ_ _ _ _ _ _ _ hr nd=>(aj (au (c4 (mL T) hr (lc (az aH (az bc (aB hr (ab 0)) (aB hr (ab 1))) (az bc (aB hr (ab 1)) (aB hr (ab 0)))) (l1 (az bc (aB hr (ab 0)) (aB hr (ab 1))))))))) rfl
def rE:ay:=aT 2 (C.qD kr)
def zj(T:Txt P w K mg):Jc P w K mg base 3 "times" 2 rE:=df ["one","other"] T.o_times (λ_ _ _ _ _ _ _ hr nd=>(aj (au (c4 (mL T) hr (lc (az bc (aB hr (ab 0)) (aB hr (ab 1))) (l1 (az bc (aB hr (ab 0)) (aB hr (ab 1))))))))) rfl
def fJ:ay:=aT 3 C.iW
def ij(T:Txt P w K mg):Jc P w K mg base 1 "things_of" 3 fJ:=df ["jars","name","things"] T.o_things_of (λ_ _ _ _ _ _ _ hr nd=>(aj (au (cT bL T.IP (l1 (oM ["things","name"] 1 [1,2] ["jar","name","things"] (bF (ab 0)) (λ_=>(gn 0 HF)) (λ_=>bM) (λ_=>(vc (dg hr (ab 0) (ab 1)) (ab 2) ah)))))))) rfl
def rF:ay:=aT 2 C.qE
def oy(T:Txt P w K mg):Jc P w K mg base 1 "added" 2 rF:=df ["one","other"] T.o_added (λ_ _ _ _ _ _ _ hr nd=>(aj (au (cT bL T.IP (l1 (oM [] 2 [] ["left","right"] (B5 rfl rfl rfl T.Ma (by decide +kernel) (lc (ab 0) (l1 (ab 1)))) (λ_=>(m5 rfl (aF (gn 0 Ge) (aF (gn 1 Ge) cq)))) (λ_=>bM) (λ_=>(az aH (ab 0) (ab 1))))))))) rfl
def ik:ay:=aT 2 C.gT
def jS(T:Txt P w K mg):Jc P w K mg base 1 "multiplied" 2 ik:=df ["one","many"] T.o_multiplied (λ_ _ _ _ _ _ _ hr nd=>(aj (au (cT bL T.IP (l1 (oM ["many"] 1 [1] ["number","many"] (bF (ab 0)) (λ_=>(gn 0 HH)) (λ_=>bM) (λ_=>(az bc (ab 0) (ab 1))))))))) rfl
def dP:ay:=aT 1 C.kf
def jg(T:Txt P w K mg):Jc P w K mg base 1 "no_tally" 1 dP:=df ["jars"] T.o_no_tally (λ_ _ _ _ _ _ _ hr nd=>(aj (au (aC (lc (aC (lc ah (l1 ah))) (lc (az qJ (aC (l1 ah)) (cB bK T.I_ (l1 (ab 0)))) (l1 (az qJ (aC (l1 ah)) (cB bK T.I_ (l1 (ab 0))))))))))) rfl
def fh:ay:=aT 3 (C.nV rF uN)
def gJ(T:Txt P w K mg):Jc P w K mg base 4 "behind" 2 fh:=df ["one","other","demand"] T.o_behind (λ_ _ _ _ _ _ _ hr nd=>(ae (vm [] 3 [] ["effect","first","second"] 2 nd (yK rfl rfl rfl T.Ma (by decide +kernel) (lc (aB hr (ab 0)) (lc (aB hr (ab 0)) (l1 (aB hr (ab 1)))))) (λ_=>(m5 rfl (aF (gn 0 Ek) (aF (gn 1 Ek) (aF (gn 2 Ek) cq))))) (λ_=>bM) (λ_=>(cB (jY rfl) T.Mw (lc (ab 1) (l1 (az cg (ab 2) (ab 0)))))))
  (aj (au (aC (lc (c4 (Bi T) hr (lc (aB hr (ab 0)) (l1 (aB hr (ab 1))))) (lc (c4 (oy T) hr (lc (aB hr (ab 0)) (l1 (aB hr (ab 1))))) (l1 (cT bL T.IP (l1 (ab 2))))))))))) rfl
def lh:ay:=aT 3 (C.qF ik rE)
def s9(T:Txt P w K mg):Jc P w K mg base 4 "again" 2 lh:=df ["one","many","demand"] T.o_again (λ_ _ _ _ _ _ _ hr nd=>(ae (vm ["many"] 2 [1] ["effect","asked","many"] 2 nd (B5 rfl rfl rfl T.Ma (by decide +kernel) (lc (aB hr (ab 0)) (l1 (aB hr (ab 0))))) (λ_=>(m5 rfl (aF (gn 0 Gf) (aF (gn 1 Gf) cq)))) (λ_=>bM) (λ_=>(az aH (ab 1) (cB (jY rfl) T.Mw (lc ah (l1 (az bc (jX cV (ab 0)) (az cg (ab 2) ah))))))))
  (aj (au (aC (lc (c4 (zj T) hr (lc (aB hr (ab 0)) (l1 (aC (lc (ab 1) (l1 ah)))))) (lc (c4 (jS T) hr (lc (aB hr (ab 0)) (l1 (ab 1)))) (l1 (cT bL T.IP (l1 (ab 2))))))))))) rfl
def cR:ay:=aT 2 (C.d8 fJ)
def mi(T:Txt P w K mg):Jc P w K mg base 2 "tally_of_take" 2 cR:=df ["jars","body"] T.o_tally_of_take (λ_ _ _ _ _ _ _ hr nd=>(aj (au (aC (lc (aC (lc ah (l1 ah))) (lc (c4 (ij T) hr (lc (ab 0) (lc (aB hr (ab 1)) (l1 (jX cV (aB hr (ab 1))))))) (l1 (c4 (ij T) hr (lc (ab 0) (lc (aB hr (ab 1)) (l1 (aB hr (ab 1))))))))))))) rfl
noncomputable def bt:Nat->ay×ay
 |0=>(m8,m8)
 |n+1=>(aT 5 (C.cC dP fh lh (bt n).1 (bt n).2),aT 6 (C.gV dP fJ fh ow cR (bt n).1 (bt n).2))
def dQ(n:Nat):ay:=(bt n).1
def ku(n:Nat):ay:=(bt n).2
def li(T:Txt P w K mg)(n:Nat){s0 s1:ay}(R0:Jc P w K mg base (4+n) "tally_of_often" 3 s0)(R1:Jc P w K mg base (4+n) "tally_of" 3 s1):Jc P w K mg base (4+n+1) "tally_of_often" 3 (aT 5 (C.cC dP fh lh s0 s1)):=df ["jars","body","goings","found","going"] T.o_tally_of_often (λ_ _ _ _ _ _ _ hr nd=>(ae (s4 3 nd (c4 (jg T) hr (l1 (ab 0))))
  (ae (dy UP rfl (bF (ab 2)) (gn 4 nd) (aj (s4 3 nd (c4 (gJ T) hr (lc (ab 3) (l1 (c4 (s9 T) hr (lc (c4 R1 hr (lc (ab 0) (lc (aB hr (ab 1)) (l1 (aB hr (ab 4)))))) (l1 (aB hr (ab 4)))))))))))
  (aj (au (ab 3)))))) rfl
def s_(T:Txt P w K mg)(n:Nat){s0 s1:ay}(R0:Jc P w K mg base (4+n) "tally_of_often" 3 s0)(R1:Jc P w K mg base (4+n) "tally_of" 3 s1):Jc P w K mg base (4+n+1) "tally_of" 3 (aT 6 (C.gV dP fJ fh ow cR s0 s1)):=df ["jars","body","trace","head","nothing","side"] T.o_tally_of (λ_ _ _ _ _ _ _ hr nd=>(ae (s4 3 nd (aB hr (ab 1)))
  (ae (s4 4 nd (c4 (jg T) hr (l1 (ab 0))))
  (ae (aP (dg hr (ab 3) aq) (aj (au (aC (lc (aB hr (ab 1)) (lc (aB hr (ab 4)) (l1 (aB hr (ab 4)))))))) aE)
  (ae (aP (dg hr (ab 3) aq) (aj (au (aC (lc (aB hr (ab 4)) (lc (c4 (ij T) hr (lc (ab 0) (lc (aB hr (ab 1)) (l1 (aB hr (ab 1)))))) (l1 (aB hr (ab 4)))))))) aE)
  (ae (aP (dg hr (ab 3) aq) (aj (au (c4 (gJ T) hr (lc (c4 R1 hr (lc (ab 0) (lc (aB hr (ab 1)) (l1 (aB hr (ab 2)))))) (l1 (c4 R1 hr (lc (ab 0) (lc (aB hr (ab 1)) (l1 (aB hr (ab 2))))))))))) aE)
  (ae (aP (dg hr (ab 3) aq) (aj (au (c4 R0 hr (lc (ab 0) (lc (ab 1) (l1 (ab 2))))))) aE)
  (ae (aP (bh (gx (eC hr)) (ab 3) (aC (lc aq (l1 aq))) rfl) (aj (au (ab 4))) aE)
  (ae (s4 5 nd (c4 R1 hr (lc (ab 0) (lc (c4 (wX T) hr (lc (ab 1) (l1 (ab 2)))) (l1 (aB hr (ab 2)))))))
  (ae (aP (nG (jL (dg hr (ab 3) aq) (gP (dg hr (aB hr (ab 2)) ah)))) (aj (au (c4 (gJ T) hr (lc (c4 (mi T) hr (lc (ab 0) (l1 (ab 1)))) (l1 (ab 5)))))) aE)
  (aj (au (ab 5))))))))))))) rfl
theorem fi(T:Txt P w K mg):∀n:Nat,Jc P w K mg base (4+n) "tally_of_often" 3 (dQ n)/\Jc P w K mg base (4+n) "tally_of" 3 (ku n)
 |0=>⟨.zero T.o_tally_of_often,.zero T.o_tally_of⟩
 |n+1=>let ⟨h0,h1⟩:=fi T n;⟨li T n h0 h1,s_ T n h0 h1⟩
def oz:ay:=ku 12
def tj(T:Txt P w K mg):Jc P w K mg base 16 "tally_of" 3 oz:=(fi T 12).2
def ng:ay:=aT 3 (C.qK oz)
def tm(T:Txt P w K mg):Jc P w K mg base 17 "tally" 3 ng:=df ["house","d","trace"] T.o_tally (λ_ _ _ _ _ _ _ hr nd=>(aj (au (c4 (tj T) hr (lc (aB hr (ab 0)) (lc (aB hr (cM hr (aB hr (ab 0)) (ab 1))) (l1 (ab 2)))))))) rfl
noncomputable def cE:Nat->ay
 |0=>m8
 |n+1=>aT 4 (C.dJ dP fh ng lh (cE n))
def gK:ay:=cE 12
def ll(T:Txt P w K mg):Jc P w K mg base 29 "tally_of_story" 2 gK:=jE (b:=17) (r:=cE) T.o_tally_of_story (λn R0=>df ["house","story","found","part"] T.o_tally_of_story (λ_ _ _ _ _ _ _ hr nd=>(ae (s4 2 nd (c4 (jg T) hr (l1 (aB hr (ab 0)))))
  (ae (dy UP rfl (bF (ab 1)) (gn 3 nd) (aj (aP (dg hr (aB hr (ab 3)) aq) (aj (s4 2 nd (c4 (gJ T) hr (lc (ab 2) (l1 (c4 (tm T) hr (lc (ab 0) (lc (aB hr (ab 3)) (l1 (aB hr (ab 3))))))))))) (aj (s4 2 nd (c4 (gJ T) hr (lc (ab 2) (l1 (c4 (s9 T) hr (lc (c4 R0 hr (lc (ab 0) (l1 (aB hr (ab 3))))) (l1 (aB hr (ab 3)))))))))))))
  (aj (au (ab 2)))))) rfl) rfl rfl 12
noncomputable def cr:Nat->ay
 |0=>m8
 |n+1=>aT 5 (C.dB rF ik (cr n))
def fK:ay:=cr 12
def kw(T:Txt P w K mg):Jc P w K mg base 13 "counts_of_story" 2 fK:=jE (b:=1) (r:=cr) T.o_counts_of_story (λn R0=>df ["house","story","found","part","one"] T.o_counts_of_story (λ_ _ _ _ _ _ _ hr nd=>(ae (s4 2 nd (az qJ (aC (l1 ah)) (cB bK T.I_ (l1 (aB hr (ab 0))))))
  (ae (dy UP rfl (bF (ab 1)) (gn 3 nd) (aj (aP (dg hr (aB hr (ab 3)) aq) (ae (s4 4 nd (cT bL T.IP (l1 (oM ["part"] 1 [3] ["d","part"] (dv rfl rfl T.Kb (l1 (cB bK T.I_ (l1 (ab 2))))) (λ_=>(gn 0 HI)) (λ_=>bM) (λ_=>(vc (dg hr (ab 0) (aB hr (ab 1))) ah ah))))))
  (aj (s4 2 nd (c4 (oy T) hr (lc (ab 2) (l1 (ab 4))))))) (aj (s4 2 nd (c4 (oy T) hr (lc (ab 2) (l1 (c4 (jS T) hr (lc (c4 R0 hr (lc (ab 0) (l1 (aB hr (ab 3))))) (l1 (aB hr (ab 3)))))))))))))
  (aj (au (ab 2)))))) rfl) rfl rfl 12
def f8:ay:=aT 3 (C.fW gK fK)
def oA(T:Txt P w K mg):Jc P w K mg base 30 "story_tally" 2 f8:=df ["house","story","found"] T.o_story_tally (λ_ _ _ _ _ _ _ hr nd=>(ae (s4 2 nd (c4 (ll T) hr (lc (ab 0) (l1 (ab 1)))))
  (aj (au (aC (lc (aB hr (ab 2)) (lc (c4 (kw T) hr (lc (ab 0) (l1 (ab 1)))) (lc (aB hr (ab 2)) (l1 (aB hr (ab 2))))))))))) rfl
def mn(Na:ay):bv:=(ai (ap 3 (af aa (af aa (ad Na [(v3 0),(af aa (v3 1) (c3 (.int 1))),(af aa (v3 1) (c3 (.int 2)))]) (c3 (.int 1))) (af aa (v3 1) (c3 (.int 0)))))
  (ai (ap 4 (mQ d5 (af iD (mQ d5 (v3 2)) (v3 3))))
  (aw (aD [(c3 (.str "again")),(v3 4),(aD [(aD [(c3 (.str "do")),(af aa (v3 1) (c3 (.int 1))),(af aa (v3 1) (c3 (.int 2)))])])]))))
def mo:ay:=aT 5 (mn ng)
def uO(T:Txt P w K mg):Jc P w K mg base 18 "brought" 3 mo:=df ["house","step","count","each","many"] T.o_brought (λ_ _ _ _ _ _ _ hr nd=>(ae (s4 3 nd (cM hr (aB hr (c4 (tm T) hr (lc (ab 0) (lc (aB hr (ab 1)) (l1 (aB hr (ab 1))))))) (aB hr (ab 1))))
  (ae (s4 4 nd (jX cV (az j5 (jX cV (ab 2)) (ab 3))))
  (aj (au (aC (lc aq (lc (ab 4) (l1 (aC (l1 (aC (lc aq (lc (aB hr (ab 1)) (l1 (aB hr (ab 1))))))))))))))))) rfl
def fk(MW:ay):bv:=(ai (ap 3 (ad MW [(v3 0),(aD [(v3 1)])]))
  (aw (ak aW [(aJ (sA (af aa (v3 3) (c3 (.int 2))) (af aa (v3 3) (c3 (.int 3))) (v3 2)) (.tp (.cons (.n 0) (.cons (.n 1) (.cons (.n 2) .nil)))) bZ (ak iB [(v3 1),(af bd (v3 2) (v3 0))]) 3 [])])))
def fm:ay:=aT 4 (fk f8)
def mT(T:Txt P w K mg):Jc P w K mg base 31 "needed_ahead" 3 fm:=df ["house","part","needed","found"] T.o_needed_ahead (λ_ _ _ _ _ _ _ hr nd=>(ae (s4 3 nd (c4 (oA T) hr (lc (ab 0) (l1 (aC (l1 (ab 1)))))))
  (aj (au (cT bL T.IP (l1 (oM [] 3 [] ["effect","asked","count"] (yK rfl rfl rfl T.Ma (by decide +kernel) (lc (aB hr (ab 3)) (lc (aB hr (ab 3)) (l1 (ab 2))))) (λ_=>(m5 rfl (aF (gn 0 El) (aF (gn 1 El) (aF (gn 2 El) cq))))) (λ_=>bM) (λ_=>(cB (jY rfl) T.Mw (lc (ab 1) (l1 (az cg (ab 2) (ab 0))))))))))))) rfl
def oB(KO Oo MN:ay):bv:=(ai (ap 2 (aD []))
  (ai (ap 3 (v3 1))
  (ai (bS (yR (ad KO [(v3 0)])) (.n 4) (bm (aG (af m6 (af aa (v3 3) (af aa (v3 4) (c3 (.int 0)))) (c3 (.int 0)))) (ai (ap 5 (ad Oo [(v3 0),(v3 4),(af aa (v3 3) (af aa (v3 4) (c3 (.int 0))))]))
  (ai (ap 3 (ad MN [(v3 0),(v3 5),(v3 3)]))
  (ap 2 (af aR (aD [(v3 5)]) (v3 2))))) aO))
  (ai (bm (aG (ak AO [(aJ (aL (v3 3)) (.n 0) bZ (af m6 (v3 0) (c3 (.int 0))) 1 [])])) yz aO)
  (aw (v3 2))))))
def oC:ay:=aT 6 (oB gH mo fm)
def wZ(T:Txt P w K mg):Jc P w K mg base 32 "filled" 2 oC:=df ["house","counts","story","needed","step","part"] T.o_filled (λ_ _ _ _ _ _ _ hr nd=>(ae (s4 2 nd (aC cK))
  (ae (s4 3 nd (ab 1))
  (ae (dy UP rfl (F5 wk rfl T.MM (c4 (ko T) hr (l1 (ab 0)))) (gn 4 nd) (aj (aP (bh mR (cM hr (ab 3) (aB hr (ab 4))) ah (aN _)) (ae (s4 5 nd (c4 (uO T) hr (lc (ab 0) (lc (ab 4) (l1 (cM hr (ab 3) (aB hr (ab 4))))))))
  (ae (s4 3 nd (c4 (mT T) hr (lc (ab 0) (lc (ab 5) (l1 (ab 3))))))
  (aj (s4 2 nd (az aH (aC (l1 (ab 5))) (ab 2)))))) aE)))
  (ae (aP (cL (cB (FQ rfl) T.Qx (l1 (oM [] 1 [] ["count"] (bF (ab 3)) (λ_=>(gn 0 HJ)) (λ_=>bM) (λ_=>(de mR (ab 0) ah (aN _))))))) (aj AT) aE)
  (aj (au (ab 2)))))))) rfl
def mr:ay:=aT 1 C.lP
def uP(T:Txt P w K mg):Jc P w K mg base 1 "has_row" 1 mr:=df ["part"] T.o_has_row (λ_ _ _ _ _ _ _ hr nd=>(aj (au (de (gx (eC hr)) (aB hr (ab 0)) (aC (lc aq (l1 aq))) rfl)))) rfl
def fo:ay:=aT 4 (C.e7 ed mr)
def mU(T:Txt P w K mg):Jc P w K mg base 14 "rows_of_body" 2 fo:=df ["body","names","rows","come_to"] T.o_rows_of_body (λ_ _ _ _ _ _ _ hr nd=>(ae (vm [] 1 [] ["found"] 2 nd (bF (cD (gG T) hr (lc (ab 0) (l1 (ab 1))))) (λ_=>(gn 0 HK)) (λ_=>(nM (cL (c4 (uP T) hr (l1 (aB hr (ab 0))))))) (λ_=>(ab 0)))
  (ae (vm [] 2 [] ["row","found"] 3 nd (lN rfl rfl T.JE (by decide +kernel) (l1 (ab 2))) (λ_=>(m5 rfl (aF (gn 0 Cb) (aF (gn 1 Cb) cq)))) (λ_=>(nM (cL (aB hr (ab 1))))) (λ_=>(ab 0)))
  (aj (au (cT bL T.IP (l1 (az aH (ab 3) (bo (l1 (cB bK T.I_ (l1 (ab 2))))))))))))) rfl
def fq:ay:=aT 2 (C.e8 kq fo)
def mV(T:Txt P w K mg):Jc P w K mg base 30 "rows_come_to" 1 fq:=df ["house","names"] T.o_rows_come_to (λ_ _ _ _ _ _ _ hr nd=>(ae (s4 1 nd (c4 (sY T) hr (l1 (ab 0))))
  (aj (au (cT bL T.IP (l1 (oM ["names"] 1 [1] ["deed","names"] (bF (aB hr (ab 0))) (λ_=>(gn 0 Gg)) (λ_=>bM) (λ_=>(c4 (mU T) hr (lc (aB hr (ab 0)) (l1 (ab 1)))))))))))) rfl
def mM:ay:=aT 5 C.iS
def rG(T:Txt P w K mg):Jc P w K mg base 1 "_law_deal" 2 mM:=df ["_law_script","_law_base","_law_one","_law_some","_law_number_here"] T.o__law_deal (λ_ _ _ _ _ _ _ hr nd=>(ae (vm [] 1 [] ["_law_one"] 3 nd (bF (eF (ab 0) (fS (ab 1)) (fS ah))) (λ_=>(gn 0 zg)) (λ_=>bM) (λ_=>(cB (jY rfl) T.Mw (lc (ab 0) (l1 (az cg ah (ab 0)))))))
  (ae (s4 4 nd (az aH ah (ab 1)))
  (ae (dy UP rfl (bF (ab 3)) (gn 2 nd) (aj (s4 4 nd (az iE (az aH (az bc (ab 4) ah) (az iE (ab 2) ah)) ah))))
  (aj (au (yF (gQ aq (ab 4) (gQ aq ah (gQ aq (DJ wm rfl (oM [] 1 [] ["_law_one"] (bF (ab 3)) (λ_=>(gn 0 zg)) (λ_=>(nM (bh Ht (ab 0) (az B6 ah ah) (aN _)))) (λ_=>(ab 0))) rfl T.OF rfl T.MM) yE)))))))))) rfl
def w__law_draw:ay:=aT 5 C.iT
def ao(T:Txt P w K mg):Jc P w K mg base 1 "_law_draw" 2 w__law_draw:=df ["_law_deal_here","_law_many_here","_law_number_here","_law_one","_law_other"] T.o__law_draw (λ_ _ _ _ _ _ _ hr nd=>(ae (kM UP (nG (jL (dg hr (cM hr (ab 0) aq) ah) (gP (bh mR (cB bK T.I_ (l1 (cM hr (ab 0) aq))) ah (aN _))))) (aj (iO (vi hr) (Hz yN BZ (cM hr (ab 0) aq)) (ab 0) aq)))
  (ae (s4 2 nd (cM hr (ab 0) aq))
  (ae (aP (bh mR (ab 2) ah (aN _)) (ae (iO (vi hr) (az j5 (ab 2) (ab 1)) (ab 0) aq)
  (aj (au (az iE (ab 2) (ab 1))))) aE)
  (ae (s4 3 nd (az iE (az aH (az bc (cM hr (ab 0) aq) ah) ah) ah))
  (ae (iO (vi hr) (az iE (az aH (az bc (ab 3) ah) ah) ah) (ab 0) aq)
  (ae (s4 4 nd (az iE (az bc (cM hr (ab 0) aq) (cM hr (ab 0) aq)) ah))
  (aj (au (az iE (az aH (az bc (az iE (az bc (ab 3) (ab 3)) ah) ah) (ab 4)) (ab 1))))))))))) rfl
def dC:ay:=aT 11 (C.gR w__law_draw)
def f_(T:Txt P w K mg):Jc P w K mg base 2 "_law_words" 2 dC:=df ["_law_deal_here","_law_many_here","_law_letters","_law_taken","_law_k","_law_core","_law_at","_law_turn","_law_near","_law_found","_law_name"] T.o__law_words (λ_ _ _ _ _ _ _ hr nd=>(ae (s4 2 nd aq)
  (ae (s4 3 nd (bo (lc aq (lc aq (lc aq (lc aq (lc aq (lc aq (lc aq (lc aq (lc aq (l1 aq))))))))))))
  (ae (s4 5 nd (tO vk yy aq (l1 (oM ["_law_letters","_law_deal_here"] 1 [0,2] ["_law_k","_law_deal_here","_law_letters"] (dv rfl rfl T.Kb (l1 (c4 (ao T) hr (lc (ab 0) (l1 ah))))) (λ_=>(gn 0 Gh)) (λ_=>bM) (λ_=>(cM hr (ab 2) (c4 (ao T) hr (lc (ab 1) (l1 ah)))))))))
  (ae (AU (i:=6) (j:=7) (k:=8) rfl nd rfl rfl rfl rfl rfl rfl (aC (lc (c4 (ao T) hr (lc (ab 0) (l1 (az aH (cB bK T.I_ (l1 (ab 5))) ah)))) (lc (c4 (ao T) hr (lc (ab 0) (l1 ah))) (l1 (de (iA (fF hr)) (c4 (ao T) hr (lc (ab 0) (l1 ah))) ah (aN _)))))))
  (ae (s4 9 nd (bo cK))
  (ae (dy UP rfl (dv rfl rfl T.Kb (l1 (ab 1))) (gn 4 nd) (ae (s4 10 nd (az aH (az aH (eF (ab 5) iM (fS (ab 6))) (cM hr (ab 2) (az iE (az aH (ab 7) (ab 4)) ah))) (eF (ab 5) (fS (ab 6)) iM)))
  (ae (aP (eV (cL (ab 8))) (aj (s4 10 nd (tO vk yy aq (l1 (oM ["_law_letters","_law_deal_here"] 1 [0,2] ["_law_j","_law_deal_here","_law_letters"] (dv rfl rfl T.Kb (l1 (az aH ah (c4 (ao T) hr (lc (ab 0) (l1 ah)))))) (λ_=>(gn 0 Gj)) (λ_=>bM) (λ_=>(cM hr (ab 2) (c4 (ao T) hr (lc (ab 1) (l1 ah)))))))))) aE)
  (ae (kM UP (nG (gw (bh (jO (eC hr)) (ab 10) (ab 3) rfl) (fB (bh (jO (eC hr)) (ab 10) (ab 9) rfl)))) (aj (s4 10 nd (az aH (cM hr (ab 2) (az iE (az aH (tO yO AS (ab 2) (l1 (aB hr (ab 10)))) ah) ah)) (eF (ab 10) (fS ah) iM)))))
  (aj (cn (tO eO gA (ab 9) (l1 (ab 10)))))))))
  (aj (au (ab 9)))))))))) rfl
def ft:ay:=aT 4 C.j8
def jh(T:Txt P w K mg):Jc P w K mg base 1 "_law_low" 2 ft:=df ["_law_top","_law_bottom","_law_one","_law_other"] T.o__law_low (λ_ _ _ _ _ _ _ hr nd=>(ae (B2 (i:=2) (j:=3) rfl nd rfl rfl (by decide) rfl rfl (lc (cB (jY rfl) T.Mw (lc (ab 0) (l1 (az cg ah (ab 0))))) (l1 (ab 1))))
  (ae (kM UP (bh mR (ab 3) ah (aN _)) (aj (B2 (i:=2) (j:=3) rfl nd rfl rfl (by decide) rfl rfl (lc (ab 3) (l1 (az iE (ab 2) (ab 3)))))))
  (aj (au (aC (lc (az j5 (ab 0) (ab 2)) (l1 (az j5 (ab 1) (ab 2)))))))))) rfl
def fL:ay:=aT 2 (C.iX ft)
def lm(T:Txt P w K mg):Jc P w K mg base 2 "_law_plus" 2 fL:=df ["_law_one","_law_other"] T.o__law_plus (λ_ _ _ _ _ _ _ hr nd=>(aj (au (c4 (jh T) hr (lc (az aH (az bc (aB hr (ab 0)) (aB hr (ab 1))) (az bc (aB hr (ab 1)) (aB hr (ab 0)))) (l1 (az bc (aB hr (ab 0)) (aB hr (ab 1))))))))) rfl
def il(Kg:ay):bv:=(aw (ad Kg [(af b_ (af aa (v3 0) (c3 (.int 0))) (v3 1)),(af aa (v3 0) (c3 (.int 1)))]))
def lp:ay:=aT 2 (il ft)
def oS(T:Txt P w K mg):Jc P w K mg base 2 "_law_times" 2 lp:=df ["_law_one","_law_many_here"] T.o__law_times (λ_ _ _ _ _ _ _ hr nd=>(aj (au (c4 (jh T) hr (lc (az bc (aB hr (ab 0)) (ab 1)) (l1 (aB hr (ab 0)))))))) rfl
def ji:ay:=aT 2 (C.iU w__law_draw ft)
def rH(T:Txt P w K mg):Jc P w K mg base 2 "_law_cost" 1 ji:=df ["_law_deal_here","_law_form"] T.o__law_cost (λ_ _ _ _ _ _ _ hr nd=>(ae (s4 1 nd (c4 (ao T) hr (lc (ab 0) (l1 ah))))
  (ae (aP (dg hr (ab 1) ah) (aj (au (aC (lc ah (l1 ah))))) aE)
  (ae (aP (bh j6 (ab 1) ah (aN _)) (aj (au (aC (lc (az aH ah (c4 (ao T) hr (lc (ab 0) (l1 ah)))) (l1 ah))))) aE)
  (aj (au (c4 (jh T) hr (lc (c4 (ao T) hr (lc (ab 0) (l1 ah))) (l1 (az aH ah (c4 (ao T) hr (lc (ab 0) (l1 ah))))))))))))) rfl
def dr:ay:=aT 4 (C.dW w__law_draw ji)
def cF(T:Txt P w K mg):Jc P w K mg base 3 "_law_leaf" 2 dr:=df ["_law_deal_here","_law_jars","_law_form","_law_many_here"] T.o__law_leaf (λ_ _ _ _ _ _ _ hr nd=>(ae (s4 2 nd (c4 (ao T) hr (lc (ab 0) (l1 ah))))
  (ae (aP (dg hr (ab 2) ah) (aj (au (aC (l1 aq)))) aE)
  (ae (aP (nG (gw (bh j6 (ab 2) ah (aN _)) (fB (dg hr (cB bK T.I_ (l1 (ab 1))) ah)))) (aj (au (aC (lc aq (l1 (c4 (rH T) hr (l1 (ab 0)))))))) aE)
  (ae (s4 3 nd (cM hr (bo (lc ah (lc ah (l1 (az aH ah (c4 (ao T) hr (lc (ab 0) (l1 ah)))))))) (c4 (ao T) hr (lc (ab 0) (l1 ah)))))
  (aj (au (aC (lc aq (lc (cM hr (ab 1) (c4 (ao T) hr (lc (ab 0) (l1 (cB bK T.I_ (l1 (ab 1))))))) (l1 (ab 3)))))))))))) rfl
noncomputable def fM:Nat->ay
 |0=>m8
 |n+1=>aT 8 (C.iV w__law_draw dr (fM n))
def jj:ay:=fM 12
def lq(T:Txt P w K mg):Jc P w K mg base 15 "_law_body" 4 jj:=jE (b:=3) (r:=fM) T.o__law_body (λn R0=>df ["_law_deal_here","_law_jars","_law_left","_law_down","_law_form","_law_one","_law_other","_law_many_here"] T.o__law_body (λ_ _ _ _ _ _ _ hr nd=>(ae (s4 4 nd (c4 (ao T) hr (lc (ab 0) (l1 ah))))
  (ae (aP (nG (gw (dg hr (ab 3) ah) (gw (bh j6 (aB hr (ab 2)) ah (aN _)) (fB (bh j6 (ab 4) ah (aN _)))))) (aj (au (c4 (cF T) hr (lc (ab 0) (l1 (ab 1)))))) aE)
  (ae (aP (bh j6 (ab 4) ah (aN _)) (ae (iO (vi hr) (az cg (aB hr (ab 2)) ah) (ab 2) ah)
  (aj (au (aC (lc aq (l1 (c4 R0 hr (lc (ab 0) (lc (ab 1) (lc (ab 2) (l1 (az cg (ab 3) ah)))))))))))) aE)
  (ae (iO (vi hr) (az cg (aB hr (ab 2)) ah) (ab 2) ah)
  (ae (s4 5 nd (c4 R0 hr (lc (ab 0) (lc (ab 1) (lc (ab 2) (l1 (az cg (ab 3) ah)))))))
  (ae (s4 6 nd (c4 R0 hr (lc (ab 0) (lc (ab 1) (lc (ab 2) (l1 (az cg (ab 3) ah)))))))
  (ae (aP (bh j6 (ab 4) ah (aN _)) (aj (au (aC (lc aq (lc (ab 5) (l1 (ab 6))))))) aE)
  (ae (aP (nG (gw (dg hr (ab 4) ah) (fB (dg hr (cB bK T.I_ (l1 (ab 1))) ah)))) (aj (au (aC (lc aq (lc (ab 5) (l1 (ab 6))))))) aE)
  (ae (s4 7 nd (cM hr (bo (lc ah (lc ah (lc ah (l1 (az aH ah (c4 (ao T) hr (lc (ab 0) (l1 ah))))))))) (c4 (ao T) hr (lc (ab 0) (l1 ah)))))
  (aj (au (aC (lc aq (lc (cM hr (ab 1) (c4 (ao T) hr (lc (ab 0) (l1 (cB bK T.I_ (l1 (ab 1))))))) (lc (ab 7) (lc (ab 5) (l1 (ab 6))))))))))))))))))) rfl) rfl rfl 12
noncomputable def cu:Nat->ay
 |0=>m8
 |n+1=>aT 1 (C.dA (cu n))
def cv:ay:=cu 12
def fu(T:Txt P w K mg):Jc P w K mg base 12 "_law_pass_count" 1 cv:=jE (b:=0) (r:=cu) T.o__law_pass_count (λn R0=>df ["_law_body_here"] T.o__law_pass_count (λ_ _ _ _ _ _ _ hr nd=>(ae (aP (dg hr (aB hr (ab 0)) aq) (aj (au (az bc (c4 R0 hr (l1 (aB hr (ab 0)))) (c4 R0 hr (l1 (aB hr (ab 0))))))) aE)
  (ae (aP (nG (gw (dg hr (aB hr (ab 0)) aq) (fB (dg hr (aB hr (ab 0)) aq)))) (aj (au (az aH (c4 R0 hr (l1 (cM hr (ab 0) (jX cV ah)))) (c4 R0 hr (l1 (cM hr (ab 0) (jX cV ah))))))) aE)
  (aj (au ah))))) rfl) rfl rfl 12
noncomputable def cj:Nat->ay
 |0=>m8
 |n+1=>aT 1 (C.cX cv (cj n))
def fx:ay:=cj 12
def jG(T:Txt P w K mg):Jc P w K mg base 24 "_law_round_count" 1 fx:=jE (b:=12) (r:=cj) T.o__law_round_count (λn R0=>df ["_law_body_here"] T.o__law_round_count (λ_ _ _ _ _ _ _ hr nd=>(ae (aP (dg hr (aB hr (ab 0)) aq) (aj (au (az aH (c4 (fu T) hr (l1 (aB hr (ab 0)))) (c4 R0 hr (l1 (aB hr (ab 0))))))) aE)
  (ae (aP (bh (jO (eC hr)) (aB hr (ab 0)) (aC (lc aq (lc aq (l1 aq)))) rfl) (aj (au (az aH (c4 R0 hr (l1 (cM hr (ab 0) (jX cV ah)))) (c4 R0 hr (l1 (cM hr (ab 0) (jX cV ah))))))) aE)
  (aj (au ah))))) rfl) rfl rfl 12
def dR:ay:=aT 5 (C.dI jj cv fx dr)
def lr(T:Txt P w K mg):Jc P w K mg base 25 "_law_deed_body" 4 dR:=df ["_law_deal_here","_law_jars","_law_most_parts","_law_most_lines","_law_body_here"] T.o__law_deed_body (λ_ _ _ _ _ _ _ hr nd=>(ae (s4 4 nd (c4 (lq T) hr (lc (ab 0) (lc (ab 1) (lc (bo (l1 (az cg (ab 2) ah))) (l1 ah))))))
  (ae (aP (bh mR (az aH (c4 (fu T) hr (l1 (ab 4))) (c4 (jG T) hr (l1 (ab 4)))) (ab 3) (aN _)) (aj (s4 4 nd (aC (lc aq (lc (aC (lc aq (l1 (c4 (cF T) hr (lc (ab 0) (l1 (ab 1))))))) (l1 (c4 (cF T) hr (lc (ab 0) (l1 (ab 1)))))))))) aE)
  (aj (au (ab 4)))))) rfl
def im:ay:=aT 9 (C.gS dC w__law_draw dR)
def oU(T:Txt P w K mg):Jc P w K mg base 26 "_law_house" 4 im:=df ["_law_deal_here","_law_most_jars","_law_most_deeds","_law_most_parts","_law_words_here","_law_jars","_law_first","_law_many_here","_law_deeds"] T.o__law_house (λ_ _ _ _ _ _ _ hr nd=>(ae (s4 4 nd (c4 (f_ T) hr (lc (ab 0) (l1 ah))))
  (ae (s4 5 nd (cT bL T.IP (l1 (eF (ab 4) iM (fS (c4 (ao T) hr (lc (ab 0) (l1 (az aH (ab 1) ah)))))))))
  (ae (s4 6 nd (cM hr (bo (lc ah (l1 ah))) (c4 (ao T) hr (lc (ab 0) (l1 ah)))))
  (ae (s4 7 nd (az aH ah (c4 (ao T) hr (lc (ab 0) (l1 (ab 2))))))
  (ae (vm ["_law_words_here","_law_most_parts","_law_many_here","_law_jars","_law_first","_law_deal_here"] 1 [0,6,5,7,3,4] ["_law_k","_law_deal_here","_law_first","_law_jars","_law_many_here","_law_most_parts","_law_words_here"] 8 nd (dv rfl rfl T.Kb (l1 (ab 7))) (λ_=>(gn 0 Gm)) (λ_=>bM) (λ_=>(aC (lc (cM hr (ab 6) (az aH (ab 2) (ab 0))) (l1 (c4 (lr T) hr (lc (ab 1) (lc (ab 3) (lc (ab 5) (l1 (az j5 ah (ab 4))))))))))))
  (aj (au (aC (lc (ab 5) (l1 (cT bL T.IP (l1 (ab 8)))))))))))))) rfl
noncomputable def eJ:Nat->ay
 |0=>m8
 |n+1=>aT 7 (C.gU w__law_draw (eJ n))
def io:ay:=eJ 12
def oV(T:Txt P w K mg):Jc P w K mg base 13 "_law_trace" 3 io:=jE (b:=1) (r:=eJ) T.o__law_trace (λn R0=>df ["_law_deal_here","_law_body_here","_law_left","_law_one","_law_side","_law_found","_law_k"] T.o__law_trace (λ_ _ _ _ _ _ _ hr nd=>(ae (aP (dg hr (aB hr (ab 1)) aq) (ae (s4 3 nd (c4 R0 hr (lc (ab 0) (lc (aB hr (ab 1)) (l1 (ab 2))))))
  (aj (au (aC (lc (ab 3) (l1 (c4 R0 hr (lc (ab 0) (lc (aB hr (ab 1)) (l1 (ab 2))))))))))) aE)
  (ae (aP (nG (gw (dg hr (aB hr (ab 1)) aq) (fB (dg hr (aB hr (ab 1)) aq)))) (ae (s4 4 nd (c4 (ao T) hr (lc (ab 0) (l1 ah))))
  (aj (au (aC (lc (ab 4) (l1 (c4 R0 hr (lc (ab 0) (lc (cM hr (ab 1) (az cg (ab 4) ah)) (l1 (ab 2))))))))))) aE)
  (ae (s4 5 nd (bo cK))
  (ae (dy UP rfl (dv rfl rfl T.Kb (l1 (az bc (c4 (ao T) hr (lc (ab 0) (l1 ah))) (cT pI T.ML (l1 (de (iA (fF hr)) (aB hr (ab 1)) aq (aN _))))))) (gn 6 nd) (aj (aP (bh mR (aB hr (ab 2)) ah (aN _)) (ae (iO (vi hr) (az cg (aB hr (ab 2)) ah) (ab 2) ah)
  (aj (cn (tO eO gA (ab 5) (l1 (aC (lc (az aH ah (c4 (ao T) hr (lc (ab 0) (l1 ah)))) (l1 (c4 R0 hr (lc (ab 0) (lc (aB hr (ab 1)) (l1 (ab 2))))))))))))) aE)))
  (aj (au (cT bL T.IP (l1 (ab 5)))))))))) rfl) rfl rfl 12
noncomputable def fN:Nat->ay
 |0=>m8
 |n+1=>aT 8 (CY.i3 fL (fN n))
def mN:ay:=fN 12
def rJ(T:Txt P w K mg):Jc P w K mg base 14 "_law_gone" 3 mN:=jE (b:=2) (r:=fN) T.o__law_gone (λn R0=>df ["_law_body_here","_law_trace_here","_law_world_here","_law_word","_law_at","_law_many_here","_law_one","_law_k"] T.o__law_gone (λ_ _ _ _ _ _ _ hr nd=>(ae (aP (cL (cM hr (ab 2) aq)) (aj DM) aE)
  (ae (s4 3 nd (aB hr (ab 0)))
  (aj (aP (dg hr (ab 3) aq) (aj (iO (vi hr) (c4 (lm T) hr (lc (cM hr (ab 2) aq) (l1 (aB hr (ab 0))))) (ab 2) aq)) (aj (aP (dg hr (ab 3) aq) (ae (s4 4 nd (yL W7 WC W8 nW rfl (cM hr (ab 2) aq) (l1 (aB hr (ab 0)))))
  (aj (iO (vi hr) (az aH (cM hr (cM hr (ab 2) aq) (ab 4)) (aB hr (ab 0))) (cM hr (ab 2) aq) (ab 4)))) (aj (aP (dg hr (ab 3) aq) (ae (cn (c4 R0 hr (lc (aB hr (ab 0)) (lc (aB hr (ab 1)) (l1 (ab 2))))))
  (aj (cn (c4 R0 hr (lc (aB hr (ab 0)) (lc (aB hr (ab 1)) (l1 (ab 2)))))))) (aj (aP (dg hr (ab 3) aq) (aj (cn (c4 R0 hr (lc (cM hr (ab 0) (az aH ah (aB hr (ab 1)))) (lc (aB hr (ab 1)) (l1 (ab 2))))))) (aj (aP (dg hr (ab 3) aq) (ae (s4 4 nd (yL W7 WC W8 nW rfl (cM hr (ab 2) aq) (l1 (aB hr (ab 0)))))
  (ae (aP (dg hr (aB hr (ab 1)) ah) (ae (iO (vi hr) (de j6 (cM hr (cM hr (ab 2) aq) (ab 4)) (aB hr (ab 0)) (aN _)) (ab 2) aq)
  (aj (iO (vi hr) (az cg (cM hr (cM hr (ab 2) aq) (ab 4)) (aB hr (ab 0))) (cM hr (ab 2) aq) (ab 4)))) aE)
  (aj (cn (c4 R0 hr (lc (cM hr (ab 0) (az aH ah (aB hr (ab 1)))) (lc (aB hr (ab 1)) (l1 (ab 2))))))))) (aj (aP (dg hr (ab 3) aq) (aj (dy UP rfl (bF (ab 1)) (m5 rfl (aF (gn 5 nd) (aF (gn 6 nd) cq))) (aj (dy UP rfl (dv rfl rfl T.Kb (l1 (ab 5))) (gn 7 nd) (aj (cn (c4 R0 hr (lc (aB hr (ab 0)) (lc (ab 6) (l1 (ab 2))))))))))) aE))))))))))))))) rfl) rfl rfl 12
def ip:bv:=(aw (nP [((c3 (.str "names")),(af aa (v3 0) (c3 (.int 0)))),((c3 (.str "jars")),(ak jZ [(v3 1)])),((c3 (.str "cost")),(aD [(c3 (.int 0)),(c3 (.int 1))])),((c3 (.str "stuck")),(c3 (.bl false)))]))
def ls:ay:=aT 2 ip
def oW(T:Txt P w K mg):Jc P w K mg base 1 "_law_world" 2 ls:=df ["_law_house_here","_law_jars"] T.o__law_world (λ_ _ _ _ _ _ _ hr nd=>(aj (au (yF (gQ aq (aB hr (ab 0)) (gQ aq (cT (DB rfl) T.OF (l1 (ab 1))) (gQ aq (aC (lc ah (l1 ah))) (gQ aq iG yE)))))))) rfl
def gc:bv:=(aw (cw (ak kJ [(v3 0),(c3 (.ty "int"))]) (mI (ak kJ [(v3 0),(c3 (.ty "bool"))]))))
def bP:ay:=aT 1 gc
def fy(T:Txt P w K mg):Jc P w K mg base 1 "_law_number" 1 bP:=df ["_law_one"] T.o__law_number (λ_ _ _ _ _ _ _ hr nd=>(aj (au (nI (cB pJ T.Jk (lc (ab 0) (l1 (ER T.ML)))) (nH (BW (cB pJ T.Jk (lc (ab 0) (l1 (ER T.P1)))))))))) rfl
def dD(Jv s0 s1:ay):bv:=(ai (bm (cI (aG (ak kJ [(v3 1),(c3 (.ty "tuple"))]))) (aw (c3 (.bl false))) aO)
  (ai (bm (aG (af (jN false) (af aa (v3 0) (c3 (.int 0))) (aD [(c3 (.str "rest")),(c3 (.str "pay")),(c3 (.str "put"))]))) (ai (bg (jp "list" bT (v3 2) [(af b_ (bf [(cW (v3 0) (tN (c3 (.int 1))) vd)]) (ak eW [(af (aS false) (af aa (v3 0) (c3 (.int 0))) (c3 (.str "put")))]))]))
  (aw (af (aS false) (v3 1) (aD [])))) aO)
  (ai (bm (aG (af (aS false) (af aa (v3 0) (c3 (.int 0))) (c3 (.str "often")))) (ai (ap 3 (aJ (aL (v3 1)) (.n 0) (aG (ad s1 [(v3 1),(v3 0),(v3 2)])) (v3 0) 1 [0,2]))
  (aw (af (aS false) (ak bx [(v3 3)]) (ak bx [(v3 1)])))) aO)
  (ai (bm (aG (af (aS true) (ak bx [(v3 1)]) (c3 (.int 2)))) (aw (c3 (.bl false))) aO)
  (ai (bm (aG (af (aS false) (af aa (v3 0) (c3 (.int 0))) (c3 (.str "then")))) (aw (cw (ad s0 [(af aa (v3 0) (c3 (.int 1))),(af aa (v3 1) (c3 (.int 0))),(v3 2)]) (ad s0 [(af aa (v3 0) (c3 (.int 2))),(af aa (v3 1) (c3 (.int 1))),(v3 2)]))) aO)
  (ai (bm (iy (cI (aG (ad Jv [(af aa (v3 1) (c3 (.int 0)))]))) (iy (aG (af lO (af aa (v3 1) (c3 (.int 0))) (c3 (.int 0)))) (aG (af m6 (af aa (v3 1) (c3 (.int 0))) (c3 (.int 1)))))) (aw (c3 (.bl false))) aO)
  (ai (bm (eU (aG (af (aS false) (af aa (v3 0) (c3 (.int 0))) (c3 (.str "take")))) (aG (af (aS false) (af aa (v3 1) (c3 (.int 0))) (c3 (.int 0))))) (bg (jp "list" cp (v3 2) [(aD [(af aa (v3 0) (c3 (.int 1))),(af bd (c3 (.int 0)) (af aa (v3 0) (c3 (.int 2))))])])) aO)
  (aw (ad s0 [(af aa (v3 0) (af bd (af aa (v3 1) (c3 (.int 0))) (c3 (.int 2)))),(af aa (v3 1) (c3 (.int 1))),(v3 2)])))))))))
def cS(Jv s0 s1:ay):bv:=(ai (bm (iy (cI (aG (ak kJ [(v3 1),(c3 (.ty "tuple"))]))) (iy (aG (af (aS true) (ak bx [(v3 1)]) (c3 (.int 2)))) (iy (cI (aG (ad Jv [(af aa (v3 1) (c3 (.int 0)))]))) (aG (af lO (af aa (v3 1) (c3 (.int 0))) (c3 (.int 1))))))) (aw (c3 (.bl false))) aO)
  (aw (ad s0 [(af aa (v3 0) (c3 (.int 1))),(af aa (v3 1) (c3 (.int 1))),(v3 2)])))
noncomputable def bH:Nat->ay×ay
 |0=>(m8,m8)
 |n+1=>(aT 4 (dD bP (bH n).1 (bH n).2),aT 3 (cS bP (bH n).1 (bH n).2))
def fA(n:Nat):ay:=(bH n).1
def eg(n:Nat):ay:=(bH n).2
def mW(T:Txt P w K mg)(n:Nat){s0 s1:ay}(R0:Jc P w K mg base (1+n) "_law_follows" 3 s0)(R1:Jc P w K mg base (1+n) "_law_is_going" 3 s1):Jc P w K mg base (1+n+1) "_law_follows" 3 (aT 4 (dD bP s0 s1)):=df ["_law_body_here","_law_trace_here","_law_moves","_law_good"] T.o__law_follows (λ_ _ _ _ _ _ _ hr nd=>(ae (aP (eV (cL (cB pJ T.Jk (lc (ab 1) (l1 (ER T.IP)))))) (aj (au iG)) aE)
  (ae (aP (bh (jO (eC hr)) (aB hr (ab 0)) (aC (lc aq (lc aq (l1 aq)))) rfl) (ae (cn (tO gB iN (ab 2) (l1 (az bc (bo (l1 (eF (ab 0) (fS ah) iM))) (cT pI T.ML (l1 (de (iA (fF hr)) (aB hr (ab 0)) aq (aN _))))))))
  (aj (au (de (iA (fF hr)) (ab 1) (aC cK) (aN _))))) aE)
  (ae (aP (dg hr (aB hr (ab 0)) aq) (ae (vm ["_law_moves","_law_body_here"] 1 [0,2] ["_law_one","_law_body_here","_law_moves"] 3 nd (bF (ab 1)) (λ_=>(gn 0 Gn)) (λ_=>(nM (cL (c4 R1 hr (lc (ab 1) (lc (ab 0) (l1 (ab 2)))))))) (λ_=>(ab 0)))
  (aj (au (de (iA (fF hr)) (cB bK T.I_ (l1 (ab 3))) (cB bK T.I_ (l1 (ab 1))) (aN _))))) aE)
  (ae (aP (B7 hr (cB bK T.I_ (l1 (ab 1))) ah) (aj (au iG)) aE)
  (ae (aP (dg hr (aB hr (ab 0)) aq) (aj (au (nI (c4 R0 hr (lc (aB hr (ab 0)) (lc (aB hr (ab 1)) (l1 (ab 2))))) (nH (c4 R0 hr (lc (aB hr (ab 0)) (lc (aB hr (ab 1)) (l1 (ab 2))))))))) aE)
  (ae (aP (nG (gw (eV (cL (c4 (fy T) hr (l1 (aB hr (ab 1)))))) (gw (bh j6 (aB hr (ab 1)) ah (aN _)) (fB (bh mR (aB hr (ab 1)) ah (aN _)))))) (aj (au iG)) aE)
  (ae (aP (nG (jL (dg hr (aB hr (ab 0)) aq) (gP (dg hr (aB hr (ab 1)) ah)))) (aj (cn (tO eO gA (ab 2) (l1 (aC (lc (aB hr (ab 0)) (l1 (az cg ah (aB hr (ab 0)))))))))) aE)
  (aj (au (c4 R0 hr (lc (cM hr (ab 0) (az cg (aB hr (ab 1)) ah)) (lc (aB hr (ab 1)) (l1 (ab 2))))))))))))))) rfl
def mw(T:Txt P w K mg)(n:Nat){s0 s1:ay}(R0:Jc P w K mg base (1+n) "_law_follows" 3 s0)(R1:Jc P w K mg base (1+n) "_law_is_going" 3 s1):Jc P w K mg base (1+n+1) "_law_is_going" 3 (aT 3 (cS bP s0 s1)):=df ["_law_body_here","_law_one","_law_moves"] T.o__law_is_going (λ_ _ _ _ _ _ _ hr nd=>(ae (aP (nG (gw (eV (cL (cB pJ T.Jk (lc (ab 1) (l1 (ER T.IP)))))) (gw (B7 hr (cB bK T.I_ (l1 (ab 1))) ah) (gw (eV (cL (c4 (fy T) hr (l1 (aB hr (ab 1)))))) (fB (bh j6 (aB hr (ab 1)) ah (aN _))))))) (aj (au iG)) aE)
  (aj (au (c4 R0 hr (lc (aB hr (ab 0)) (lc (aB hr (ab 1)) (l1 (ab 2))))))))) rfl
theorem gL(T:Txt P w K mg):∀n:Nat,Jc P w K mg base (1+n) "_law_follows" 3 (fA n)/\Jc P w K mg base (1+n) "_law_is_going" 3 (eg n)
 |0=>⟨.zero T.o__law_follows,.zero T.o__law_is_going⟩
 |n+1=>let ⟨h0,h1⟩:=gL T n;⟨mW T n h0 h1,mw T n h0 h1⟩
def cx:ay:=fA 12
def iF(T:Txt P w K mg):Jc P w K mg base 13 "_law_follows" 3 cx:=(gL T 12).1
noncomputable def fO:Nat->ay
 |0=>m8
 |n+1=>aT 5 (C.iZ (fO n))
def mO:ay:=fO 12
def lv(T:Txt P w K mg):Jc P w K mg base 12 "_law_walk" 5 mO:=jE (b:=0) (r:=fO) T.o__law_walk (λn R0=>df ["_law_body_here","_law_at","_law_held","_law_there","_law_found"] T.o__law_walk (λ_ _ _ _ _ _ _ hr nd=>(ae (aP (nG (jL (B7 hr (aB hr (ab 0)) aq) (gP (B7 hr (aB hr (ab 0)) aq)))) (ae (aP (cL (ab 3)) (aj (cn (tO eO gA (ab 4) (l1 (ab 1))))) aE)
  (aj (s4 1 nd (az aH (ab 1) ah)))) aE)
  (ae (aP (dg hr (aB hr (ab 0)) aq) (aj (au (c4 R0 hr (lc (aB hr (ab 0)) (lc (ab 1) (lc (ab 2) (lc (ab 3) (l1 (ab 4))))))))) aE)
  (ae (aP (bh (jO (eC hr)) (aB hr (ab 0)) (aC (lc aq (lc aq (l1 aq)))) rfl) (ae (s4 1 nd (c4 R0 hr (lc (cM hr (ab 0) (jX cV ah)) (lc (ab 1) (lc (ab 2) (lc (nI (ab 3) (nH (Hm (de (BX (fF hr)) (aB hr (ab 0)) aq (aN _)) (nH (de (jO (eC hr)) (aB hr (ab 0)) (ab 2) rfl))))) (l1 (ab 4))))))))
  (aj (au (c4 R0 hr (lc (cM hr (ab 0) (jX cV ah)) (lc (ab 1) (lc (ab 2) (lc (ab 3) (l1 (ab 4)))))))))) aE)
  (aj (au (ab 1))))))) rfl) rfl rfl 12
def ky(Lj:ay):bv:=(ai (ap 2 (ad Lj [(af aa (v3 0) (c3 (.int 0))),(af aa (v3 1) (c3 (.int 0)))]))
  (ai (ap 3 (aJ (kO (af aa (v3 0) (c3 (.int 1))) (af aa (v3 1) (c3 (.int 1)))) (.tp (.cons (.n 0) (.cons (.n 1) .nil))) bZ (af aR (v3 0) (v3 1)) 2 []))
  (ai (ap 4 (aJ (uu (af aa (v3 0) (c3 (.int 2))) (af aa (v3 1) (c3 (.int 2))) (af aa (v3 0) (c3 (.int 1)))) (.tp (.cons (.n 0) (.cons (.n 1) (.cons (.n 2) .nil)))) bZ (ak iB [(v3 0),(af bd (v3 1) (v3 2))]) 3 []))
  (aw (aD [(v3 2),(v3 3),(v3 4)])))))
def iq:ay:=aT 5 (ky fL)
def fP(T:Txt P w K mg):Jc P w K mg base 3 "_law_sum" 2 iq:=df ["_law_one","_law_other","_law_cost_here","_law_effect","_law_demand"] T.o__law_sum (λ_ _ _ _ _ _ _ hr nd=>(ae (s4 2 nd (c4 (lm T) hr (lc (aB hr (ab 0)) (l1 (aB hr (ab 1))))))
  (ae (vm [] 2 [] ["_law_a","_law_b"] 3 nd (qL rfl rfl rfl T.Ma (by decide +kernel) (lc (aB hr (ab 0)) (l1 (aB hr (ab 1))))) (λ_=>(m5 rfl (aF (gn 0 Cc) (aF (gn 1 Cc) cq)))) (λ_=>bM) (λ_=>(az aH (ab 0) (ab 1))))
  (ae (vm [] 3 [] ["_law_a","_law_b","_law_c"] 4 nd (A9 rfl rfl rfl T.Ma (by decide +kernel) (lc (aB hr (ab 0)) (lc (aB hr (ab 1)) (l1 (aB hr (ab 0)))))) (λ_=>(m5 rfl (aF (gn 0 zh) (aF (gn 1 zh) (aF (gn 2 zh) cq))))) (λ_=>bM) (λ_=>(cB (jY rfl) T.Mw (lc (ab 0) (l1 (az cg (ab 1) (ab 2)))))))
  (aj (au (aC (lc (ab 2) (lc (ab 3) (l1 (ab 4))))))))))) rfl
def jk(Nk:ay):bv:=(ai (ap 2 (aJ (kO (af aa (v3 0) (c3 (.int 2))) (af aa (v3 0) (c3 (.int 1)))) (.tp (.cons (.n 0) (.cons (.n 1) .nil))) bZ (ak iB [(v3 0),(af bd (v3 0) (af b_ (af bd (v3 2) (c3 (.int 1))) (v3 1)))]) 2 [1]))
  (aw (aD [(ad Nk [(af aa (v3 0) (c3 (.int 0))),(v3 1)]),(aJ (aL (af aa (v3 0) (c3 (.int 1)))) (.n 0) bZ (af b_ (v3 1) (v3 0)) 1 [1]),(v3 2)])))
def d4:ay:=aT 3 (jk lp)
def lw(T:Txt P w K mg):Jc P w K mg base 3 "_law_many" 2 d4:=df ["_law_one","_law_many_here","_law_demand"] T.o__law_many (λ_ _ _ _ _ _ _ hr nd=>(ae (vm ["_law_many_here"] 2 [1] ["_law_a","_law_b","_law_many_here"] 2 nd (qL rfl rfl rfl T.Ma (by decide +kernel) (lc (aB hr (ab 0)) (l1 (aB hr (ab 0))))) (λ_=>(m5 rfl (aF (gn 0 Cd) (aF (gn 1 Cd) cq)))) (λ_=>bM) (λ_=>(cB (jY rfl) T.Mw (lc (ab 0) (l1 (az cg (ab 0) (az bc (az cg (ab 2) ah) (ab 1))))))))
  (aj (au (aC (lc (c4 (oS T) hr (lc (aB hr (ab 0)) (l1 (ab 1)))) (lc (oM ["_law_many_here"] 1 [1] ["_law_b","_law_many_here"] (bF (aB hr (ab 0))) (λ_=>(gn 0 Go)) (λ_=>bM) (λ_=>(az bc (ab 1) (ab 0)))) (l1 (ab 2))))))))) rfl
def ir(Kk Lp s0:ay):bv:=(ai (ap 3 (af b_ (bf [(c3 (.int 0))]) (ak bx [(v3 0)])))
  (ai (bm (aG (af (aS false) (af aa (v3 1) (c3 (.int 0))) (c3 (.str "pay")))) (aw (aD [(af aa (v3 1) (c3 (.int 1))),(v3 3),(v3 3)])) aO)
  (ai (bm (aG (af (aS false) (af aa (v3 1) (c3 (.int 0))) (c3 (.str "put")))) (aw (aD [(aD [(c3 (.int 0)),(c3 (.int 1))]),(aJ (aL (v3 0)) (.n 0) bZ (af b_ (af aa (v3 1) (c3 (.int 2))) (ak eW [(af (aS false) (v3 0) (af aa (v3 1) (c3 (.int 1))))])) 1 [1]),(v3 3)])) aO)
  (ai (bm (aG (af (aS false) (af aa (v3 1) (c3 (.int 0))) (c3 (.str "then")))) (aw (ad Kk [(ad s0 [(v3 0),(af aa (v3 1) (c3 (.int 1))),(af aa (v3 2) (c3 (.int 0)))]),(ad s0 [(v3 0),(af aa (v3 1) (c3 (.int 2))),(af aa (v3 2) (c3 (.int 1)))])])) aO)
  (ai (ap 4 (aD [(aD [(c3 (.int 0)),(c3 (.int 1))]),(v3 3),(v3 3)]))
  (ai (bm (aG (af (aS false) (af aa (v3 1) (c3 (.int 0))) (c3 (.str "often")))) (ai (bS (aL (v3 2)) (.tp (.cons (.n 5) (.cons (.n 6) .nil))) (ap 4 (ad Kk [(v3 4),(ad Lp [(ad s0 [(v3 0),(af aa (v3 1) (c3 (.int 1))),(v3 6)]),(v3 5)])])))
  (aw (v3 4))) aO)
  (ai (bm (eU (aG (af (aS false) (af aa (v3 1) (c3 (.int 0))) (c3 (.str "take")))) (aG (af (aS false) (af aa (v3 2) (c3 (.int 0))) (c3 (.int 0))))) (ai (ap 7 (aJ (aL (v3 0)) (.n 0) bZ (af b_ (af aa (v3 1) (c3 (.int 2))) (ak eW [(af (aS false) (v3 0) (af aa (v3 1) (c3 (.int 1))))])) 1 [1]))
  (ap 4 (aD [(aD [(c3 (.int 0)),(c3 (.int 1))]),(aJ (aL (v3 7)) (.n 0) bZ (af bd (c3 (.int 0)) (v3 0)) 1 []),(v3 7)]))) aO)
  (ai (bm (aG (af (aS false) (af aa (v3 1) (c3 (.int 0))) (c3 (.str "rest")))) (aw (v3 4)) aO)
  (aw (ad Kk [(v3 4),(ad s0 [(v3 0),(af aa (v3 1) (af bd (af aa (v3 2) (c3 (.int 0))) (c3 (.int 2)))),(af aa (v3 2) (c3 (.int 1)))])]))))))))))
noncomputable def eL:Nat->ay
 |0=>m8
 |n+1=>aT 8 (ir iq d4 (eL n))
def eM:ay:=eL 12
def oX(T:Txt P w K mg):Jc P w K mg base 15 "_law_tally" 3 eM:=jE (b:=3) (r:=eL) T.o__law_tally (λn R0=>df ["_law_names","_law_body_here","_law_trace_here","_law_none","_law_found","_law_many_here","_law_one","_law_out"] T.o__law_tally (λ_ _ _ _ _ _ _ hr nd=>(ae (s4 3 nd (az bc (bo (l1 ah)) (cB bK T.I_ (l1 (ab 0)))))
  (ae (aP (dg hr (aB hr (ab 1)) aq) (aj (au (aC (lc (aB hr (ab 1)) (lc (ab 3) (l1 (ab 3))))))) aE)
  (ae (aP (dg hr (aB hr (ab 1)) aq) (aj (au (aC (lc (aC (lc ah (l1 ah))) (lc (oM ["_law_body_here"] 1 [1] ["_law_name","_law_body_here"] (bF (ab 0)) (λ_=>(gn 0 Ce)) (λ_=>bM) (λ_=>(az bc (aB hr (ab 1)) (cT pI T.ML (l1 (de (iA (fF hr)) (ab 0) (aB hr (ab 1)) (aN _))))))) (l1 (ab 3))))))) aE)
  (ae (aP (dg hr (aB hr (ab 1)) aq) (aj (au (c4 (fP T) hr (lc (c4 R0 hr (lc (ab 0) (lc (aB hr (ab 1)) (l1 (aB hr (ab 2)))))) (l1 (c4 R0 hr (lc (ab 0) (lc (aB hr (ab 1)) (l1 (aB hr (ab 2))))))))))) aE)
  (ae (s4 4 nd (aC (lc (aC (lc ah (l1 ah))) (lc (ab 3) (l1 (ab 3))))))
  (ae (aP (dg hr (aB hr (ab 1)) aq) (ae (dy UP rfl (bF (ab 2)) (m5 rfl (aF (gn 5 nd) (aF (gn 6 nd) cq))) (aj (s4 4 nd (c4 (fP T) hr (lc (ab 4) (l1 (c4 (lw T) hr (lc (c4 R0 hr (lc (ab 0) (lc (aB hr (ab 1)) (l1 (ab 6))))) (l1 (ab 5))))))))))
  (aj (au (ab 4)))) aE)
  (ae (aP (nG (jL (dg hr (aB hr (ab 1)) aq) (gP (dg hr (aB hr (ab 2)) ah)))) (ae (vm ["_law_body_here"] 1 [1] ["_law_name","_law_body_here"] 7 nd (bF (ab 0)) (λ_=>(gn 0 Ce)) (λ_=>bM) (λ_=>(az bc (aB hr (ab 1)) (cT pI T.ML (l1 (de (iA (fF hr)) (ab 0) (aB hr (ab 1)) (aN _)))))))
  (aj (s4 4 nd (aC (lc (aC (lc ah (l1 ah))) (lc (oM [] 1 [] ["_law_one"] (bF (ab 7)) (λ_=>(gn 0 zg)) (λ_=>bM) (λ_=>(az cg ah (ab 0)))) (l1 (ab 7)))))))) aE)
  (ae (aP (dg hr (aB hr (ab 1)) aq) (aj (au (ab 4))) aE)
  (aj (au (c4 (fP T) hr (lc (ab 4) (l1 (c4 R0 hr (lc (ab 0) (lc (cM hr (ab 1) (az cg (aB hr (ab 2)) ah)) (l1 (aB hr (ab 2)))))))))))))))))))) rfl) rfl rfl 12
def ck(Jv Kl s0:ay):bv:=(ai (bm (cI (aG (ak kJ [(v3 1),(c3 (.ty "tuple"))]))) (aw (c3 (.bl false))) aO)
  (ai (bS (aL (v3 1)) (.n 2) (ai (bm (iy (cI (aG (ak kJ [(v3 2),(c3 (.ty "tuple"))]))) (iy (aG (af (aS true) (ak bx [(v3 2)]) (c3 (.int 3)))) (cI (aG (ad Jv [(af aa (v3 2) (c3 (.int 1)))]))))) (aw (c3 (.bl false))) aO)
  (bm (aG (af (aS false) (af aa (v3 2) (c3 (.int 0))) (c3 (.str "again")))) (bm (iy (aG (af lO (af aa (v3 2) (c3 (.int 1))) (c3 (.int 1)))) (iy (aG (af (aS false) (af aa (v3 2) (c3 (.int 2))) (aD []))) (cI (aG (ad s0 [(v3 0),(af aa (v3 2) (c3 (.int 2)))]))))) (aw (c3 (.bl false))) aO) (bm (iy (aG (af (aS true) (af aa (v3 2) (c3 (.int 0))) (c3 (.str "do")))) (cI (aG (qC EQ lO (c3 (.int 0)) (af aa (v3 2) (c3 (.int 1))) (ak bx [(af aa (v3 0) (c3 (.int 1)))]))))) (aw (c3 (.bl false))) (bm (cI (aG (ad Kl [(af aa (af aa (af aa (v3 0) (c3 (.int 1))) (af aa (v3 2) (c3 (.int 1)))) (c3 (.int 1))),(af aa (v3 2) (c3 (.int 2))),(bf [])]))) (aw (c3 (.bl false))) aO)))))
  (aw (c3 (.bl true)))))
noncomputable def bI:Nat->ay
 |0=>m8
 |n+1=>aT 3 (ck bP cx (bI n))
def eu:ay:=bI 12
def mx(T:Txt P w K mg):Jc P w K mg base 25 "_law_is_story" 2 eu:=jE (b:=13) (r:=bI) T.o__law_is_story (λn R0=>df ["_law_house_here","_law_story","_law_piece"] T.o__law_is_story (λ_ _ _ _ _ _ _ hr nd=>(ae (aP (eV (cL (cB pJ T.Jk (lc (ab 1) (l1 (ER T.IP)))))) (aj (au iG)) aE)
  (ae (dy UP rfl (bF (ab 1)) (gn 2 nd) (ae (aP (nG (gw (eV (cL (cB pJ T.Jk (lc (ab 2) (l1 (ER T.IP)))))) (gw (B7 hr (cB bK T.I_ (l1 (ab 2))) ah) (fB (eV (cL (c4 (fy T) hr (l1 (aB hr (ab 2)))))))))) (aj (au iG)) aE)
  (aj (aP (dg hr (aB hr (ab 2)) aq) (aj (aP (nG (gw (bh j6 (aB hr (ab 2)) ah (aN _)) (gw (dg hr (aB hr (ab 2)) (aC cK)) (fB (eV (cL (c4 R0 hr (lc (ab 0) (l1 (aB hr (ab 2))))))))))) (aj (au iG)) aE)) (aj (aP (nG (gw (B7 hr (aB hr (ab 2)) aq) (fB (eV (A0 Hs j6 ah (aB hr (ab 2)) (cB bK T.I_ (l1 (aB hr (ab 0))))))))) (aj (au iG)) (aj (aP (eV (cL (c4 (iF T) hr (lc (aB hr (cM hr (aB hr (ab 0)) (aB hr (ab 2)))) (lc (aB hr (ab 2)) (l1 (bo cK))))))) (aj (au iG)) aE))))))))
  (aj (au iG))))) rfl) rfl rfl 12
def bD(Nl Lp Kk s0:ay):bv:=(ai (ap 2 (aD [(aD [(c3 (.int 0)),(c3 (.int 1))]),(af b_ (bf [(c3 (.int 0))]) (ak bx [(af aa (v3 0) (c3 (.int 0)))])),(af b_ (bf [(c3 (.int 0))]) (ak bx [(af aa (v3 0) (c3 (.int 0)))]))]))
  (ai (ap 3 (af b_ (bf [(c3 (.int 0))]) (ak bx [(af aa (v3 0) (c3 (.int 1)))])))
  (ai (bS (aL (v3 1)) (.tp (.cons (.n 4) (.cons (.n 5) (.cons (.n 6) .nil)))) (ai (bm (aG (af (aS false) (v3 4) (c3 (.str "do")))) (ai (ap 7 (ad Nl [(af aa (v3 0) (c3 (.int 0))),(af aa (af aa (af aa (v3 0) (c3 (.int 1))) (v3 5)) (c3 (.int 1))),(v3 6)]))
  (fT (af aR (af aa (v3 3) (v3 5)) (c3 (.int 1))) (v3 3) (v3 5))) (ai (sw (ad s0 [(v3 0),(v3 6)]) (.tp (.cons (.n 7) (.cons (.n 8) .nil))))
  (ai (ap 7 (ad Lp [(v3 7),(v3 5)]))
  (ap 3 (aJ (kO (v3 3) (v3 8)) (.tp (.cons (.n 0) (.cons (.n 1) .nil))) bZ (af aR (v3 0) (af b_ (v3 2) (v3 1))) 2 [5])))))
  (ap 2 (ad Kk [(v3 2),(v3 7)]))))
  (aw (aD [(v3 2),(v3 3)])))))
noncomputable def bn:Nat->ay
 |0=>m8
 |n+1=>aT 9 (bD eM d4 iq (bn n))
def cZ:ay:=bn 12
def jH(T:Txt P w K mg):Jc P w K mg base 27 "_law_story_tally" 2 cZ:=jE (b:=15) (r:=bn) T.o__law_story_tally (λn R0=>df ["_law_house_here","_law_story","_law_found","_law_counts","_law_word","_law_number_here","_law_thing","_law_one","_law_more"] T.o__law_story_tally (λ_ _ _ _ _ _ _ hr nd=>(ae (s4 2 nd (aC (lc (aC (lc ah (l1 ah))) (lc (az bc (bo (l1 ah)) (cB bK T.I_ (l1 (aB hr (ab 0))))) (l1 (az bc (bo (l1 ah)) (cB bK T.I_ (l1 (aB hr (ab 0))))))))))
  (ae (s4 3 nd (az bc (bo (l1 ah)) (cB bK T.I_ (l1 (aB hr (ab 0))))))
  (ae (dy UP rfl (bF (ab 1)) (m5 rfl (aF (gn 4 nd) (aF (gn 5 nd) (aF (gn 6 nd) cq)))) (ae (aP (dg hr (ab 4) aq) (ae (s4 7 nd (c4 (oX T) hr (lc (aB hr (ab 0)) (lc (aB hr (cM hr (aB hr (ab 0)) (ab 5))) (l1 (ab 6))))))
  (aj (iO (vi hr) (az aH (cM hr (ab 3) (ab 5)) ah) (ab 3) (ab 5)))) (ae (B3 (c4 R0 hr (lc (ab 0) (l1 (ab 6)))) (m5 rfl (aF (gn 7 nd) (aF (gn 8 nd) cq))))
  (ae (s4 7 nd (c4 (lw T) hr (lc (ab 7) (l1 (ab 5)))))
  (aj (vm ["_law_number_here"] 2 [5] ["_law_a","_law_b","_law_number_here"] 3 nd (qL rfl rfl rfl T.Ma (by decide +kernel) (lc (ab 3) (l1 (ab 8)))) (λ_=>(m5 rfl (aF (gn 0 Cf) (aF (gn 1 Cf) cq)))) (λ_=>bM) (λ_=>(az aH (ab 0) (az bc (ab 2) (ab 1)))))))))
  (aj (s4 2 nd (c4 (fP T) hr (lc (ab 2) (l1 (ab 7))))))))
  (aj (au (aC (lc (ab 2) (l1 (ab 3)))))))))) rfl) rfl rfl 12
def iu:ay:=aT 10 (C.gX dC w__law_draw dr)
def oY(T:Txt P w K mg):Jc P w K mg base 4 "_law_chain" 1 iu:=df ["_law_deal_here","_law_words_here","_law_left","_law_jars","_law_jar","_law_order","_law_bodies","_law_k","_law_body_here","_law_more"] T.o__law_chain (λ_ _ _ _ _ _ _ hr nd=>(ae (s4 1 nd (c4 (f_ T) hr (lc (ab 0) (l1 ah))))
  (ae (s4 2 nd (eF (ab 1) iM (fS (az aH ah (c4 (ao T) hr (lc (ab 0) (l1 ah)))))))
  (ae (s4 3 nd (cT bL T.IP (l1 (ab 2))))
  (ae (vm ["_law_left","_law_deal_here"] 1 [0,2] ["_law_jar","_law_deal_here","_law_left"] 5 nd (bF (ab 3)) (λ_=>(gn 0 Gp)) (λ_=>bM) (λ_=>(tO yN BZ (ab 2) (l1 (c4 (ao T) hr (lc (ab 1) (l1 (cB bK T.I_ (l1 (ab 2))))))))))
  (ae (s4 6 nd (bo cK))
  (ae (dy UP rfl (lN rfl rfl T.JE (by decide +kernel) (l1 (ab 5))) (m5 rfl (aF (gn 7 nd) (aF (gn 4 nd) cq))) (ae (s4 8 nd (aC (lc aq (lc (ab 4) (l1 (az aH ah (c4 (ao T) hr (lc (ab 0) (l1 ah)))))))))
  (ae (aP (nG (gw (bh mR (ab 7) ah (aN _)) (fB (dg hr (c4 (ao T) hr (lc (ab 0) (l1 ah))) ah)))) (aj (s4 8 nd (aC (lc aq (lc (cM hr (ab 5) (az cg (ab 7) ah)) (lc (az aH ah (c4 (ao T) hr (lc (ab 0) (l1 ah)))) (lc (ab 8) (l1 (c4 (cF T) hr (lc (ab 0) (l1 (bo cK)))))))))))) aE)
  (ae (s4 9 nd (bo (lc (aC (lc aq (lc (c4 (cF T) hr (lc (ab 0) (l1 (bo cK)))) (l1 (ab 8))))) (lc (aC (lc aq (l1 (ab 8)))) (l1 (aC (lc aq (lc (c4 (cF T) hr (lc (ab 0) (l1 (bo cK)))) (l1 (ab 8))))))))))
  (aj (cn (tO wF yG (ab 6) (lc (c4 (ao T) hr (lc (ab 0) (l1 (az aH (cB bK T.I_ (l1 (ab 6))) ah)))) (l1 (cM hr (bo (lc (ab 8) (lc (aB hr (ab 9)) (lc (aB hr (ab 9)) (l1 (aB hr (ab 9))))))) (c4 (ao T) hr (lc (ab 0) (l1 ah)))))))))))))
  (aj (au (aC (lc (ab 3) (l1 (cT bL T.IP (l1 (oM ["_law_words_here"] 2 [1] ["_law_k","_law_body_here","_law_words_here"] (lN rfl rfl T.JE (by decide +kernel) (l1 (ab 6))) (λ_=>(m5 rfl (aF (gn 0 Cg) (aF (gn 1 Cg) cq)))) (λ_=>bM) (λ_=>(aC (lc (cM hr (ab 2) (az aH ah (ab 0))) (l1 (ab 1)))))))))))))))))))) rfl
def iw(Mx s0:ay):bv:=(ai (bm (aG (af (aS false) (af aa (v3 0) (c3 (.int 0))) (c3 (.str "rest")))) (aw (bf [])) aO)
  (ai (bm (aG (af (aS false) (af aa (v3 0) (c3 (.int 0))) (c3 (.str "then")))) (ai (ap 3 (ad Mx [(af aa (v3 0) (c3 (.int 1))),(v3 2),(bf []),(c3 (.bl false)),(bf [])]))
  (aw (af aR (ad s0 [(af aa (v3 0) (c3 (.int 1))),(af aa (v3 1) (c3 (.int 0))),(v3 2)]) (ad s0 [(af aa (v3 0) (c3 (.int 2))),(af aa (v3 1) (c3 (.int 1))),(v3 3)])))) aO)
  (ai (ap 4 (bf [(v3 2)]))
  (ai (bm (aG (af (aS false) (af aa (v3 0) (c3 (.int 0))) (c3 (.str "often")))) (bS (aL (v3 1)) (.tp (.cons (.n 5) (.cons (.n 6) .nil))) (bg (jp "list" bT (v3 4) [(ad s0 [(af aa (v3 0) (c3 (.int 1))),(v3 6),(af aR (v3 2) (c3 (.int 1)))])]))) aO)
  (ai (bm (iy (aG (af (aS false) (af aa (v3 0) (c3 (.int 0))) (c3 (.str "either")))) (aG (af (aS false) (af aa (v3 0) (c3 (.int 0))) (c3 (.str "take"))))) (ai (ap 7 (af aa (bf [(af aR (v3 2) (c3 (.int 1))),(ad Mx [(af aa (v3 0) (mQ d5 (c3 (.int 2)))),(af aR (v3 2) (c3 (.int 1))),(bf []),(c3 (.bl false)),(bf [])])]) (af aa (v3 1) (c3 (.int 0)))))
  (bg (jp "list" bT (v3 4) [(ad s0 [(af aa (v3 0) (af bd (af aa (v3 1) (c3 (.int 0))) (c3 (.int 2)))),(af aa (v3 1) (c3 (.int 1))),(v3 7)])]))) aO)
  (aw (v3 4)))))))
noncomputable def eN:Nat->ay
 |0=>m8
 |n+1=>aT 8 (iw mO (eN n))
def lx:ay:=eN 12
def oZ(T:Txt P w K mg):Jc P w K mg base 24 "_law_visit" 3 lx:=jE (b:=12) (r:=eN) T.o__law_visit (λn R0=>df ["_law_body_here","_law_trace_here","_law_at","_law_after","_law_found","_law_many_here","_law_one","_law_place"] T.o__law_visit (λ_ _ _ _ _ _ _ hr nd=>(ae (aP (dg hr (aB hr (ab 0)) aq) (aj (au (bo cK))) aE)
  (ae (aP (dg hr (aB hr (ab 0)) aq) (ae (s4 3 nd (c4 (lv T) hr (lc (aB hr (ab 0)) (lc (ab 2) (lc (bo cK) (lc iG (l1 (bo cK))))))))
  (aj (au (az aH (c4 R0 hr (lc (aB hr (ab 0)) (lc (aB hr (ab 1)) (l1 (ab 2))))) (c4 R0 hr (lc (aB hr (ab 0)) (lc (aB hr (ab 1)) (l1 (ab 3))))))))) aE)
  (ae (s4 4 nd (bo (l1 (ab 2))))
  (ae (aP (dg hr (aB hr (ab 0)) aq) (aj (dy UP rfl (bF (ab 1)) (m5 rfl (aF (gn 5 nd) (aF (gn 6 nd) cq))) (aj (cn (tO gB iN (ab 4) (l1 (c4 R0 hr (lc (aB hr (ab 0)) (lc (ab 6) (l1 (az aH (ab 2) ah))))))))))) aE)
  (ae (aP (nG (gw (dg hr (aB hr (ab 0)) aq) (fB (dg hr (aB hr (ab 0)) aq)))) (ae (s4 7 nd (cM hr (bo (lc (az aH (ab 2) ah) (l1 (c4 (lv T) hr (lc (cM hr (ab 0) (jX cV ah)) (lc (az aH (ab 2) ah) (lc (bo cK) (lc iG (l1 (bo cK)))))))))) (aB hr (ab 1))))
  (aj (cn (tO gB iN (ab 4) (l1 (c4 R0 hr (lc (cM hr (ab 0) (az cg (aB hr (ab 1)) ah)) (lc (aB hr (ab 1)) (l1 (ab 7)))))))))) aE)
  (aj (au (ab 4))))))))) rfl) rfl rfl 12
def dE(IH Nm Nn JI Li:ay):bv:=(ai (ap 1 (ad IH [(v3 0),(c3 (.int 4))]))
  (ai (bm (aG (af (aS false) (v3 1) (c3 (.int 0)))) (aw (ad Nm [(v3 0)])) aO)
  (ai (bm (aG (af (aS false) (v3 1) (c3 (.int 1)))) (aw (ad Nn [(v3 0),(c3 (.int 4)),(c3 (.int 4)),(c3 (.int 20))])) aO)
  (ai (ap 2 (ad JI [(v3 0),(c3 (.int 8))]))
  (ai (ap 3 (ak aW [(cW (v3 2) vd (tN (ad IH [(v3 0),(c3 (.int 5))])))]))
  (ai (ap 4 (af aa (bf [(c3 (.int 0)),(c3 (.int 4))]) (ad IH [(v3 0),(c3 (.int 2))])))
  (ai (ap 5 (af aR (c3 (.int 1)) (ad IH [(v3 0),(c3 (.int 4))])))
  (aw (aD [(v3 3),(ak aW [(aJ (iQ (v3 5)) (.n 0) bZ (aD [(af aa (v3 4) (af aR (v3 2) (v3 0))),(ad Li [(v3 1),(v3 3),(bf [(c3 (.int 19))]),(c3 (.int 5))])]) 1 [0,4,3,2])])])))))))))
def dF:ay:=aT 6 (dE w__law_draw iu im dC jj)
def kz(T:Txt P w K mg):Jc P w K mg base 27 "_law_wide_house" 1 dF:=df ["_law_deal_here","_law_form","_law_words_here","_law_jars","_law_first","_law_many_here"] T.o__law_wide_house (λ_ _ _ _ _ _ _ hr nd=>(ae (s4 1 nd (c4 (ao T) hr (lc (ab 0) (l1 ah))))
  (ae (aP (dg hr (ab 1) ah) (aj (au (c4 (oY T) hr (l1 (ab 0))))) aE)
  (ae (aP (dg hr (ab 1) ah) (aj (au (c4 (oU T) hr (lc (ab 0) (lc ah (lc ah (l1 ah))))))) aE)
  (ae (s4 2 nd (c4 (f_ T) hr (lc (ab 0) (l1 ah))))
  (ae (s4 3 nd (cT bL T.IP (l1 (eF (ab 2) iM (fS (c4 (ao T) hr (lc (ab 0) (l1 ah))))))))
  (ae (s4 4 nd (cM hr (bo (lc ah (l1 ah))) (c4 (ao T) hr (lc (ab 0) (l1 ah)))))
  (ae (s4 5 nd (az aH ah (c4 (ao T) hr (lc (ab 0) (l1 ah)))))
  (aj (au (aC (lc (ab 3) (l1 (cT bL T.IP (l1 (oM ["_law_words_here","_law_jars","_law_first","_law_deal_here"] 1 [0,4,3,2] ["_law_k","_law_deal_here","_law_first","_law_jars","_law_words_here"] (dv rfl rfl T.Kb (l1 (ab 5))) (λ_=>(gn 0 Gq)) (λ_=>bM) (λ_=>(aC (lc (cM hr (ab 4) (az aH (ab 2) (ab 0))) (l1 (c4 (lq T) hr (lc (ab 1) (lc (ab 3) (lc (bo (l1 ah)) (l1 ah))))))))))))))))))))))))) rfl
def gf(Kl No NE Np:ay):bv:=(ai (ap 5 (af aa (af aa (af aa (v3 0) (c3 (.int 1))) (v3 1)) (c3 (.int 1))))
  (ai (ap 6 (bf []))
  (ai (bm (cI (aG (ad Kl [(v3 5),(v3 2),(v3 6)]))) (aw (c3 (.bl false))) aO)
  (ai (bm (aG (af m6 (ak bx [(aJ (aL (v3 6)) (.tp (.cons (.n 0) (.cons (.n 1) .nil))) (eU (aG (af lO (v3 1) (c3 (.int 0)))) (aG (af (jN true) (v3 0) (v3 2)))) (v3 0) 2 [3])]) (c3 (.int 0)))) (ai (ap 7 (ad No [(v3 0),(aJ (aL (af aa (v3 0) (c3 (.int 0)))) (.n 0) bZ (af b_ (af uo (c3 (.int 10)) (c3 (.int 6))) (ak eW [(af (jN false) (v3 0) (v3 1))])) 1 [3])]))
  (ai (bg (ad NE [(v3 5),(v3 2),(v3 7)]))
  (aw (af aa (v3 7) (c3 (.str "stuck")))))) aO)
  (ai (bm (aG (af m6 (ak bx [(aJ (aL (v3 6)) (.tp (.cons (.n 0) (.cons (.n 1) .nil))) (eU (aG (af m6 (v3 1) (c3 (.int 0)))) (aG (af (jN true) (v3 0) (v3 2)))) (v3 0) 2 [3])]) (c3 (.int 0)))) (aw (c3 (.bl false))) aO)
  (aw (ak AN [(aJ (aL (ad Np [(v3 5),(v3 2),(c3 (.int 0))])) (.n 0) bZ (af (jN false) (v3 0) (af aa (v3 2) (v3 1))) 1 [1,4])])))))))
def gg:ay:=aT 8 (gf cx ls mN lx)
def oD(T:Txt P w K mg):Jc P w K mg base 25 "_law_within" 5 gg:=df ["_law_house_here","_law_d","_law_trace_here","_law_jars","_law_rows","_law_body_here","_law_moves","_law_world_here"] T.o__law_within (λ_ _ _ _ _ _ _ hr nd=>(ae (s4 5 nd (aB hr (cM hr (aB hr (ab 0)) (ab 1))))
  (ae (s4 6 nd (bo cK))
  (ae (aP (eV (cL (c4 (iF T) hr (lc (ab 5) (lc (ab 2) (l1 (ab 6))))))) (aj (au iG)) aE)
  (ae (aP (bh mR (cB bK T.I_ (l1 (oM ["_law_jars"] 2 [3] ["_law_jar","_law_many_here","_law_jars"] (bF (ab 6)) (λ_=>(m5 rfl (aF (gn 0 vC) (aF (gn 1 vC) cq)))) (λ_=>(nM (nG (jL (bh j6 (ab 1) ah (aN _)) (gP (bh (gx (eC hr)) (ab 0) (ab 2) rfl)))))) (λ_=>(ab 0))))) ah (aN _)) (ae (s4 7 nd (c4 (oW T) hr (lc (ab 0) (l1 (oM ["_law_jars"] 1 [3] ["_law_jar","_law_jars"] (bF (aB hr (ab 0))) (λ_=>(gn 0 Ch)) (λ_=>bM) (λ_=>(az bc (az B6 ah ah) (cT pI T.ML (l1 (de (jO (eC hr)) (ab 0) (ab 1) rfl))))))))))
  (ae (cn (c4 (rJ T) hr (lc (ab 5) (lc (ab 2) (l1 (ab 7))))))
  (aj (au (cM hr (ab 7) aq))))) aE)
  (ae (aP (bh mR (cB bK T.I_ (l1 (oM ["_law_jars"] 2 [3] ["_law_jar","_law_many_here","_law_jars"] (bF (ab 6)) (λ_=>(m5 rfl (aF (gn 0 vC) (aF (gn 1 vC) cq)))) (λ_=>(nM (nG (jL (bh mR (ab 1) ah (aN _)) (gP (bh (gx (eC hr)) (ab 0) (ab 2) rfl)))))) (λ_=>(ab 0))))) ah (aN _)) (aj (au iG)) aE)
  (aj (au (cB (FP rfl) T.Qw (l1 (oM ["_law_rows","_law_d"] 1 [1,4] ["_law_row","_law_d","_law_rows"] (bF (c4 (oZ T) hr (lc (ab 5) (lc (ab 2) (l1 ah))))) (λ_=>(gn 0 Gr)) (λ_=>bM) (λ_=>(de (jO (eC hr)) (ab 0) (cM hr (ab 2) (ab 1)) rfl))))))))))))) rfl
def gh(LN:ay):bv:=(ai (sw (ad LN [(v3 0),(v3 1)]) (.tp (.cons (.tp (.cons (.n 3) (.cons (.n 4) (.cons (.n 5) .nil)))) (.cons (.n 6) .nil))))
  (ai (ap 7 (aJ (kO (v3 4) (af aa (v3 0) (c3 (.int 0)))) (.tp (.cons (.n 0) (.cons (.n 1) .nil))) (eU (aG (af (jN false) (v3 1) (v3 2))) (aG (af lO (v3 0) (c3 (.int 1))))) (v3 1) 2 [2]))
  (aw (cw (af (aS false) (ak vn [(af aR (bf [(c3 (.int 0))]) (v3 5))]) (c3 (.int 0))) (af (aS false) (ak bx [(v3 7)]) (c3 (.int 0)))))))
def jT:ay:=aT 8 (gh cZ)
def oE(T:Txt P w K mg):Jc P w K mg base 28 "_law_brings" 3 jT:=df ["_law_house_here","_law_story","_law_jars","_law_cost_here","_law_effect","_law_demand","_law_counts","_law_lacking"] T.o__law_brings (λ_ _ _ _ _ _ _ hr nd=>(ae (B3 (c4 (jH T) hr (lc (ab 0) (l1 (ab 1)))) (m5 rfl (aF (m5 rfl (aF (gn 3 nd) (aF (gn 4 nd) (aF (gn 5 nd) cq)))) (aF (gn 6 nd) cq))))
  (ae (vm ["_law_jars"] 2 [2] ["_law_one","_law_jar","_law_jars"] 7 nd (qL rfl rfl rfl T.Ma (by decide +kernel) (lc (ab 4) (l1 (aB hr (ab 0))))) (λ_=>(m5 rfl (aF (gn 0 Ci) (aF (gn 1 Ci) cq)))) (λ_=>(nM (nG (jL (bh (jO (eC hr)) (ab 1) (ab 2) rfl) (gP (bh j6 (ab 0) ah (aN _))))))) (λ_=>(ab 1)))
  (aj (au (nI (de (iA (fF hr)) (cB (DO rfl) T.Mw (l1 (az aH (bo (l1 ah)) (ab 5)))) ah (aN _)) (nH (de (iA (fF hr)) (cB bK T.I_ (l1 (ab 7))) ah (aN _))))))))) rfl
def zk(NF Mb KO OG MA MX MO IH MY Nq:ay):bv:=(ai (ap 1 (ad NF [(v3 0),(c3 (.int 0))]))
  (ai (ap 2 (ad Mb [(v3 1)]))
  (ai (ap 3 (aJ (aL (ad KO [(v3 2)])) (.n 0) bZ (af aa (af aa (v3 1) (c3 (.int 0))) (af aa (v3 0) (c3 (.int 0)))) 1 [2]))
  (ai (ap 4 (ad OG [(v3 2),(ak aW [(aJ (aL (af aa (v3 2) (c3 (.int 0)))) (.n 0) bZ (ak eW [(af (jN false) (v3 0) (v3 1))]) 1 [3])])]))
  (ai (bm (iy (cI (aG (ad MA [(v3 2),(v3 4)]))) (cI (aG (ad MX [(v3 2),(v3 4),(v3 3)])))) (aw (c3 (.bl false))) aO)
  (ai (ap 5 (ad MO [(v3 2)]))
  (ai (bS (iQ (c3 (.int 12))) (.n 6) (ai (ap 7 (ad IH [(v3 1),(ak bx [(af aa (v3 2) (c3 (.int 1)))])]))
  (bm (cI (aG (ad MY [(v3 2),(v3 7),(ad Nq [(v3 1),(af aa (af aa (af aa (v3 2) (c3 (.int 1))) (v3 7)) (c3 (.int 1))),(bf [(c3 (.int 8))])]),(v3 3),(v3 5)]))) (aw (c3 (.bl false))) aO)))
  (aw (c3 (.bl true))))))))))
def tq:ay:=aT 8 (zk mM dF gH oC eu jT fq w__law_draw gg io)
def Em(T:Txt P w K mg){f:Addr}{fd:FuncData}(O:GM K mg "law" (a_ 77) ["_law_script"] f fd):OO P w K mg base 33 f fd ["_law_script"] tq:=Ix ["_law_script","_law_deal_here","_law_house_here","_law_jars","_law_story","_law_rows","_law_turn","_law_d"] O (λ_ _ _ _ _ _ _ hr nd=>(ae (s4 1 nd (c4 (rG T) hr (lc (ab 0) (l1 ah))))
  (ae (s4 2 nd (c4 (kz T) hr (l1 (ab 1))))
  (ae (s4 3 nd (oM ["_law_house_here"] 1 [2] ["_law_row","_law_house_here"] (bF (c4 (ko T) hr (l1 (ab 2)))) (λ_=>(gn 0 Gs)) (λ_=>bM) (λ_=>(cM hr (aB hr (ab 1)) (aB hr (ab 0))))))
  (ae (s4 4 nd (c4 (wZ T) hr (lc (ab 2) (l1 (cT bL T.IP (l1 (oM ["_law_jars"] 1 [3] ["_law_jar","_law_jars"] (bF (aB hr (ab 2))) (λ_=>(gn 0 Ch)) (λ_=>bM) (λ_=>(cT pI T.ML (l1 (de (jO (eC hr)) (ab 0) (ab 1) rfl)))))))))))
  (ae (aP (nG (gw (eV (cL (c4 (mx T) hr (lc (ab 2) (l1 (ab 4)))))) (fB (eV (cL (c4 (oE T) hr (lc (ab 2) (lc (ab 4) (l1 (ab 3)))))))))) (aj (au iG)) aE)
  (ae (s4 5 nd (c4 (mV T) hr (l1 (ab 2))))
  (ae (dy UP rfl (dv rfl rfl T.Kb (l1 ah)) (gn 6 nd) (ae (s4 7 nd (c4 (ao T) hr (lc (ab 1) (l1 (cB bK T.I_ (l1 (aB hr (ab 2))))))))
  (aj (aP (eV (cL (c4 (oD T) hr (lc (ab 2) (lc (ab 7) (lc (c4 (oV T) hr (lc (ab 1) (lc (aB hr (cM hr (aB hr (ab 2)) (ab 7))) (l1 (bo (l1 ah)))))) (lc (ab 3) (l1 (ab 5))))))))) (aj (au iG)) aE))))
  (aj (au iG)))))))))) rfl
end
end G29
namespace G29
open PySem L2 L3 Wd
open C
abbrev kA(w:ay):Prop:=∀{S:aA}{d l:Addr}{Q:bB}{E:bR},IR S d l->(∀js ds S',HG js ds->1<=ds.length->js.length<=4->js.Nodup->IR S' d l->JF d l S S'->Q (bV js ds) S')->w [.ref d] S Q E
def Bj{x0 x1 x2 x3 x4:ay}(IJ:b8 x0)(OH:kn x1)(OI:jc x2)(Kj:gC x3)(n:Nat)(hn6:6<=n)(L_:i5 n x4):kA (aT 6 (dE x0 x1 x2 x3 x4)):=by
 intro Sa d l Q E Da k;unfold dE;refine cY ?_;rw[show ax 6 [PV.ref d]=[some (.ref d),none,none,none,none,none] from rfl];walk_at "3";walk_at "x";refine IJ Da (by decide) (by decide) λr9 S0 _ _ D0 Oa=>?_;walk_at "0";walk_at "x";simp only[Uu,Us]
 split
 .exact OH D0 λjs ds S' h h1 h2 h3 D' O'=>k js ds S' h h1 h2 h3 D' (Oa.trans O')
 walk_at "0";walk_at "x";simp only[Uu,Us]
 split
 .exact OI (most:=4) (many:=4) (size:=20) D0 (by decide) (by decide) (by decide) (by decide) (by decide) λjs ds S2 h h1 h4 hj QS D2 O2=>k js ds S2 ⟨λz hz=>lU (h.jw z hz),by omega,by omega,h.gd,h.dq,h.sz⟩ h1 QS h.jn D2 (Oa.trans O2)
 walk_at "0";walk_at "x";refine Kj D0 (by decide) (by decide) λp ns S hl hnd hw0 _ Ni hpl hp D O0=>?_;have hl8':ns.length=8:=hl;have hw:∀z∈ns,M8 z:=λz hz=>(hw0 z hz).1;walk_at "0";walk_at "x";refine IJ (m:=5) D (by omega) (by omega) λr S1 r0 r1 D1 O1=>?_;obtain⟨j,rfl⟩:∃j:Nat,r=(j:Int):=⟨r.toNat,by omega⟩
 have hp1:=O1 _ _ hp Ni hpl;rw[hp1];dsimp only;rw[ux (by rw[Ul];omega),<-XR];intro p2 hp2;rw[ac];dsimp only;have D2:IR (II S1 p2 (.lst ((ns.take j).map PV.str))) d l:=D1.new hp2;have hp2':=JF.new (o:=.lst ((ns.take j).map PV.str)) hp2 _ _ hp1 Ni hpl;have Pq:JF d l Sa (II S1 p2 (.lst ((ns.take j).map PV.str))):=Oa.trans (O0.trans (O1.trans (.new hp2)));generalize II S1 p2 (.lst ((ns.take j).map PV.str))=S2 at D2 hp2' Pq;walk_at "0";walk_at "x";intro p3 hp3;have Qt:=D2.free hp3;refine IJ (D2.new hp3) (by decide) (by decide) λf S3 f0 f1 D3 O3=>?_;have e3:=O3 _ _ (ac (S:=S2) (o:=.lst [.int 0,.int 4])) Qt.1 Qt.2;have PZ:=O3 _ _ (JF.new hp3 _ _ hp2' Ni hpl) Ni hpl;simp only[e3];obtain⟨v,hv,Qu⟩:=gZ (xs:=[PV.int 0,.int 4]) f0 (by simpa using f1);rw[hv];obtain⟨g,rfl,hg⟩:∃g:Nat,v = .int g/\g<=4:=by
  simp only[Uv,UK,Vp]at Qu;rcases Qu with rfl|rfl
  .exact⟨0,rfl,by omega⟩
  .exact⟨4,rfl,by omega⟩
 walk_at "0";walk_at "x";refine IJ (m:=4) D3 (by omega) (by omega) λr4 S4 a0 a1 D4 O4=>?_;obtain⟨mm,em⟩:∃mm:Nat,1+r4=(mm:Int):=⟨(1+r4).toNat,by omega⟩
 dsimp only;rw[em];have Om:=O4 _ _ PZ Ni hpl;refine hN _ _ ?_;walk_at "x";refine⟨by omega,by omega,?_⟩;rw[Vk];have hjl:(ns.take j).length<=8:=by rw[Vi];omega
 refine e_ (λdone ys S'=>∃ds:List (Str×Bd),ys=ds.map fX/\ds.length=done.length/\done.length<=mm/\(∀q∈ds,q.2.good (ns.take j) []/\q.2.dep<=6/\q.2.size<=60)/\IR S' d l/\JF d l S4 S') ⟨[],rfl,rfl,UT _,by simp,D4,.refl⟩ ?_ ?_ ?_
 .rintro done ys S' ⟨ds,rfl,e,hd,_⟩;exact⟨trivial,bA (by rw[Ul,e];omega)⟩
 .rintro done x rest ys S' K e ⟨ds,rfl,e2,hd,hc,D',O'⟩ hK;obtain⟨rfl,hi⟩:=qN e;walk_at "x"
  try simp only[bZ,U6]
  have hp':=O' _ _ Om Ni hpl;simp only[hp'];have hlt:g+done.length < ns.length:=by omega
  have hat:JU (ns.map PV.str) ((g:Int)+(done.length:Int))=some (.str ns[g+done.length]):=by
   have:((g:Int)+(done.length:Int))=((g+done.length:Nat):Int):=by omega
   rw[this];exact qO (by rw[Ut,Uq hlt];rfl)
  rw[hat];dsimp only;intro px hx;have dx:=D'.free hx;refine L_ (D'.new hx) ac dx.1 dx.2 (by omega) (by omega) (by omega) (by decide) (by omega) λt S5 l1 tg td q0 q1 D5 hx5 O5=>?_;have RL:JF d l S' S5:=λa o ha h1 h2=>O5 a o (by rw[ar (λe=>by rw[e,hx]at ha;cases ha)];exact ha) h1 h2 (λe=>by rw[e,hx]at ha;cases ha);refine hK _ _ ⟨ds++[(ns[g+done.length],t)],by simp[fX],by simp[e2],by rw[Um];exact hi,λy hy=>?_,D5,O'.trans RL⟩;rcases Ur.mp hy with hy|hy
  .exact hc y hy
  .rw[Uy.mp hy];exact⟨tg,show t.dep<=6 by omega,show t.size<=60 by omega⟩
 rintro ys S5 ⟨ds,rfl,e,_,hds,D5,O5⟩;rw[dX]at e;intro p6 P0;rw[ac];dsimp only;exact k (ns.take j) ds _ ⟨λz hz=>lU (hw z (VA hz)),by omega,by omega,λq hq=>(hds q hq).1,λq hq=>(hds q hq).2.1,λq hq=>(hds q hq).2.2⟩ (by omega) (by rw[Vi];omega) (hnd.sublist (WR _ _)) (D5.new P0) (Pq.trans (((JF.new hp3).trans O3).trans (O4.trans (O5.trans (.new P0)))))
def kB{c:kH}{t u:bv}{v:Bool}{σ:cU}{S:aA}{D:mH}(h:∀Q E,Q v S->c σ S Q E)(qt:v=true->t D σ S)(qf:v=false->u D σ S):bm c t u D σ S:=by
 refine h _ _ ?_;cases v with
 |true=>exact qt rfl
 |false=>exact qf rfl
def zm{t:Bd}{v:PV}(hp:t.plain=true)(h:aX t v=true):v = .tup []:=by
 cases v with
 |tup xs=>rw[oa hp,Us]at h;rw[h]
 |_=>cases t<;>first|(cases hp;done)|(cases h)
noncomputable def cs(a:Bd)(k:Nat)(xs:List PV):Nat:=xs.foldl (λk g=>k+(nm (jx g)).toNat * (bQ a (cP g)+1)) k
theorem Cj(a:Bd):∀(xs:List PV)(k:Nat),k<=cs a k xs
 |[],k=>Uo _
 |x::xs,k=>UJ (Vz _ _) (Cj a xs _)
def zn(a:Bd)(k:Nat)(xs ys:List PV):cs a k (xs++ys)=cs a (cs a k xs) ys:=WS
def vD{a:Bd}{k:Nat}{xs done rest:List PV}{m:Int}{y:PV}(e:xs=done ++ .tup [.int m,y]::rest)(hm:1<=m):cs a k done+bQ a y+1<=cs a k (done++[.tup [.int m,y]])/\cs a k (done++[.tup [.int m,y]])<=cs a k xs:=by
 constructor
 .rw[zn];show _<=cs a k done+m.toNat * (bQ a y+1);have:bQ a y+1<=m.toNat * (bQ a y+1):=XC _ (by omega);omega
 .rw[e,show done++PV.tup [.int m,y]::rest=(done++[.tup [.int m,y]])++rest by simp,zn a k _ rest];exact Cj a rest _
noncomputable def o0(p:Str×Int):PV:=.tup [.str p.1,.int p.2]
def nh:∀(t:Bd)(v:PV)(k:Nat)(m:Int),aX t v=true->(J_ t v).length<=bQ t v/\(uE t v k m).length<=bQ t v:=by
 intro t
 induction t with
 |rest=>intro v k m _;exact⟨UT _,UT _⟩
 |pay x y=>intro v k m _;exact⟨UT _,UT _⟩
 |use z=>intro v k m _;exact⟨UT _,UT _⟩
 |put z n=>intro v k m _;exact⟨show 1<=2 by decide,UT _⟩
 |IK a b Ja Jd=>
  intro v k m h;obtain⟨x,y,rfl,hx,hy⟩:=dM h;have p:=Ja x k m hx;have q:=Jd y (k+uD a) m hy;show(J_ a x++J_ b y).length<=bQ a x+bQ b y/\(uE a x k m++uE b y (k+uD a) m).length<=bQ a x+bQ b y;rw[Um,Um];omega
 |IY a b Ja Jd=>
  intro v k m h;obtain⟨i,y,rfl,hy⟩:=dN h;rcases hy with⟨rfl,hy⟩|⟨rfl,hy⟩
  .have p:=Ja y k m hy;exact⟨WU p.1,WU p.2⟩
  .have p:=Jd y (k+uD a) m hy;exact⟨WU p.1,WU p.2⟩
 |IV z n a b Ja Jd=>
  intro v k m h;obtain⟨i,y,rfl,hy⟩:=dO h;rcases hy with⟨rfl,hy⟩|⟨rfl,hy⟩
  .have p:=Ja y k m hy;exact⟨by show(J_ a y).length+1<=bQ a y+2;omega,by show(uE a y k m).length<=bQ a y+2;omega⟩
  .have p:=Jd y (k+uD a) m hy;exact⟨by show(J_ b y).length<=bQ b y+2;omega,by show(uE b y (k+uD a) m).length<=bQ b y+2;omega⟩
 |IU a Ja=>
  intro v k m h;obtain⟨xs,rfl,hx⟩:=d_ h;show(xs.flatMap λg=>J_ a (cP g)).length<=cs a 0 xs+1/\(xs.flatMap λg=>uE a (cP g) (k+1) (m * nm (jx g))++[(k,Bg a (cP g),m * nm (jx g),a)]).length<=cs a 0 xs+1;have key:∀(xs:List PV)(n:Nat),(∀u∈xs,kT a u=true)->(xs.flatMap λg=>J_ a (cP g)).length+n<=cs a n xs/\(xs.flatMap λg=>uE a (cP g) (k+1) (m * nm (jx g))++[(k,Bg a (cP g),m * nm (jx g),a)]).length+n<=cs a n xs:=by
   intro xs
   induction xs with
   |nil=>intro n _;exact⟨by simp[cs],by simp[cs]⟩
   |cons u xs ih=>
    intro n hu;obtain⟨j,y,rfl,hj,hy⟩:=cJ (hu u (by simp));have p:=Ja y (k+1) (m * j) hy;have q:=ih (n+j.toNat * (bQ a y+1)) λw hw=>hu w (by simp[hw]);have r:bQ a y+1<=j.toNat * (bQ a y+1):=XC _ (by omega);have e:cs a n (.tup [.int j,y]::xs)=cs a (n+j.toNat * (bQ a y+1)) xs:=rfl;rw[e,Wz,Wz,Um,Um,Um];show(J_ a y).length+_+n<=_/\(uE a y (k+1) (m * j)).length+1+_+n<=_;omega
  have:=key xs 0 λu hu=>UW.mp hx u hu;omega
abbrev jA(w:ay):Prop:=∀{S:aA}{i:Int}{Q:bB}{E:bR},Q (.bl true) S->w [.int i] S Q E
def J3:jA (aT 1 gc):=by
 intro S i Q E k;unfold gc;refine cY ?_;rw[show ax 1 [PV.int i]=[some (.int i)] from rfl];simp only[aw,cw,mI,ak,am,v3,lk,c3,D_,Ea,U6,VZ];exact k
abbrev ix(n:Nat)(w:ay):Prop:=∀{S:aA}{js:Vs}{t:Bd}{v:PV}{mv:Addr}{ms:List PV}{Q:bB}{E:bR},t.dep<=n->t.good js []->aX t v=true->S mv=some (.lst ms)->ms.length+bQ t v<=16000000->(∀S',LK mv S S'->S' mv=some (.lst (ms++(J_ t v).map o0))->Q (.bl true) S')->w [t.pv,v,.ref mv] S Q E
abbrev rK(n:Nat)(w:ay):Prop:=∀{S:aA}{js:Vs}{a:Bd}{g:PV}{mv:Addr}{ms:List PV}{Q:bB}{E:bR},a.dep<=n->a.good js []->kT a g=true->S mv=some (.lst ms)->ms.length+bQ a (cP g)<=16000000->(∀S',LK mv S S'->S' mv=some (.lst (ms++(J_ a (cP g)).map o0))->Q (.bl true) S')->w [(Bd.IU a).pv,g,.ref mv] S Q E
def En{xn s0 s1:ay}(J3:jA xn)(n:Nat)(ih:ix n s0):rK n (aT 3 (cS xn s0 s1)):=by
 intro S js a g mv ms Q E hd hg hv hm hc k;obtain⟨m,y,rfl,h1,hy⟩:=cJ hv;unfold cS;refine cY ?_;rw[show ax 3 [(Bd.IU a).pv,.tup [.int m,y],.ref mv]=[some (Bd.IU a).pv,some (.tup [.int m,y]),some (.ref mv)] from rfl];walk_at "3";refine kB (v:=false) (λQ E q=>?_) (λh=>nomatch h) (λ_=>hN _ _ ?_)
 .simp only[iy,cI,aG,ak,af,am,v3,lk,c3,lW,U3,UB,UZ,bx,aS,List.length_cons,List.length_nil,ad,aa,bG];simp only[U0,Nat.reduceAdd,Int.cast_ofNat_Int,Vt,WT,UB,UZ];refine J3 ?_;simp only[U3,UB,UZ,lO,cA];rw[UG (by omega)];exact q
 .simp only[aw,ad,am,af,v3,lk,c3,aa,Bd.pv,bU];exact ih hd hg hy hm hc k
def oF{n:Nat}(h:n<=16000000):n<=sizeLine:=UJ h (by decide)
def Eo:∀z∈(["rest","pay","put"]:Vs),PyData.strOk z=true:=by decide +kernel
def MP{xn s0 s1:ay}(J3:jA xn)(n:Nat)(ih:ix n s0)(ih1:rK n s1):ix (n+1) (aT 4 (dD xn s0 s1)):=by
 intro S js t v mv ms Q E hd hg hv hm hc k;have hcl:=(nh t v 0 0 hv).1;unfold dD;refine cY ?_;rw[show ax 4 [t.pv,v,.ref mv]=[some t.pv,some v,some (.ref mv),none] from rfl];obtain⟨xs,rfl⟩:∃xs,v = .tup xs:=by
  cases t with
  |IK a b=>obtain⟨x,y,rfl,_⟩:=dM hv;exact⟨_,rfl⟩
  |IY a b=>obtain⟨i,y,rfl,_⟩:=dN hv;exact⟨_,rfl⟩
  |IV z m a b=>obtain⟨i,y,rfl,_⟩:=dO hv;exact⟨_,rfl⟩
  |IU a=>obtain⟨xs,rfl,_⟩:=d_ hv;exact⟨_,rfl⟩
  |_=>exact⟨_,zm rfl hv⟩
 walk_at "3";refine kB (v:=false) (λQ E q=>by simp only[cI,aG,ak,am,v3,lk,c3,lW,U3];exact q) (λh=>nomatch h) (λ_=>hN _ _ (al λN hN=>?_));rw[Bd.Lc];refine kB (v:=decide (t.hd∈(["rest","pay","put"]:Vs))) (λQ E q=>?_) (λh=>?_) (λh=>hN _ _ (al λN hN=>?_))
 .simp only[aG,af,v3,lk,c3,aa,bG,aD,am];rw[show([PV.str "rest",PV.str "pay",PV.str "put"]:List PV)=(["rest","pay","put"]:Vs).map PV.str from rfl];refine dY (Bd.N7 _) Eo ?_;rw[Uu];exact q
 .have h:=VP h;have hx:xs=[]:=by
   have hp:t.plain=true:=by cases t<;>first|rfl|(simp[Bd.hd,av]at h;done)
   have:=zm hp hv;injection this
  subst hx;refine al λN2 JV=>?_;simp only[bg,jp,am,af,bf,cW,tN,vd,v3,lk,c3,ug,vg,hm,Xz];intro p1 hp1;have TZ:mv≠p1:=λh=>by rw[h,hp1]at hm;cases hm
  simp only[ak,am,af,v3,lk,c3,aa,bG,aS,eW,b_,ac,Uu,Us];have fin:∀(ys:List PV)(S2:aA),Ext S S2->S2 mv=some (.lst ms)->(∀p2,S2 p2=none->bT (.ref mv) [.ref p2] (II S2 p2 (.lst ys)) (λ_ S3=>N2 [some (.tup (.str t.hd::t.tl)),some (.tup []),some (.ref mv),none] S3))\/ys≠(J_ t (.tup [])).map o0:=by
   intro ys S2 X2 f2;by_cases e:ys=(J_ t (.tup [])).map o0
   .refine .inl λp2 hp2=>?_;have Pr:mv≠p2:=λh=>by rw[h,hp2]at f2;cases f2
    simp only[bT,ac,ar Pr,f2];refine⟨oF (by rw[e,Ul];omega),JV _ _ ?_⟩;simp only[aw,af,v3,lk,aD,am];refine⟨.tuple [],.tuple [],.tup .nil,.tup .nil,by simp[PyData.canLay0,PyData.canLayAll0],by simp[PyData.canLay0,PyData.canLayAll0],by simp[PyData.depth,PyData.depthAll],?_⟩;rw[show(false != PyData.eqv (.tuple []) (.tuple []))=true by simp[PyData.eqv,PyData.eqvAll]];refine k _ (λb o hb nb=>?_) (by rw[ac,e]);have h2:=X2 _ _ hb;rw[ar nb,ar (λe=>by rw[e,hp2]at h2;cases h2)];exact h2
   .exact .inr e
  have X1:Ext S (II S p1 (.lst [.tup (Lh (.str t.hd::t.tl) (some 1) none)])):=.new hp1;have f1:(II S p1 (.lst [.tup (Lh (.str t.hd::t.tl) (some 1) none)])) mv=some (.lst ms):=by rw[ar TZ];exact hm
  generalize II S p1 (.lst [.tup (Lh (.str t.hd::t.tl) (some 1) none)])=S1 at X1 f1;cases t with
  |put z m=>
   rw[if_pos (show(Bd.put z m).hd=Str.ofString "put" from rfl)];refine⟨by decide,by decide,by show 1 * 1<=sizeLine;decide,λp2 hp2=>?_⟩;rcases fin [.tup [.str z,.int m]] S1 X1 f1 with q|q
   .exact q p2 hp2
   .exact absurd rfl q
  |rest=>
   rw[if_neg (by simp[Bd.hd,av])];refine⟨by decide,by decide,by show 1 * 0<=sizeLine;decide,λp2 hp2=>?_⟩;rcases fin [] S1 X1 f1 with q|q
   .exact q p2 hp2
   .exact absurd rfl q
  |pay x y=>
   rw[if_neg (by simp[Bd.hd,av])];refine⟨by decide,by decide,by show 1 * 0<=sizeLine;decide,λp2 hp2=>?_⟩;rcases fin [] S1 X1 f1 with q|q
   .exact q p2 hp2
   .exact absurd rfl q
  |_=>simp[Bd.hd,av]at h
 have h:=Wa h;refine kB (v:=decide (t.hd=("often":Str))) (λQ E q=>by simp only[aG,af,v3,lk,c3,aa,bG,aS,Uu];exact q) (λh2=>?_) (λh2=>hN _ _ (al λN hN=>?_))
 .obtain⟨a,rfl⟩:=(Bd.MI t).mp (VP h2);obtain⟨xs',e',hx⟩:=d_ hv;injection e' with e'
  subst e';walk_at "6";have hc:ms.length+(cs a 0 xs+1)<=16000000:=hc;refine al λN2 JV=>?_;simp only[ap,aJ,aL,v3,lk,bW];refine e_ (λdone ys S'=>ys=done/\LK mv S S'/\done.length<=xs.length/\S' mv=some (.lst (ms++(done.flatMap λg=>J_ a (cP g)).map o0))/\(done.flatMap λg=>J_ a (cP g)).length<=cs a 0 done/\done.length<=cs a 0 done/\cs a 0 done<=16000000) ⟨rfl,.refl,UT _,by simpa using hm,Uo _,Uo _,UT _⟩ ?_ ?_ ?_
  .rintro done ys S' ⟨rfl,_,hl,_,_,r3,r4⟩;exact⟨trivial,oF (by omega)⟩
  .rintro done x rest ys S2 K e ⟨rfl,X2,hl,f2,r2,r3,r4⟩ hK;have e:xs=ys++x::rest:=e;have P2:x∈xs:=by rw[e];simp
   have hgo:=UW.mp hx x P2;obtain⟨m,y,rfl,h1,hy⟩:=cJ hgo;obtain⟨q1,q2⟩:=vD (a:=a) (k:=0) e h1;have q3:=(nh a y 0 0 hy).1;simp only[eY,List.replicate_succ,List.replicate_zero,UA,U4,List.cons_append,List.nil_append,lk,Tg.put,List.set_cons_zero];simp only[aG,ad,am,v3,lk];rw[show(PV.tup (.str (Bd.IU a).hd::(Bd.IU a).tl))=(Bd.IU a).pv from rfl];refine ih1 (by omega) hg hgo f2 (by rw[Um,Ul];show _+bQ a y<=_;omega) λS3 X3 f3=>?_;simp only[U6];have ef:([PV.tup [.int m,y]].flatMap λg=>J_ a (cP g))=J_ a y:=by simp[cP]
   refine hK _ _ ⟨rfl,X2.trans X3,?_,?_,?_,?_,by omega⟩
   .have:=Vf List.length e;simp at this ⊢;omega
   .rw[f3,VN,U8,VX,ef];rfl
   .rw[VN,Um,ef];omega
   .rw[Um,UM];omega
  .rintro ys S2 ⟨rfl,X2,hl,f2,r2,r3,_⟩;intro p hp;have np:mv≠p:=λh=>by rw[h,hp]at f2;cases f2
   simp only[List.set_cons_succ,List.set_cons_zero];refine JV _ _ ?_;simp only[aw,af,ak,am,v3,lk,bx,ac,aS,Vt,Uu];exact k _ (λb o hb nb=>by have h2:=X2 _ _ hb nb;rw[ar (λe=>by rw[e,hp]at h2;cases h2)];exact h2) (by rw[ar np];exact f2)
 have h2:=Wa h2;obtain⟨x,y,rfl⟩:∃x y,xs=[x,y]:=by
  cases t with
  |IK a b=>obtain⟨x,y,e,_⟩:=dM hv;injection e with e;exact⟨x,y,e⟩
  |IY a b=>obtain⟨i,y,e,_⟩:=dN hv;injection e with e;exact⟨_,y,e⟩
  |IV z m a b=>obtain⟨i,y,e,_⟩:=dO hv;injection e with e;exact⟨_,y,e⟩
  |IU a=>exact absurd rfl h2
  |use z=>exact absurd (show z∈[] from hg) (by simp)
  |_=>simp[Bd.hd,av]at h
 refine kB (v:=false) (λQ E q=>by simp only[aG,af,ak,am,v3,lk,c3,bx,aS,List.length_cons,List.length_nil];exact q) (λh=>nomatch h) (λ_=>hN _ _ (al λN hN=>?_));refine kB (v:=decide (t.hd=("then":Str))) (λQ E q=>by simp only[aG,af,v3,lk,c3,aa,bG,aS,Uu];exact q) (λh3=>?_) (λh3=>hN _ _ (al λN hN=>?_))
 .obtain⟨a,b,rfl⟩:=(Bd.MH t).mp (VP h3);obtain⟨x',y',e,hx,hy⟩:=dM hv;injection e with e;injection e with e1 e;injection e with e2 _
  subst e1 e2;have hc:ms.length+(bQ a x+bQ b y)<=16000000:=hc;walk_at "6";have q1:=(nh a x 0 0 hx).1;simp only[aw,cw,ad,am,af,v3,lk,c3,aa,Bd.tl,bG,bU,kC];refine ih (by omega) hg.1 hx hm (by omega) λS1 X1 f1=>?_;simp only[U6];refine ih (by omega) hg.2 hy f1 (by rw[Um,Ul];omega) λS2 X2 f2=>k S2 (X1.trans X2) ?_;rw[f2];show some (SO.lst _)=some (.lst (ms++(J_ a x++J_ b y).map o0));rw[U8,VX]
 have h3:=Wa h3;have side:∀(i:Int) (y:PV) (hd2:List PV) (a b:Bd) (S1:aA) (N:cU->aA->Prop),(i=0\/i=1)->.str t.hd::t.tl=hd2++[a.pv,b.pv]->∀c:Bd,(if i=0 then a.pv else b.pv)=c.pv->c.dep<=n->c.good js []->aX c y=true->∀ms',S1 mv=some (.lst ms')->ms'.length+bQ c y<=16000000->(∀S',LK mv S1 S'->S' mv=some (.lst (ms'++(J_ c y).map o0))->Q (.bl true) S')->
   aw (ad s0 [af aa (v3 0) (af bd (af aa (v3 1) (c3 (.int 0))) (c3 (.int 2))),af aa (v3 1) (c3 (.int 1)),v3 2]) { nx:=N,rt:=Q,ex:=fE } [some (.tup (.str t.hd::t.tl)),some (.tup [.int i,y]),some (.ref mv),none] S1:=by
  intro i y hd2 a b S1 N hi e c ec d1 d2 d3 ms' f1 l1 kk;simp only[aw,ad,am,af,v3,lk,c3,aa,bG,bU,bd,cA];rw[e,hJ hi,ec];exact ih d1 d2 d3 f1 l1 kk
 cases t with
 |IY a b=>
  obtain⟨i,y',e,hy⟩:=dN hv;injection e with e;injection e with e1 e;injection e with e2 _
  subst e1 e2;walk_at "6";have hi:i=0\/i=1:=by rcases hy with⟨h,_⟩|⟨h,_⟩<;>omega
  refine kB (v:=false) (λQ E q=>?_) (λh=>nomatch h) (λ_=>hN _ _ (al λN hN=>?_))
  .simp only[iy,cI,aG,af,ad,am,v3,lk,c3,aa,bG];refine J3 ?_;simp only[U3,UB,UZ,lO,m6,cA];rw[UG (by omega),UG (by omega)];exact q
  refine kB (v:=false) (λQ E q=>by simp only[eU,aG,af,v3,lk,c3,aa,bG,aS,Bd.hd,av,String.reduceEq,WM,Uu,UB,UZ];exact q) (λh=>nomatch h) (λ_=>hN _ _ ?_);rcases hy with⟨rfl,hy⟩|⟨rfl,hy⟩
  .exact side 0 y [.str "either"] a b S _ (.inl rfl) rfl a rfl (by omega) hg.1 hy ms hm (by have hc:ms.length+(bQ a y+1)<=16000000:=hc;omega) k
  .exact side 1 y [.str "either"] a b S _ (.inr rfl) rfl b rfl (by omega) hg.2 hy ms hm (by have hc:ms.length+(bQ b y+1)<=16000000:=hc;omega) k
 |IV z m a b=>
  obtain⟨i,y',e,hy⟩:=dO hv;injection e with e;injection e with e1 e;injection e with e2 _
  subst e1 e2;walk_at "6";have hi:i=0\/i=1:=by rcases hy with⟨h,_⟩|⟨h,_⟩<;>omega
  refine kB (v:=false) (λQ E q=>?_) (λh=>nomatch h) (λ_=>hN _ _ (al λN hN=>?_))
  .simp only[iy,cI,aG,af,ad,am,v3,lk,c3,aa,bG];refine J3 ?_;simp only[U3,UB,UZ,lO,m6,cA];rw[UG (by omega),UG (by omega)];exact q
  rcases hy with⟨rfl,hy⟩|⟨rfl,hy⟩
  .have hc:ms.length+(bQ a y+2)<=16000000:=hc;refine kB (v:=true) (λQ E q=>by simp only[eU,aG,af,v3,lk,c3,aa,bG,aS,Bd.hd,Vt,Uu,U6];exact q) (λ_=>?_) (λh=>nomatch h);simp only[bg,jp,am,af,aD,v3,lk,c3,aa,Bd.tl,bU,kC,bd,cA,vg,cp,hm,Xz];refine⟨WJ (show _<=16000000 by omega) (by decide),hN _ _ ?_⟩;refine side 0 y [.str "take",.str z,.int m] a b _ _ (.inl rfl) rfl a rfl (by omega) hg.2.2.2.1 hy _ ac (by rw[Um];simp;omega) λS2 X2 f2=>k S2 (LK.upd.trans X2) ?_;rw[f2,VX]
   rfl
  .refine kB (v:=false) (λQ E q=>by simp only[eU,aG,af,v3,lk,c3,aa,bG,aS,Bd.hd,Vt,Int.reduceEq,WM,Uu,U6];exact q) (λh=>nomatch h) (λ_=>hN _ _ ?_);exact side 1 y [.str "take",.str z,.int m] a b S _ (.inr rfl) rfl b rfl (by omega) hg.2.2.2.2 hy ms hm (by have hc:ms.length+(bQ b y+2)<=16000000:=hc;omega) k
 |IK a b=>exact absurd rfl h3
 |IU a=>exact absurd rfl h2
 |use z=>exact absurd (show z∈[] from hg) (by simp)
 |_=>simp[Bd.hd,av]at h
def Bl{c e:Int}(hc:1<=c)(he:1<=e):1 <= -((-c).fdiv e)/\-((-c).fdiv e)<=c/\c <= -((-c).fdiv e) * e:=by
 rw[B9 (by omega)];have h1:=Int.mul_ediv_add_emod (-c) e;have h2:=Xf (-c) (show e≠0 by omega);have h3:=WL (-c) (show 0 < e by omega);generalize (-c) / e=r at h1 h2 h3;generalize (-c) % e=s at h1 h2 h3;have h4:-r * e = -(e * r):=by rw[Xj,Wy]
 have h5:1 <= -r:=by
  refine Int.not_lt.mp λh=>?_;have:-r * e<=0 * e:=WG (by omega) (by omega);omega
 refine⟨h5,?_,by omega⟩;have h6:(-r - 1) * 1<=(-r - 1) * e:=Wb he (by omega);rw[show(-r - 1) * e = -r * e - e by rw[Int.sub_mul,Int.one_mul],h4]at h6;omega
noncomputable abbrev vE(m:Int)(dk:Nat)(tr:PV):PV:=.tup [.str "again",.int m,.tup [.tup [.str "do",.int (dk:Int),tr]]]
abbrev oG(w:ay):Prop:=∀{S:aA}{js hs:Vs}{ds:List (Str×Bd)}{k dk pl:Nat}{z dn:Str}{t:Bd}{m0 c:Int}{Q:bB}{E:bR},HG js ds->js[k]?=some z->ds[dk]?=some (dn,t)->(t.pr (mq hs) true)[pl]?=some (.put z m0,true)->z ∉ hs->1<=c->
  (∀S' m,Ext S S'->1<=m->m<=c->(∀e d,(t.Jw js (t.led pl (.tup []))).2[k]?=some (e,d)->c<=m * e)->Q (vE m dk (t.led pl (.tup []))) S')->w [bV js ds,.tup [.int (k:Int),.int (dk:Int),t.led pl (.tup [])],.int c] S Q E
def Ep{js:Vs}{q:Qs}{z:Str}{m:Int}(t:Bd):∀pl:Nat,t.good js []->(t.pr q true)[pl]?=some (.put z m,true)->1<=m:=by
 intro pl g h;have key:∀(t:Bd)(r:Bool),t.good js []->∀u s,(u,s)∈t.pr q r->u.good js []:=by
  intro t
  induction t with
  |rest=>intro r g u s h;simp[Bd.pr]at h;rw[h.1];exact g
  |pay a b=>intro r g u s h;simp[Bd.pr]at h;rw[h.1];exact g
  |put a b=>intro r g u s h;simp[Bd.pr]at h;rw[h.1];exact g
  |use a=>intro r g u s h;simp[Bd.pr]at h;rw[h.1];exact g
  |IU a ih=>
   intro r g u s h;rcases Uv.mp h with h|h
   .cases h;exact g
   .exact ih r g u s h
  |IK a b Ja Jd=>
   intro r g u s h;rcases Uv.mp h with h|h
   .cases h;exact g
   .rcases Ur.mp h with h|h
    .exact Ja r g.1 u s h
    .exact Jd r g.2 u s h
  |IY a b Ja Jd=>
   intro r g u s h;rcases Uv.mp h with h|h
   .cases h;exact g
   .rcases Ur.mp h with h|h
    .exact Ja r g.1 u s h
    .exact Jd r g.2 u s h
  |IV x c a b Ja Jd=>
   intro r g u s h;rcases Uv.mp h with h|h
   .cases h;exact g
   .rcases Ur.mp h with h|h
    .exact Ja _ g.2.2.2.1 u s h
    .exact Jd r g.2.2.2.2 u s h
 exact(show _/\_/\_ from key t true g _ _ (UD h)).2.1
def Bm{L n b c:Nat}{v:PV}(t:KP L n v)(h:b<=c):ci b v=true->ci c v=true:=by
 induction t with
 |int i=>simp only[ci,Us];omega
 |tup hl hx ih=>
  simp only[ci];rw[intBs_iff,intBs_iff];exact λq x hm=>ih x hm (q x hm)
def Ck{q:Qs}{z:Str}{m:Int}{t:Bd}{pl:Nat}(h:(t.pr q true)[pl]?=some (.put z m,true)):ci (2 ^ 60) (t.led pl (.tup []))=true:=Bm (uH t pl h).1 (by decide) (uH t pl h).2
def LP{xt:ay}(Ln:jv xt):oG (aT 5 (mn xt)):=by
 intro S js hs ds k dk pl z dn t m0 c Q E hg hk hd hp hz hc q;have hm:=UD hd;have tg:=hg.gd _ hm;have lo:=zb t pl tg hp;obtain⟨e,d,h1,h2,h3,h4,h5,h6,h7⟩:=vz (q:=mq hs) hk t pl tg hp;obtain⟨h8,h9,OX⟩:=h6 (UG hz);have he:1<=e:=Int.le_trans (Ep t pl tg hp) (OX rfl);have hsz:t.size<=60:=hg.sz _ hm;have hjl:=hg.jl;unfold mn;refine cY ?_;rw[show ax 5 [bV js ds,.tup [.int (k:Int),.int (dk:Int),t.led pl (.tup [])],.int c]=[some (bV js ds),some (.tup [.int (k:Int),.int (dk:Int),t.led pl (.tup [])]),some (.int c),none,none] from rfl];walk_at "3";simp only[ap,af,ad,am,v3,lk,c3,aa,bG,bU,kC];refine Ln (us:=[]) (by omega) hd tg lo.tr (Ck hp) (hg.dp _ hm) λS1 X1=>?_;unfold Ty.pv;simp only[bU];rw[bj (v:=PV.int e) (by unfold Ty.es;rw[Ut,h1];rfl)];walk_at "1";walk_at "0";simp only[ap,mQ,d5,af,v3,lk,iD,iz];refine⟨DP (by omega) (by omega),?_⟩;walk_at "1";obtain⟨c1,c2,T0⟩:=Bl hc he;refine hN _ _ ?_;simp only[aw,aD,am,af,v3,lk,c3,aa,bU,kC];refine q S1 _ X1 c1 c2 λe' d' h=>?_;rw[h1]at h;cases h;exact T0
noncomputable def OR(T:Ty)(ns:Vu):List Int:=(T.2.zip ns).map λz=>if z.2 - z.1.1 > z.1.2 then z.2 - z.1.1 else z.1.2
theorem zo:∀(xs:List (Int×Int))(ns:Vu),bE (xs.map λp=>PV.int p.1) (xs.map λp=>PV.int p.2) (ns.map PV.int)=(xs.zip ns).map λz=>.tup [.int z.1.1,.int z.1.2,.int z.2]
 |[],_=>rfl
 |_::_,[]=>rfl
 |x::xs,n::ns=>by
  have ih:=zo xs ns;unfold bE at ih ⊢;simp only[UA,List.zip_cons_cons];rw[ih]
  rfl
noncomputable def Er(js:Vs)(ds:List (Str×Bd))(v:PV):Ty:=kD js (jb js ds 1) [v]
abbrev rL(w:ay):Prop:=∀{S:aA}{js:Vs}{ds:List (Str×Bd)}{v:PV}{ns:Vu}{Q:bB}{E:bR},HG js ds->zc ds 1 v->ns.length=js.length->
  (∀S',Ext S S'->Q (.tup ((OR (Er js ds v) ns).map PV.int)) S')->w [bV js ds,v,.tup (ns.map PV.int)] S Q E
def Bn{js:Vs}{ds:List (Str×Bd)}(h:HG js ds):HB js ds:=λp hp=>⟨h.gd p hp,h.dp p hp⟩
def Mk{xs:ay}(k:Nat)(hk:1 < k)(NP:rm k xs):rL (aT 4 (fk xs)):=by
 intro S js ds v ns Q E hg hv hl q;have hjl:=hg.jl;have hdl:=hg.dl;unfold fk;refine cY ?_;rw[show ax 4 [bV js ds,v,.tup (ns.map PV.int)]=[some (bV js ds),some v,some (.tup (ns.map PV.int)),none] from rfl];walk_at "3";simp only[ap,ad,am,v3,lk,aD];refine NP (n:=1) (by omega) hdl (Bn hg) hk (λx hx=>by rw[Uy.mp hx];exact hv) λS1 X1=>?_;walk_at "1";refine hN _ _ ?_;unfold Gb;simp only[aw,ak,am,aJ,sA,af,v3,lk,c3,aa,kC,HD];have ok:(kD js (jb js ds 1) [v]).Ok js:=km λx hx=>by rw[Uy.mp hx];exact fZ (Bn hg) hv
 have lt:=ok.1;refine⟨by unfold Ty.es Ty.dm;rw[Ul,Ul];omega,by unfold Ty.es;rw[Ul,Ul];omega,?_⟩;rw[show bE (kD js (jb js ds 1) [v]).es (kD js (jb js ds 1) [v]).dm (ns.map PV.int)=_ from zo _ _];refine aQ _ (λz:(Int×Int)×Int=>PV.int (if z.2 - z.1.1 > z.1.2 then z.2 - z.1.1 else z.1.2)) trivial _ [] (λz hz=>⟨_,rfl,λQ q=>?_⟩) ?_ λp hp=>?_
 .walk_at "x";exact q
 .rw[UN,U0,VL];exact bA (by omega)
 .rw[UX];simp only[aW,lL,ac];have e:(OR (Er js ds v) ns).map PV.int=((kD js (jb js ds 1) [v]).2.zip ns).map (λz=>PV.int (if z.2 - z.1.1 > z.1.2 then z.2 - z.1.1 else z.1.2)):=by
   unfold OR Er;rw[UQ]
   rfl
  rw[<-e];exact q _ (X1.trans (.new hp))
def tt{c:kH}{t u:bv}{v:Bool}{P:aA->Prop}{σ:cU}{S:aA}{D:mH}(h:∀Q E,(∀S',P S'->Q v S')->c σ S Q E)(qt:v=true->∀S',P S'->t D σ S')(qf:∀S',v=false->P S'->u D σ S'):bm c t u D σ S:=by
 refine h _ _ λS' p=>?_;cases v with
 |true=>exact qt rfl S' p
 |false=>exact qf S' rfl p
noncomputable def uQ:Int->List (Int×Int)->Prop
 |_,[]=>True
 |x,p::r=>p.2<=x/\uQ (x+p.1) r
noncomputable def w4(l:List (Int×Int)):Int:=l.foldr (λp a=>p.1+a) 0
theorem p8:∀{x y:Int}(l:List (Int×Int)),x<=y->uQ x l->uQ y l
 |_,_,[],_,_=>trivial
 |x,y,p::r,h,q=>⟨Int.le_trans q.1 h,p8 r (by omega) q.2⟩
theorem p_:∀(us:List (Int×Int))(p:Int×Int)(N:Int),(us.foldl jn p).1=p.1+w4 us/\(p.2<=N->uQ (N+p.1) us->(us.foldl jn p).2<=N)
 |[],p,N=>⟨(XE _).symm,λh _=>h⟩
 |u::us,p,N=>by
  obtain⟨h1,h2⟩:=p_ us (jn p u) N;refine⟨?_,λh q=>?_⟩
  .rw[VJ,h1];show p.1+u.1+w4 us=p.1+(u.1+w4 us);omega
  .rw[VJ];refine h2 ?_ ?_
   .have:=q.1;unfold jn;dsimp only
    split<;>omega
   .have:=q.2;show uQ (N+(p.1+u.1)) us;rw[<-Int.add_assoc];exact this
noncomputable def uR(k:Nat)(T:Ty):Int×Int:=(T.2[k]?).getD (0,0)
def tw{js:Vs}{T:Ty}{k:Nat}{y:Str}(h:T.Ok js)(hk:js[k]?=some y):T.2[k]?=some (uR k T):=by
 have hl:k < T.2.length:=by rw[h.1];exact(UH.mp hk).1
 unfold uR;rw[Uq hl]
 rfl
def Es{js:Vs}{f:PV->Ty}{k:Nat}{y:Str}(hk:js[k]?=some y)(P:List PV)(h:∀v∈P,(f v).Ok js):(kD js f P).2[k]?=some ((P.map λv=>uR k (f v)).foldl jn (0,0)):=by
 have key:∀(P:List PV)(T:Ty)(p:Int×Int),(∀v∈P,(f v).Ok js)->T.2[k]?=some p->((P.map f).foldl Ty.join T).2[k]?=some ((P.map λv=>uR k (f v)).foldl jn p):=by
  intro P
  induction P with
  |nil=>intro T p _ h;exact h
  |cons v P ih=>
   intro T p hv h;rw[UA,UA,VJ,VJ];exact ih _ _ (λx hx=>hv x (by simp[hx])) (cO h (tw (hv v (by simp)) hk))
 exact key P _ _ h (md hk)
noncomputable def oH(js:Vs)(ds:List (Str×Bd))(k:Nat)(P:List PV):List (Int×Int):=P.map λv=>uR k (jb js ds 1 v)
def zp{js:Vs}{ds:List (Str×Bd)}{v:PV}(hb:HB js ds)(h:zc ds 1 v):Er js ds v=jb js ds 1 v:=by
 unfold Er kD;exact gD (fZ hb h)
def Bo{js:Vs}{ds:List (Str×Bd)}{k dk:Nat}{dn y:Str}{t:Bd}{tr:PV}{m e d:Int}(hk:js[k]?=some y)(hd:ds[dk]?=some (dn,t))(ok:(t.Jw js tr).Ok js)(h:(t.Jw js tr).2[k]?=some (e,d)) :
  uR k (jb js ds 1 (vE m dk tr))=(e * m,d+(if -e * (m - 1) > 0 then -e * (m - 1) else 0)):=by
 have e1:jb js ds 1 (vE m dk tr)=(t.Jw js tr).again m:=by
  rw[rg];unfold kD;rw[UA,U4,VJ,List.foldl_nil,rf hd,gD ok]
 unfold uR;rw[e1,jy m h]
 rfl
def Bp{T:Ty}{ns:Vu}{k:Nat}{e d n:Int}(h:T.2[k]?=some (e,d))(hn:ns[k]?=some n):(OR T ns)[k]?=some (if n - e > d then n - e else d):=by
 unfold OR;rw[Ut,show(T.2.zip ns)[k]?=some ((e,d),n)from Vh.mpr ⟨h,hn⟩]
 rfl
noncomputable def Cl(i:Nat):Int:=10 ^ 9 * 60 ^ i
def oI(i:Nat):Cl (i+1)=60 * Cl i:=by
 unfold Cl;rw[Int.pow_succ];omega
theorem rM:∀i,1<=Cl i
 |0=>by decide
 |i+1=>by have:=rM i;rw[oI];omega
def Eu{i:Nat}(h:i < 4):Cl i<=2 ^ 60:=by
 match i,h with
 |0,_=>decide
 |1,_=>decide
 |2,_=>decide
 |3,_=>decide
structure FI(js:Vs)(ds:List (Str×Bd))(hs:Vs)(cs:Vu)(i:Nat)(ns:Vu)(P:List PV):Prop where
 len:ns.length=js.length
 QU:∀v∈P,∃m dk dn t tr,v=vE m dk tr/\1<=m/\m<=2 ^ 60/\ds[dk]?=some (dn,t)/\aX t tr=true/\bQ t tr<=120/\ci (2 ^ 60) tr=true/\KP 3 12 tr
 Pe:P.length<=i
 col:∀(k:Nat) y c,js[k]?=some y->cs[k]?=some c->∃n,ns[k]?=some n/\0<=n/\n<=Cl i/\(y∈hs.drop (hs.length - i)->n=0)/\(y ∉ hs->n=c)/\uQ n (oH js ds k P)/\c<=n+w4 (oH js ds k P)
def rN{ds:List (Str×Bd)}{v:PV}(h:∃m dk dn t tr,v=vE m dk tr/\1<=m/\m<=2 ^ 60/\ds[dk]?=some (dn,t)/\aX t tr=true/\bQ t tr<=120/\ci (2 ^ 60) tr=true/\KP 3 12 tr):zc ds 1 v:=by
 obtain⟨m,dk,dn,t,tr,rfl,h1,h2,h3,h4,h5,h6,h7⟩:=h;exact .QR h1 h2 (by show 1<=3;decide) λx hx=>by rw[Uy.mp hx];exact .QQ h3 h4 h6 h7
def Cm{js:Vs}(hn:js.Nodup){a b:Nat}{y:Str}(ha:js[a]?=some y)(hb:js[b]?=some y):a=b:=by
 exact nk hn ha hb
def my{hs:Vs}{i:Nat}{z:Str}(hi:i < hs.length)(hz:hs[hs.length - 1 - i]?=some z):hs.drop (hs.length - (i+1))=z::hs.drop (hs.length - i):=by
 obtain⟨h1,e1⟩:=UH.mp hz;rw[show hs.length - (i+1)=hs.length - 1 - i by omega,List.drop_eq_getElem_cons h1,e1]
 congr 2
 omega
def FI.skip{js:Vs}{ds:List (Str×Bd)}{hs:Vs}{cs ns:Vu}{i k:Nat}{P:List PV}{z:Str}(F:FI js ds hs cs i ns P)(hj:js.Nodup)(hi:i < hs.length)(hz:hs[hs.length - 1 - i]?=some z)(hk:js[k]?=some z)(hn:ns[k]?=some 0):FI js ds hs cs (i+1) ns P:=by
 refine⟨F.len,F.QU,WU F.Pe,λk' y c h1 h2=>?_⟩;obtain⟨n,a1,a2,a3,a4,a5,a6,a7⟩:=F.col k' y c h1 h2;have:=rM i;refine⟨n,a1,a2,by rw[oI];omega,λhy=>?_,a5,a6,a7⟩;rw[my hi hz]at hy;rcases Uv.mp hy with e|e
 .rw[e]at h1;have e3:=Cm hj h1 hk;rw[e3,hn]at a1;cases a1;rfl
 .exact a4 e
theorem FI.put{js:Vs}{ds:List (Str×Bd)}{hs:Vs}{cs ns:Vu}{i k dk pl:Nat}{P:List PV}{z dn:Str}{t:Bd}{m m0 nz:Int}(F:FI js ds hs cs i ns P)(hg:HG js ds)(hcl:cs.length=js.length)(hj:js.Nodup)(hf:MV js ds hs)(hi:i < hs.length)(h4:hs.length<=4)(hz:hs[hs.length - 1 - i]?=some z)(hk:js[k]?=some z)
  (hd:ds[dk]?=some (dn,t)) (hp:(t.pr (mq (hs.take (hs.length - 1 - i))) true)[pl]?=some (.put z m0,true)) (hnz:ns[k]?=some nz) (m1:1<=m) (m2:m<=nz) (m3:∀e d,(t.Jw js (t.led pl (.tup []))).2[k]?=some (e,d)->nz<=m * e) :
  FI js ds hs cs (i+1) (OR (Er js ds (vE m dk (t.led pl (.tup [])))) ns) (vE m dk (t.led pl (.tup []))::P)/\zc ds 1 (vE m dk (t.led pl (.tup []))):=by
 have hm:=UD hd;have tg:=hg.gd _ hm;have Qk:t.dep<=6:=hg.dp _ hm;have hsz:t.size<=60:=hg.sz _ hm;have lo:=zb t pl tg hp;have B1:=rM i;have B4:=Eu (i:=i) (by omega);obtain⟨c0,hc0⟩:∃c,cs[k]?=some c:=⟨_,Uq (show k < cs.length by rw[hcl];exact(UH.mp hk).1)⟩
 have mB:m<=Cl i:=by
  obtain⟨n,a1,a2,a3,_⟩:=F.col k z c0 hk hc0;rw[hnz]at a1;cases a1;omega
 have hpart:∃m' dk' T1 t' Qy,vE m dk (t.led pl (.tup []))=vE m' dk' Qy/\1<=m'/\m'<=2 ^ 60/\ds[dk']?=some (T1,t')/\aX t' Qy=true/\bQ t' Qy<=120/\ci (2 ^ 60) Qy=true/\KP 3 12 Qy:=
  ⟨m,dk,dn,t,_,rfl,m1,by omega,hd,lo.tr,by have:=lo.room;omega,Ck hp,(uH t pl hp).1.mono (by decide) (by omega)⟩
 have NR:=rN hpart;refine⟨⟨?_,?_,?_,λk' y c h1 h2=>?_⟩,NR⟩
 .have:=(fZ (Bn hg) NR).1;unfold OR;rw[Ul,VL,zp (Bn hg) NR,this,F.len,Yt]
 .intro v hv;rcases Uv.mp hv with e|e
  .rw[e];exact hpart
  .exact F.QU v e
 .rw[UE];exact Nat.succ_le_succ F.Pe
 .obtain⟨n,a1,a2,a3,a4,a5,a6,a7⟩:=F.col k' y c h1 h2;obtain⟨e,d,b1,b2,b3,b4,b5,b6,b7⟩:=vz (q:=mq (hs.take (hs.length - 1 - i))) h1 t pl tg hp;have ok:=aV t (t.led pl (.tup [])) tg lo.tr;have NG:=Bo (m:=m) h1 hd ok b1;have hT:(Er js ds (vE m dk (t.led pl (.tup [])))).2[k']?=some (e * m,d+(if -e * (m - 1) > 0 then -e * (m - 1) else 0)):=by
   rw[zp (Bn hg) NR,tw (fZ (Bn hg) NR) h1,NG]
  have RN:=Bp hT a1
  -- sizes
  have s1:-54 * m<=e * m:=WG (by omega) (by omega);have s2:-e * (m - 1)<=54 * (m - 1):=WG (by omega) (by omega);have s3:0<=(if -e * (m - 1) > 0 then -e * (m - 1) else 0)/\(if -e * (m - 1) > 0 then -e * (m - 1) else 0)<=54 * (m - 1):=by split<;>omega
  have N_:oH js ds k' (vE m dk (t.led pl (.tup []))::P)=(e * m,d+(if -e * (m - 1) > 0 then -e * (m - 1) else 0))::oH js ds k' P:=by
   unfold oH;rw[UA,NG]
  have free:mq (hs.take (hs.length - 1 - i)) y=false->d=0/\(if -e * (m - 1) > 0 then -e * (m - 1) else 0)=0/\0<=e * m:=λhq=>by
   obtain⟨q1,q2,_⟩:=b6 hq;have q3:0<=e * (m - 1):=VI q2 (by omega);refine⟨q1,?_,VI q2 (by omega)⟩;rw[Xj,if_neg (by omega)]
  have Qz:y=z->n<=e * m:=λey=>by
   rw[ey]at h1;have e3:=Cm hj h1 hk;rw[e3]at a1 b1;rw[hnz]at a1;cases a1;have:=m3 e d b1;rw[Wy];exact this
  have SG:y ∉ hs->e * m=0:=λhy=>by
   have hq:mq (hs.take (hs.length - 1 - i)) y=false:=UG λhin=>hy (VA hin);rw[b7 (λhin=>hy (hf.2.2.2 y (kl (qZ λx hx=>VA hx) (VR.mpr ⟨_,hm,hin⟩)))) hq,Int.zero_mul]
  generalize (if -e * (m - 1) > 0 then -e * (m - 1) else 0)=a at hT RN s3 N_ free;generalize e * m=em at hT RN s1 N_ free Qz SG;refine⟨_,RN,by split<;>omega,by rw[oI];split<;>omega,λhy=>?_,λhy=>?_,?_,?_⟩
  .rw[my hi hz]at hy;have hq:mq (hs.take (hs.length - 1 - i)) y=false:=UG λhin=>by
    have hnd:=hf.2.1;have e1:hs=hs.take (hs.length - 1 - i)++z::hs.drop (hs.length - i):=by
     have:=my hi hz;rw[<-this,show hs.length - (i+1)=hs.length - 1 - i by omega,XI]
    rw[e1]at hnd;exact(Xy.mp hnd).2.2 y hin y hy rfl
   obtain⟨q1,q2,q3⟩:=free hq;rcases Uv.mp hy with e1|e1
   .have:=Qz e1;rw[if_neg (by omega)];omega
   .have:=a4 e1;rw[if_neg (by omega)];omega
  .have hq:mq (hs.take (hs.length - 1 - i)) y=false:=UG λhin=>hy (VA hin);obtain⟨q1,q2,q3⟩:=free hq;have:=SG hy;rw[<-a5 hy]
   split<;>omega
  .rw[N_];refine⟨by split<;>omega,p8 _ ?_ a6⟩;dsimp only
   split<;>omega
  .rw[N_];show c<=_+(em+w4 (oH js ds k' P))
   split<;>omega
def FI.start{js:Vs}{ds:List (Str×Bd)}{hs:Vs}{cs:Vu}(hl:cs.length=js.length)(hc:∀c∈cs,0<=c/\c<=10 ^ 9):FI js ds hs cs 0 cs []:=
 ⟨hl,by simp,Uo _,λk y c h1 h2=>⟨c,h2,(hc c (UD h2)).1,by have:=(hc c (UD h2)).2;unfold Cl;omega,λh=>by simp at h,λ_=>rfl,trivial,by show c<=c+0;omega⟩⟩
abbrev Bq(ds:List (Str×Bd))(v:PV):Prop:=∃m dk dn t tr,v=vE m dk tr/\1<=m/\m<=2 ^ 60/\ds[dk]?=some (dn,t)/\aX t tr=true/\bQ t tr<=120/\ci (2 ^ 60) tr=true/\KP 3 12 tr
abbrev rO(w:ay):Prop:=∀{S:aA}{js:Vs}{ds:List (Str×Bd)}{cs:Vu}{Q:bB}{E:bR},HG js ds->js.length<=4->js.Nodup->cs.length=js.length->(∀c∈cs,0<=c/\c<=10 ^ 9)->
  (∀(k:Nat) y c,js[k]?=some y->cs[k]?=some c->y ∉ held ds js.length->c=0)->(∀P S',Ext S S'->P.length<=4->(∀v∈P,Bq ds v)->(∀(k:Nat) c,cs[k]?=some c->∃e,(kD js (jb js ds 1) P).2[k]?=some (e,0)/\c<=e)->Q (.tup P) S')->w [bV js ds,.tup (cs.map PV.int)] S Q E
theorem mz{α:Type}(f:α->Bool):∀xs:List α,mJ (xs.map λx=>PV.bl (f x))=some (xs.map f)
 |[]=>rfl
 |x::xs=>by
  rw[UA,mJ,mz f xs]
  rfl
def tD{js:Vs}{ds:List (Str×Bd)}{hs:Vs}(h:MV js ds hs)(y:Str):y∈hs↔y∈held ds js.length:=by
 have e:mq (held ds js.length) y=mq hs y:=congrFun (vv h.1 h.2.1 h.2.2.1 h.2.2.2) y;exact(Yp.mp e).symm
def Ml{xf xb xn:ay}(Jx:dZ xf)(LP:oG xb)(Mk:rL xn):rO (aT 6 (oB xf xb xn)):=by
 intro S js ds cs Q E hg QS hjn hcl hc hz0 q;unfold oB;refine cY ?_;rw[show ax 6 [bV js ds,.tup (cs.map PV.int)]=[some (bV js ds),some (.tup (cs.map PV.int)),none,none,none,none] from rfl];walk_at "3";simp only[ap,aD,am,List.set_cons_zero,List.set_cons_succ];walk_at "0";simp only[ap,v3,lk,List.set_cons_zero,List.set_cons_succ];walk_at "0";simp only[bS,yR,ad,am,v3,lk];refine Jx hg λp vs hs S1 hp X1 f1 hl hst f2 f3 f4 f5=>?_;simp only[f1];have hf:MV js ds hs:=⟨f2,f3,f4,f5⟩
 have SH:hs.length<=4:=UJ (gE hs js f3 f4) QS;refine bp (λdone σ S'=>∃(ns:Vu) (P:List PV) (x4 x5:Option PV),σ=[some (bV js ds),some (.tup (cs.map PV.int)),some (.tup P),some (.tup (ns.map PV.int)),x4,x5]/\Ext S1 S'/\FI js ds hs cs done.length ns P) ⟨cs,[],_,_,rfl,.refl,.start hcl hc⟩ (λdone σ S' h=>by obtain⟨_,_,_,_,_,X,_⟩:=h;exact X _ _ f1) ?_ ?_
 .rintro done x rest σ S' K e ⟨ns,P,x4,x5,rfl,X2,F⟩ hK;have hi:done.length < hs.length:=by
   have:=Vf List.length e;rw[Wg,Um,UE]at this;omega
  have hx:vs[hs.length - 1 - done.length]?=some x:=by
   have h1:vs.reverse[done.length]?=some x:=by rw[e];simp
   rw[XG (by omega)]at h1;rw[<-hl];exact h1
  obtain⟨z,hz⟩:∃z,hs[hs.length - 1 - done.length]?=some z:=⟨_,Uq (by omega)⟩
  obtain⟨k,d,tr,rfl,hk,dk,pl,dn,t,m0,rfl,rfl,hd,hpl⟩:=hst _ _ _ hx hz;have T2:z ∉ hs.take (hs.length - 1 - done.length):=λhin=>by
   have hnd:=f3;rw[<-XI (hs.length - 1 - done.length) hs]at hnd;refine(Xy.mp hnd).2.2 z hin z ?_ rfl;rw[List.drop_eq_getElem_cons (show hs.length - 1 - done.length < hs.length by omega)];rw[Uq (by omega)]at hz;cases hz;exact .head _
  have hkl:k < cs.length:=by rw[hcl];exact(UH.mp hk).1
  obtain⟨nz,a1,a2,a3,_⟩:=F.col k z cs[k] hk (Uq hkl);simp only[Tg.put,List.set_cons_zero,List.set_cons_succ];refine kB (v:=decide (0 < nz)) (λQ E q=>?_) (λh=>?_) (λh=>?_)
  .simp only[aG,af,v3,lk,c3,aa,bG];rw[bj (v:=PV.int nz) (by rw[Ut,a1];rfl)];simp only[m6,cA];exact q
  .have h:=VP h;refine al λN2 JV=>?_;simp only[ap,ad,am,af,v3,lk,c3,aa,bG];rw[bj (v:=PV.int nz) (by rw[Ut,a1];rfl)];refine LP hg hk hd hpl T2 (by omega) λS3 m X3 m1 m2 m3=>?_;walk_at "1";obtain⟨F2,NR⟩:=F.put hg hcl hjn hf hi SH hz hk hd hpl a1 m1 m2 m3;refine JV _ _ (al λN2 JV=>?_);simp only[ap,ad,am,v3,lk];refine Mk hg NR F.len λS4 X4=>?_;walk_at "1";refine JV _ _ ?_;simp only[ap,af,aD,am,v3,lk,aR,List.set_cons_zero,List.set_cons_succ];refine⟨by show 1+P.length<=sizeLine;have:=F.Pe;exact bA (by omega),?_⟩;refine hK _ _ ⟨_,_,_,_,rfl,X2.trans (X3.trans X4),?_⟩;rw[Um,UM];exact F2
  .have h:=Wa h;have e0:nz=0:=by omega
   subst e0;simp only[aO];refine hK _ _ ⟨ns,P,_,_,rfl,X2,?_⟩;rw[Um,UM];exact F.skip hjn hi hz hk a1
 .rintro σ S2 ⟨ns,P,x4,x5,rfl,X2,F⟩;rw[Wg,hl]at F;walk_at "0";have QV:=X1.trans X2;have fin:∀(k:Nat) y c,js[k]?=some y->cs[k]?=some c->∃n,ns[k]?=some n/\0<=n/\(y∈hs->n=0)/\(y ∉ hs->n=c)/\uQ n (oH js ds k P)/\c<=n+w4 (oH js ds k P):=λk y c h1 h2=>by
   obtain⟨n,a1,a2,a3,a4,a5,a6,a7⟩:=F.col k y c h1 h2;rw[Nat.sub_self,List.drop_zero]at a4;exact⟨n,a1,a2,a4,a5,a6,a7⟩
  refine tt (P:=λS'=>Ext S S') (v:=ns.any λn=>decide (0 < n)) (λQ E q=>?_) (λh S3 X3=>?_) (λS3 h X3=>hN _ _ ?_)
  .simp only[aG,ak,am,aJ,aL,v3,lk,bW];refine aQ PV.int (λn=>PV.bl (decide (0 < n))) trivial ns [] (λz hz=>⟨_,rfl,λQ q=>?_⟩) (by rw[UN,U0,F.len];exact bA (by omega)) λp2 hp2=>?_
   .walk_at "x";exact q
   .rw[UX];simp only[AO,ac];rw[mz];dsimp only;rw[List.any_map];exact q _ (QV.trans (.new hp2))
  .obtain⟨n,hn,h0⟩:=WZ.mp h;obtain⟨k,hk,rfl⟩:=Wh hn;have hkj:k < js.length:=by rw[<-F.len];exact hk
   obtain⟨n',a1,a2,a3,a4,_⟩:=fin k js[k] cs[k] (Uq hkj) (Uq (by omega));rw[Uq hk]at a1;cases a1;have h0:=VP h0;have hy:js[k] ∉ hs:=λhin=>by have:=a3 hin;omega
   have:=hz0 k js[k] cs[k] (Uq hkj) (Uq (by omega)) λh=>hy ((tD hf _).mpr h);have:=a4 hy;omega
  .simp only[aw,v3,lk];have RO:∀(k:Nat) n,ns[k]?=some n->¬0 < n:=λk n hn h0=>by
    have:=List.any_eq_false.mp h n (UD hn);exact this (UO h0)
   refine q P S3 X3 (UJ F.Pe SH) F.QU λk c h2=>?_
   .have hkj:k < js.length:=by rw[<-hcl];exact(UH.mp h2).1
    have h1:js[k]?=some js[k]:=Uq hkj;obtain⟨n,a1,a2,a3,a4,a5,a6⟩:=fin k _ c h1 h2;have n0:n=0:=by have:=RO k n a1;omega
    subst n0;have hok:∀v∈P,(jb js ds 1 v).Ok js:=λv hv=>fZ (Bn hg) (rN (F.QU v hv));have hc:=Es h1 P hok;obtain⟨b1,b2⟩:=p_ (oH js ds k P) (0,0) 0;have b3:=b2 (VF _) a5;have b4:=(km hok).2.2 _ (UD hc);refine⟨_,?_,a6⟩;rw[hc];show some ((oH js ds k P).foldl jn (0,0))=_;have b4:0<=((oH js ds k P).foldl jn (0,0)).2:=b4
    congr 1
    refine Yu ?_ (by omega);rw[b1]
def Mm(S S':aA)(t:Ty)(v:PV):Prop:=∃pe pd,v = .tup [cf t.1,.ref pe,.ref pd]/\S' pe=some (.lst t.es)/\S' pd=some (.lst t.dm)/\S pe=none/\S pd=none
def Mm.NS{S S':aA}{t:Ty}{v:PV}(h:Mm S S' t v):NC S' t v:=let ⟨a,b,e,h1,h2,_⟩:=h;⟨a,b,e,h1,h2⟩
def Mm.back{S0 S S':aA}{t:Ty}{v:PV}(h:Mm S S' t v)(X:Ext S0 S):Mm S0 S' t v:=let ⟨a,b,e,h1,h2,h3,h4⟩:=h;⟨a,b,e,h1,h2,X.free h3,X.free h4⟩
abbrev oJ(w:ay):Prop:=∀{S:aA}{n:Nat}{t u:Ty}{v v':PV}{Q:bB}{E:bR},n<=1000->t.2.length=n->u.2.length=n->0<=t.1->0<=u.1->NC S t v->NC S u v'->(∀x S',Ext S S'->Mm S S' (t.join u) x->Q x S')->w [v,v'] S Q E
theorem ni{α β:Type}(a:α->PV)(b:β->PV):∀(xs:List α)(ys:List β),bY (xs.map a) (ys.map b)=(xs.zip ys).map λz=>.tup [a z.1,b z.2]
 |[],_=>rfl
 |_::_,[]=>rfl
 |x::xs,y::ys=>by
  have ih:=ni a b xs ys;unfold bY at ih ⊢;simp only[UA,List.zip_cons_cons];rw[ih]
theorem vF{α β:Type}(a c:α->PV)(b:β->PV):∀(xs:List α)(ys:List β),bE (xs.map a) (ys.map b) (xs.map c)=(xs.zip ys).map λz=>.tup [a z.1,b z.2,c z.1]
 |[],_=>rfl
 |_::_,[]=>rfl
 |x::xs,y::ys=>by
  have ih:=vF a c b xs ys;unfold bE at ih ⊢;simp only[UA,List.zip_cons_cons];rw[ih]
  rfl
def Br{xp:ay}(KZ:fc xp):oJ (aT 5 (ky xp)):=by
 intro S n t u v v' Q E hn ht hu ht0 T3 hv hv' k;obtain⟨pe,pd,rfl,e1,d1⟩:=hv;obtain⟨qe,qd,rfl,e2,d2⟩:=hv';unfold ky;refine cY ?_;rw[show ax 5 [.tup [cf t.1,.ref pe,.ref pd],.tup [cf u.1,.ref qe,.ref qd]]=[some (.tup [cf t.1,.ref pe,.ref pd]),some (.tup [cf u.1,.ref qe,.ref qd]),none,none,none] from rfl];have lz:(t.2.zip u.2).length=n:=by rw[VL,ht,hu,Yt]
 walk_at "3";walk_at "x";simp only[bG];refine KZ ht0 T3 ?_;walk_at "0";simp only[ap,aJ,kO,af,v3,c3,lk,aa,bU,e1,e2];rw[show bY t.es u.es=(t.2.zip u.2).map (λz=>.tup [.int z.1.1,.int z.2.1])from ni _ _ _ _];refine aQ (λz:(Int×Int)×(Int×Int)=>PV.tup [.int z.1.1,.int z.2.1]) (λz=>.int (z.1.1+z.2.1)) ⟨e1,e2⟩ (t.2.zip u.2) [] (λz hz=>⟨_,rfl,λQ q=>?_⟩) (by rw[UN,U0,lz];exact bA hn) λp hp=>?_
 .walk_at "x";exact q
 rw[UX,qU];have X1:Ext S (II S p (.lst (t.join u).es)):=.new hp;have hp1:(II S p (.lst (t.join u).es)) p=some (.lst (t.join u).es):=ac;generalize II S p (.lst (t.join u).es)=S1 at X1 hp1;walk_at "0";simp only[ap,aJ,uu,af,v3,c3,lk,aa,bU,kC,List.set_cons_succ,List.set_cons_zero,X1 _ _ d1,X1 _ _ d2,X1 _ _ e1];rw[show bE t.dm u.dm t.es=(t.2.zip u.2).map (λz=>.tup [.int z.1.2,.int z.2.2,.int z.1.1])from vF _ _ _ _ _];refine⟨by unfold Ty.dm;rw[Ul,Ul,ht,hu];exact Uo _,by unfold Ty.dm Ty.es;rw[Ul,Ul];exact Uo _,?_⟩;refine aQ (λz:(Int×Int)×(Int×Int)=>PV.tup [.int z.1.2,.int z.2.2,.int z.1.1]) (λz=>.int (jn z.1 z.2).2) ⟨X1 _ _ d1,X1 _ _ d2,X1 _ _ e1⟩ (t.2.zip u.2) [] (λz hz=>⟨_,rfl,λQ q=>?_⟩) (by rw[UN,U0,lz];exact bA hn) λp2 hp2=>?_
 .walk_at "x";exact q
 rw[UX,vq];refine hN _ _ ?_;walk_at "x";have Pr:p≠p2:=λe=>by rw[<-e,hp1]at hp2;cases hp2
 exact k _ _ (X1.trans (.new hp2)) ⟨p,p2,rfl,by rw[ar Pr];exact hp1,ac,hp,X1.free hp2⟩
def Cn(js:Vs):js.map (λ_=>PV.int 0)=(z0 js).es:=by
 unfold z0 zl Ty.es;rw[UQ]
 rfl
def Co(js:Vs):js.map (λ_=>PV.int 0)=(z0 js).dm:=by
 unfold z0 zl Ty.dm;rw[UQ]
 rfl
def Bs(js:Vs)(z:Str)(m:Int):js.map (λ_=>PV.int 0)=Ty.dm (0,jF js z m 0):=by
 rw[<-uB js z m 0];exact Wi λj _=>by split<;>rfl
abbrev vG(w:ay):Prop:=∀{S:aA}{n m:Int}{Q:bB}{E:bR},0<=n->0<=m->m < 2 ^ 62->Q (cf (n * m)) S->w [cf n,.int m] S Q E
def w5{xf:ay}(LH:kP xf):vG (aT 2 (il xf)):=by
 intro S n m Q E hn hm hm2 k;unfold il;refine cY ?_;rw[show ax 2 [cf n,.int m]=[some (cf n),some (.int m)] from rfl];simp only[cf];walk_at "x";simp only[bG,bU];refine⟨mS (by omega) (by omega),?_⟩;have b:=fY n;refine LH (by omega) (jq (by omega)) ?_;have e:=sL (n:=n) (m:=m);rw[XT]at e;rw[e];exact k
abbrev rP(w:ay):Prop:=∀{S:aA}{n:Nat}{t:Ty}{v:PV}{m:Int}{Q:bB}{E:bR},n<=1000->t.2.length=n->0<=t.1->1<=m->m < 2 ^ 62->NC S t v->(∀x S',Ext S S'->Mm S S' (t.again m) x->Q x S')->w [v,.int m] S Q E
def zq{xt:ay}(Ll:vG xt):rP (aT 3 (jk xt)):=by
 intro S n t v m Q E hn ht ht0 h1 h2 hv k;obtain⟨pe,pd,rfl,e1,d1⟩:=hv;unfold jk;refine cY ?_;rw[show ax 3 [.tup [cf t.1,.ref pe,.ref pd],.int m]=[some (.tup [cf t.1,.ref pe,.ref pd]),some (.int m),none] from rfl];walk_at "3";simp only[ap,aJ,kO,af,v3,c3,lk,aa,bU,kC,e1,d1];have ez:bY t.dm t.es=t.2.map (λp=>.tup [.int p.2,.int p.1]):=by
  unfold Ty.dm Ty.es bY;rw[List.zip_map',UQ]
  rfl
 rw[ez];refine aQ (λp:Int×Int=>PV.tup [.int p.2,.int p.1]) (λp=>.int (ag m p).2) ⟨d1,e1⟩ t.2 [] (λp hp=>⟨_,rfl,λQ q=>?_⟩) (by rw[UN,U0,ht];exact bA hn) λp hp=>?_
 .walk_at "x";refine⟨sE (by omega) (by omega),?_⟩;have e:(if p.2 - (m - 1) * p.1 > p.2 then p.2 - (m - 1) * p.1 else p.2)=(ag m p).2:=by
   unfold ag;dsimp only;rw[Xj,Wy p.1 (m - 1)];generalize (m - 1) * p.1=z
   split<;>split<;>omega
  rw[e];exact q
 rw[UX,sN];have X1:Ext S (II S p (.lst (t.again m).dm)):=.new hp;have hp1:(II S p (.lst (t.again m).dm)) p=some (.lst (t.again m).dm):=ac;generalize II S p (.lst (t.again m).dm)=S1 at X1 hp1;walk_at "1";refine hN _ _ ?_;simp only[aw,aD,am,ad,af,v3,c3,lk,aa,bG];refine Ll ht0 (by omega) h2 ?_;simp only[aJ,aL,af,v3,c3,lk,aa,bU,bW,X1 _ _ e1];refine aQ (λp:Int×Int=>PV.int p.1) (λp=>.int (p.1 * m)) (X1 _ _ e1) t.2 [] (λp hp=>⟨_,rfl,λQ q=>?_⟩) (by rw[UN,U0,ht];exact bA hn) λp2 hp2=>?_
 .walk_at "x";refine⟨sE (by omega) (by omega),?_⟩;rw[Wy];exact q
 rw[UX,om];have Pr:p≠p2:=λe=>by rw[<-e,hp1]at hp2;cases hp2
 exact k _ _ (X1.trans (.new hp2)) ⟨p2,p,rfl,ac,by rw[ar Pr];exact hp1,X1.free hp2,hp⟩
abbrev tE(n:Nat)(w:ay):Prop:=∀{S:aA}{js:Vs}{t:Bd}{v:PV}{Q:bB}{E:bR},js.length<=1000->t.good js []->aX t v=true->ci (2 ^ 60) v=true->t.dep<=n->(∀x S',Ext S S'->Mm S S' (t.Jw js v) x->Q x S')->w [eP js,t.pv,v] S Q E
def Bt{xj xm s0:ay}(Pf:oJ xj)(Nr:rP xm)(n:Nat)(ih:tE n s0):tE (n+1) (aT 8 (ir xj xm s0)):=by
 intro S js t v Q E hj hg hv hi hd k;have join:∀{S1:aA} {t1 u1:Ty} {x y:PV} {Q:bB} {E:bR},t1.Ok js->u1.Ok js->NC S1 t1 x->NC S1 u1 y->(∀w S',Ext S1 S'->Mm S1 S' (t1.join u1) w->Q w S')->xj [x,y] S1 Q E:=λh1 h2 l1 l2 q=>Pf (n:=js.length) hj h1.1 h2.1 h1.2.1 h2.2.1 l1 l2 q;unfold ir;refine cY ?_;rw[Bd.Lc,show ax 8 [eP js,.tup (.str t.hd::t.tl),v]=[some (eP js),some (.tup (.str t.hd::t.tl)),some v,none,none,none,none,none] from rfl];walk_at "3";unfold eP;walk_at "x";intro p0 hp0;rw[ac];dsimp only;rw[Ul,Vk];refine⟨by omega,by omega,bA (by simp only[List.length_singleton];omega),λpz QA=>?_⟩;have ez:(List.replicate js.length [PV.int 0]).flatten=js.map (λ_=>PV.int 0):=by
  clear hj hg k join
  induction js with
  |nil=>rfl
  |cons j r ih=>rw[UE,U1,VW,ih];rfl
 rw[ez];have X1:Ext S (II (II S p0 (.lst [.int 0])) pz (.lst (js.map λ_=>.int 0))):=.trans (.new hp0) (.new QA);have hz:(II (II S p0 (.lst [.int 0])) pz (.lst (js.map λ_=>.int 0))) pz=some (.lst (js.map λ_=>.int 0)):=ac;have fz:S pz=none:=(Ext.new hp0).free QA;generalize II (II S p0 (.lst [.int 0])) pz (.lst (js.map λ_=>.int 0))=S1 at X1 hz;have L1:Mm S S1 (z0 js) (.tup [.tup [.int 0,.int 1],.ref pz,.ref pz]):=⟨pz,pz,by rw[hU];rfl,by rw[hz,Cn],by rw[hz,Co],fz,fz⟩
 walk_at "0";simp only[bm,aG,af,v3,lk,c3,aa,bG,aS,Uu,Us];by_cases h1:t.hd=("pay":Str)
 .rw[if_pos h1];obtain⟨x,y,rfl⟩:=(Bd.OD t).mp h1;walk_at "x";simp only[Bd.tl,bU];rw[qS hg];exact k _ S1 X1 ⟨pz,pz,rfl,by rw[hz,Cn];rfl,by rw[hz,Co];rfl,fz,fz⟩
 rw[if_neg h1];walk_at "0";simp only[bm,aG,af,v3,lk,c3,aa,bG,aS,Uu,Us];by_cases h2:t.hd=("put":Str)
 .rw[if_pos h2];obtain⟨z,m,rfl⟩:=(Bd.NN t).mp h2;walk_at "x";simp only[Bd.tl,bU,kC];refine aQ PV.str (λj=>.int (if j=z then m else 0)) trivial js [] (λj hj=>⟨_,rfl,λQ q=>?_⟩) (by simpa using bA hj) λp hp=>?_
  .walk_at "x";simp only[bU,kC];walk_at "x";simp only[Uu,Us];refine⟨by split<;>exact mS (by decide) (by decide),?_⟩
   split
   .rename_i h;rw[if_pos h]at q;rw[XT];exact q
   .rename_i h;rw[if_neg h]at q;rw[Ys];exact q
  .rw[UX,qV js z m 0];have np:pz≠p:=λe=>by rw[<-e,hz]at hp;cases hp
   refine k _ _ (X1.trans (.new hp)) ⟨p,pz,by rw[hU];rfl,ac,by rw[ar np,hz,Bs js z m];rfl,X1.free hp,fz⟩
 rw[if_neg h2];walk_at "0";simp only[bm,aG,af,v3,lk,c3,aa,bG,aS,Uu,Us];by_cases h3:t.hd=("then":Str)
 .rw[if_pos h3];obtain⟨a,b,rfl⟩:=(Bd.MH t).mp h3;obtain⟨x,y,rfl,hx,hy⟩:=dM hv;have hb:=bz hi;walk_at "6";walk_at "x";simp only[Bd.tl,bG,bU,kC];refine ih hj hg.1 hx (hb x (by simp)) (by omega) λx2 S2 X2 L2=>?_;refine ih hj hg.2 hy (hb y (by simp)) (by omega) λx3 S3 X3 L3=>?_;refine join (aV a x hg.1 hx) (aV b y hg.2 hy) (L2.NS.mono X3) L3.NS λx4 S4 X4 L4=>?_;exact k _ S4 (X1.trans (X2.trans (X3.trans X4))) (L4.back (X1.trans (X2.trans X3)))
 rw[if_neg h3];walk_at "0";walk_at "x";walk_at "0";simp only[bm,aG,af,v3,lk,c3,aa,bG,aS,Uu,Us];by_cases h6:t.hd=("often":Str)
 .rw[if_pos h6];obtain⟨a,rfl⟩:=(Bd.MI t).mp h6;obtain⟨xs,rfl,hx⟩:=d_ hv;have QW:=bz hi;walk_at "6";have T4:∀{u:List PV},(∀x∈u,x∈xs)->∀w∈u.map (Pn js λy=>a.Jw js y),w.Ok js:=λhu w hw=>by
   obtain⟨g,P9,rfl⟩:=UU.mp hw;obtain⟨m,y,rfl,hm1,hy⟩:=cJ (UW.mp hx g (hu g P9));exact(aV a y hg hy).again hm1
  refine al λN2 JV=>?_;simp only[bS,aL,v3,lk,bW];refine bp (λdone σ S'=>∃(u:PV) (x5 x6:Option PV),σ=[some (.tup (js.map PV.str)),some (.tup (.str (Bd.IU a).hd::(Bd.IU a).tl)),some (.tup xs),some (.ref pz),some u,x5,x6,none]/\Ext S1 S'/\Mm S S' ((done.map (Pn js λy=>a.Jw js y)).foldl Ty.join (z0 js)) u) ⟨_,_,_,rfl,.refl,L1⟩ (λ_ _ _ _=>trivial) ?_ ?_
  .rintro done x rest σ S2 K e ⟨u,x5,x6,rfl,X2,L2⟩ hK;have P2:x∈xs:=by rw[e];simp
   obtain⟨m,y,rfl,hm1,hy⟩:=cJ (UW.mp hx x P2);have hb:=bz (QW _ P2);have hmb:=hb (.int m) (by simp);have T5:=hb y (by simp);simp only[ci,Us]at hmb;simp only[Tg.put,Tg.IL,List.set_cons_zero,List.set_cons_succ];simp only[ap,ad,am,af,v3,lk,c3,aa,Bd.tl,bU];refine ih hj hg hy T5 (by omega) λx3 S3 X3 L3=>?_;have ok:=aV a y hg hy;refine Nr (n:=js.length) hj ok.1 ok.2.1 hm1 (by omega) L3.NS λx4 S4 X4 L4=>?_;refine join (k7 _ _ (T4 λz hz=>by rw[e];simp[hz]) (fI js)) (ok.again hm1) (L2.NS.mono (X3.trans X4)) L4.NS λx5' S5 X5 L5=>?_;walk_at "1";refine hK _ _ ⟨_,_,_,rfl,X2.trans (X3.trans (X4.trans X5)),?_⟩;rw[l8];exact L5.back (X1.trans (X2.trans (X3.trans X4)))
  .rintro σ S2 ⟨u,x5,x6,rfl,X2,L2⟩;refine JV _ _ ?_;simp only[aw,v3,lk];exact k _ S2 (X1.trans X2) L2
 rw[if_neg h6];walk_at "0";have two:∀(hd2:List PV) (a b c:Bd) (i:Int) (y f2:PV) (x7:Option PV) (u:Ty) (S2:aA) (N':cU->aA->Prop),(.str t.hd::t.tl)=hd2++[a.pv,b.pv]->v = .tup [.int i,y]->(i=0\/i=1)->(if i=0 then a.pv else b.pv)=c.pv->c.good js []->aX c y=true->ci (2 ^ 60) y=true->c.dep<=n->Ext S S2->u.Ok js->NC S2 u f2->t.Jw js v=u.join (c.Jw js y)->
   aw (ad xj [v3 4,ad s0 [v3 0,af aa (v3 1) (af bd (af aa (v3 2) (c3 (.int 0))) (c3 (.int 2))),af aa (v3 2) (c3 (.int 1))]]) { nx:=N',rt:=Q,ex:=fE } [some (.tup (js.map PV.str)),some (.tup (.str t.hd::t.tl)),some v,some (.ref pz),some f2,none,none,x7] S2:=by
  intro hd2 a b c i y f2 x7 u S2 N' e1 e3 hI e4 g1 g2 gb g3 X2 hu L2 ee;subst e3;rw[e1];walk_at "x";simp only[bG,bU];rw[hJ hI];simp only[e4];refine ih hj g1 g2 gb g3 λx3 S3 X3 L3=>?_;refine join hu (aV c y g1 g2) (L2.mono X3) L3.NS λx4 S4 X4 L4=>?_;rw[<-ee]at L4;exact k _ S4 (X2.trans (X3.trans X4)) (L4.back (X2.trans X3))
 have RP:∀{u:Ty},u.Ok js->u=(z0 js).join u:=λh=>(gD h).symm;cases t with
 |rest=>
  simp only[Bd.hd];walk_at "y";walk_at "0";walk_at "y";exact k _ S1 X1 L1
 |IY a b=>
  walk_at "6";obtain⟨i,y,rfl,hc⟩:=dN hv;have hy':=bz hi y (by simp);simp only[Bd.hd];walk_at "y";walk_at "0";walk_at "y";refine hN _ _ ?_;rcases hc with⟨rfl,hy⟩|⟨rfl,hy⟩
  .exact two [.str "either"] a b a 0 y _ _ (z0 js) S1 _ rfl rfl (.inl rfl) (if_pos rfl) hg.1 hy hy' (by omega) X1 (fI js) L1.NS (RP (aV a y hg.1 hy))
  .exact two [.str "either"] a b b 1 y _ _ (z0 js) S1 _ rfl rfl (.inr rfl) (if_neg (by decide)) hg.2 hy hy' (by omega) X1 (fI js) L1.NS (RP (aV b y hg.2 hy))
 |IV z m a b=>
  walk_at "6";obtain⟨i,y,rfl,hc⟩:=dO hv;have hy':=bz hi y (by simp);simp only[Bd.hd,Bd.tl];rcases hc with⟨rfl,hy⟩|⟨rfl,hy⟩
  .skip
   .skip
    simp only[bm,eU,aG,af,v3,lk,c3,aa,bG,aS,Uu,av,Vt,U6];refine al λN2 JV=>?_;walk_at "x";refine aQ PV.str (λj=>.int (if j=z then m else 0)) trivial js [] (λj hj=>⟨_,rfl,λQ q=>?_⟩) (by simpa using bA hj) λp hp=>?_
    .walk_at "x";simp only[bU,kC];walk_at "x";simp only[Uu,Us];refine⟨by split<;>exact mS (by decide) (by decide),?_⟩
     split
     .rename_i h;rw[if_pos h]at q;rw[XT];exact q
     .rename_i h;rw[if_neg h]at q;rw[Ys];exact q
    rw[UX];have X2:Ext S1 (II S1 p (.lst (js.map λj=>.int (if j=z then m else 0)))):=.new hp;have h2':(II S1 p (.lst (js.map λj=>PV.int (if j=z then m else 0)))) p=some (.lst (js.map λj=>.int (if j=z then m else 0))):=ac;generalize II S1 p (.lst (js.map λj=>PV.int (if j=z then m else 0)))=S2 at X2 h2';refine JV _ _ ?_;walk_at "x";simp only[h2'];refine aQ (λj:Str=>PV.int (if j=z then m else 0)) (λj=>.int (if j=z then -m else 0)) h2' js [] (λj hj=>⟨_,rfl,λQ q=>?_⟩) (by simpa using bA hj) λp3 hp3=>?_
    .walk_at "x";have e:(0:Int) - (if j=z then m else 0)=if j=z then -m else 0:=by split<;>omega
     rw[e];exact q
    rw[UX,qV js z (-m) m];have np:p≠p3:=λe=>by rw[<-e,h2']at hp3;cases hp3
    have L3:NC (II S2 p3 (.lst (Ty.es (0,jF js z (-m) m)))) (0,jF js z (-m) m) (.tup [.tup [.int 0,.int 1],.ref p3,.ref p]):=⟨p3,p,by rw[hU],ac,by rw[ar np,h2',uB js z (-m) m]⟩
    have X3:Ext S (II S2 p3 (.lst (Ty.es (0,jF js z (-m) m)))):=X1.trans (X2.trans (.new hp3));generalize II S2 p3 (.lst (Ty.es (0,jF js z (-m) m)))=S3 at L3 X3;walk_at "0";walk_at "y";refine hN _ _ ?_;exact two [.str "take",.str z,.int m] a b a 0 y _ _ (0,jF js z (-m) m) S3 _ rfl rfl (.inl rfl) (if_pos rfl) hg.2.2.2.1 hy hy' (by omega) X3 (qY (by have:=hg.2.1;omega)) L3 rfl
  .skip
   walk_at "y";walk_at "0";walk_at "y";refine hN _ _ ?_;exact two [.str "take",.str z,.int m] a b b 1 y _ _ (z0 js) S1 _ rfl rfl (.inr rfl) (if_neg (by decide)) hg.2.2.2.2 hy hy' (by omega) X1 (fI js) L1.NS (RP (aV b y hg.2.2.2.2 hy))
 |use z=>exact absurd hg (by simp[Bd.good])
 |pay x y=>exact absurd rfl h1
 |put z m=>exact absurd rfl h2
 |IK a b=>exact absurd rfl h3
 |IU a=>exact absurd rfl h6
abbrev Ev(w:ay):Prop:=∀{S:aA}{js:Vs}{ds:List (Str×Bd)}{dk:Nat}{dn:Str}{t:Bd}{tr:PV}{Q:bB}{E:bR},HG js ds->ds[dk]?=some (dn,t)->aX t tr=true->bQ t tr<=120->(∀S',Ext S S'->Q (.bl true) S')->w [bV js ds,.tup [.tup [.str "do",.int (dk:Int),tr]]] S Q E
def ne_str{a b:Str}(h:a≠b):(false != decide (a=b))=false:=by rw[UG h];rfl
def Bu{xn xf s0:ay}(J3:jA xn)(MP:ix 6 xf):Ev (aT 3 (ck xn xf s0)):=by
 intro S js ds dk dn t tr Q E hg hd ht hc k;have hm:=UD hd;have hdl:dk < ds.length:=(UH.mp hd).1;unfold ck;refine cY ?_;rw[show ax 3 [bV js ds,.tup [.tup [.str "do",.int (dk:Int),tr]]]=[some (bV js ds),some (.tup [.tup [.str "do",.int (dk:Int),tr]]),none] from rfl];walk_at "3";refine kB (v:=false) (λQ E q=>by simp only[cI,aG,ak,am,v3,lk,c3,lW,U3];exact q) (λh=>nomatch h) (λ_=>hN _ _ (al λN hN=>?_));simp only[bS,aL,v3,lk,bW];refine bp (λdone σ S'=>∃x2,σ=[some (bV js ds),some (.tup [.tup [.str "do",.int (dk:Int),tr]]),x2]/\Ext S S') ⟨_,rfl,.refl⟩ (λ_ _ _ _=>trivial) ?_ ?_
 .rintro done x rest σ S2 K e ⟨x2,rfl,X2⟩ hK;have hx:x = .tup [.str "do",.int (dk:Int),tr]:=by
   have:x∈[PV.tup [.str "do",.int (dk:Int),tr]]:=by rw[e];simp
   exact Uy.mp this
  subst hx;simp only[Tg.put,List.set_cons_zero,List.set_cons_succ];refine al λN2 JV=>?_;refine kB (v:=false) (λQ E q=>?_) (λh=>nomatch h) (λ_=>JV _ _ ?_)
  .simp only[iy,cI,aG,ak,af,am,v3,lk,c3,lW,U3,UB,UZ,bx,aS,List.length_cons,List.length_nil,ad,aa,bU];simp only[U0,Nat.reduceAdd,Int.cast_ofNat_Int,Vt,WT,UB,UZ];refine J3 ?_;simp only[U3];exact q
  refine kB (v:=false) (λQ E q=>?_) (λh=>nomatch h) (λ_=>?_)
  .simp only[aG,af,v3,lk,c3,aa,bG,aS];rw[ne_str (by simp[av])];exact q
  refine kB (v:=false) (λQ E q=>?_) (λh=>nomatch h) (λ_=>?_)
  .simp only[iy,cI,aG,af,v3,lk,c3,aa,bG,bU,aS,Vt,WT,UB,UZ,qC,EQ,lO,cA,ak,am,bV,bx];rw[UO (show(0:Int)<=dk by omega)];simp only[U6,Ul];rw[UO (show(dk:Int) < (ds.length:Int) by omega)];exact q
  refine tt (P:=λS'=>Ext S S') (v:=false) (λQ E q=>?_) (λh=>nomatch h) (λS3 _ X3=>?_)
  .simp only[cI,aG,ad,am,af,v3,lk,c3,aa,bU,kC,bf,bV];rw[bj (v:=fX (dn,t)) (by rw[Ut,hd];rfl)];simp only[fX,bU];intro p hp;refine MP (js:=js) (hg.dp _ hm) (hg.gd _ hm) ht ac (by rw[UN];omega) λS3 X3 f3=>?_;simp only[U3];refine q S3 λa o ha=>?_;have hap:=X2 _ _ ha;have SI:a≠p:=λh=>by rw[h,hp]at hap;cases hap
   exact X3 a o (by rw[ar SI];exact hap) SI
  .simp only[aO];exact hK _ _ ⟨_,rfl,X3⟩
 .rintro σ S2 ⟨x2,rfl,X2⟩;refine hN _ _ ?_;simp only[aw,c3];exact k S2 X2
abbrev Ew(w:ay):Prop:=∀{S:aA}{js:Vs}{ds:List (Str×Bd)}{P:List PV}{Q:bB}{E:bR},HG js ds->(∀v∈P,Bq ds v)->(∀S',Ext S S'->Q (.bl true) S')->w [bV js ds,.tup P] S Q E
def NT{xn xf s0:ay}(J3:jA xn)(ih:Ev s0):Ew (aT 3 (ck xn xf s0)):=by
 intro S js ds P Q E hg hP k;unfold ck;refine cY ?_;rw[show ax 3 [bV js ds,.tup P]=[some (bV js ds),some (.tup P),none] from rfl];walk_at "3";refine kB (v:=false) (λQ E q=>by simp only[cI,aG,ak,am,v3,lk,c3,lW,U3];exact q) (λh=>nomatch h) (λ_=>hN _ _ (al λN hN=>?_));simp only[bS,aL,v3,lk,bW];refine bp (λdone σ S'=>∃x2,σ=[some (bV js ds),some (.tup P),x2]/\Ext S S') ⟨_,rfl,.refl⟩ (λ_ _ _ _=>trivial) ?_ ?_
 .rintro done x rest σ S2 K e ⟨x2,rfl,X2⟩ hK;obtain⟨m,dk,dn,t,tr,rfl,m1,m2,hd,ht,hc,hb,th⟩:=hP x (by rw[e];simp);simp only[Tg.put,List.set_cons_zero,List.set_cons_succ];refine al λN2 JV=>?_;refine kB (v:=false) (λQ E q=>?_) (λh=>nomatch h) (λ_=>JV _ _ ?_)
  .simp only[iy,cI,aG,ak,af,am,v3,lk,c3,lW,U3,UB,UZ,bx,aS,List.length_cons,List.length_nil,ad,aa,bU];simp only[U0,Nat.reduceAdd,Int.cast_ofNat_Int,Vt,WT,UB,UZ];refine J3 ?_;simp only[U3];exact q
  refine kB (v:=true) (λQ E q=>?_) (λ_=>?_) (λh=>nomatch h)
  .simp only[aG,af,v3,lk,c3,aa,bG,aS,Vt,Uu];exact q
  refine tt (P:=λS'=>Ext S S') (v:=false) (λQ E q=>?_) (λh=>nomatch h) (λS3 _ X3=>?_)
  .simp only[iy,cI,aG,ad,am,af,v3,lk,c3,aa,bU,kC,lO,cA,aD];rw[UG (show ¬m < 1 by omega)];simp only[UB,UZ];refine OQ.eq_nil (L:=3) (n:=14) (.tup (by show 1<=3;decide) λy hy=>?_) ?_
   .rw[Uy.mp hy];refine .tup (by show 3<=3;decide) λz hz=>?_;simp only[Uv,UK,Vp]at hz;rcases hz with rfl|rfl|rfl
    .exact .str (by decide +kernel)
    .exact .int _
    .exact th.x
   .rw[UG (by simp)];simp only[UB,UZ];refine ih hg hd ht hc λS3 X3=>?_;simp only[U3];exact q S3 (X2.trans X3)
  .simp only[aO];exact hK _ _ ⟨_,rfl,X3⟩
 .rintro σ S2 ⟨x2,rfl,X2⟩;refine hN _ _ ?_;simp only[aw,c3];exact k S2 X2
def zr{n i:Nat}(h:i < n):qi n (i:Int)=some i:=by unfold qi;rw[if_pos (by omega),if_pos (by omega)];simp
def qg{te:ba}{σ:cU}{S:aA}{xs:List PV}{Q:bB}{E:bR}(he:∀S Q E,Q (.tup xs) S->te σ S Q E)(hl:xs.length<=1000)(k:∀p S',S p=none->Ext S S'->S' p=some (.lst (List.replicate xs.length (.int 0)))->Q (.ref p) S'):af b_ (bf [c3 (.int 0)]) (ak bx [te]) σ S Q E:=by
 simp only[af,bf,am,c3,ak];intro p0 hp0;refine he _ _ _ ?_;simp only[bx,b_,ac];rw[Vk];refine⟨by omega,by omega,bA (by simp only[List.length_singleton];omega),λpz QA=>?_⟩;have ez:∀n:Nat,(List.replicate n [PV.int 0]).flatten=List.replicate n (PV.int 0):=λn=>by
  induction n with
  |zero=>rfl
  |succ n ih=>rw[U1,VW,ih];rfl
 rw[ez];exact k pz _ ((Ext.new hp0).free QA) ((Ext.new hp0).trans (.new QA)) ac
def tF(n:Nat):List.replicate n (PV.int 0)=(List.replicate n (0:Int)).map PV.int:=by rw[List.map_replicate]
abbrev Ex(w:ay):Prop:=∀{S:aA}{js:Vs}{ds:List (Str×Bd)}{dk:Nat}{dn:Str}{t:Bd}{tr:PV}{Q:bB}{E:bR},HG js ds->ds[dk]?=some (dn,t)->aX t tr=true->ci (2 ^ 60) tr=true->
  (∀x pc (cs:Vu) S',S pc=none->Ext S S'->NC S' (t.Jw js tr) x->S' pc=some (.lst (cs.map PV.int))->cs.length=ds.length->Q (.tup [x,.ref pc]) S')->w [bV js ds,.tup [.tup [.str "do",.int (dk:Int),tr]]] S Q E
def MQ(pc:Addr)(S:aA)(t:Ty)(v:PV):Prop:=∃pe pd,v = .tup [cf t.1,.ref pe,.ref pd]/\S pe=some (.lst t.es)/\S pd=some (.lst t.dm)/\pe≠pc/\pd≠pc
def Mm.n{S S':aA}{t:Ty}{v:PV}{pc:Addr}{o:SO}(h:Mm S S' t v)(hp:S pc=some o):MQ pc S' t v:=let ⟨a,b,e,h1,h2,h3,h4⟩:=h;⟨a,b,e,h1,h2,λz=>(by rw[z,hp]at h3;cases h3),λz=>(by rw[z,hp]at h4;cases h4)⟩
def MQ.NS{S:aA}{t:Ty}{v:PV}{pc:Addr}(h:MQ pc S t v):NC S t v:=let ⟨a,b,e,h1,h2,_⟩:=h;⟨a,b,e,h1,h2⟩
def MQ.put{S:aA}{t:Ty}{v:PV}{pc:Addr}{o:SO}(h:MQ pc S t v):MQ pc (II S pc o) t v:=let ⟨a,b,e,h1,h2,h3,h4⟩:=h;⟨a,b,e,by rw[ar h3];exact h1,by rw[ar h4];exact h2,h3,h4⟩
def MQ.fwd{S S2:aA}{t:Ty}{v:PV}{pc:Addr}(h:MQ pc S t v)(X:Ext S S2):MQ pc S2 t v:=let ⟨a,b,e,h1,h2,h3,h4⟩:=h;⟨a,b,e,X _ _ h1,X _ _ h2,h3,h4⟩
def Ey{S:aA}{js:Vs}{pe pd:Addr}(h1:S pe=some (.lst (List.replicate js.length (.int 0))))(h2:S pd=some (.lst (List.replicate js.length (.int 0)))):NC S (z0 js) (.tup [.tup [.int 0,.int 1],.ref pe,.ref pd]):=
 ⟨pe,pd,by rw[hU];rfl,by rw[h1,qT],by rw[h2,uA]⟩
def w9(js:Vs)(ds:List (Str×Bd)):bV js ds = .tup [eP js,.tup (ds.map fX)]:=rfl
def Bv{xt xm xs s0:ay}(MJ:tE 6 xt)(NU:oJ xs):Ex (aT 9 (bD xt xm xs s0)):=by
 intro S js ds dk dn t tr Q E hg hd ht hb k;have hm:=UD hd;have hdl:dk < ds.length:=(UH.mp hd).1;have hjl:=hg.jl;have RQ:=hg.dl;unfold bD;refine cY ?_;rw[show ax 9 [bV js ds,.tup [.tup [.str "do",.int (dk:Int),tr]]]=[some (bV js ds),some (.tup [.tup [.str "do",.int (dk:Int),tr]]),none,none,none,none,none,none,none] from rfl];walk_at "3";simp only[ap,aD,am,c3];refine qg (xs:=js.map PV.str) (λS Q E q=>by simp only[af,v3,lk,c3,aa,bV,bG];exact q) (by rw[Ul];omega) λpe S1 he X1 f1=>?_;refine qg (xs:=js.map PV.str) (λS Q E q=>by simp only[af,v3,lk,c3,aa,bV,bG];exact q) (by rw[Ul];omega) λpd S2 Ni X2 f2=>?_;rw[Ul]at f1 f2;walk_at "1";walk_at "0";simp only[ap];refine qg (xs:=ds.map fX) (λS Q E q=>by simp only[af,v3,lk,c3,aa,bV,bU];exact q) (by rw[Ul];omega) λpc S3 Ps X3 f3=>?_;rw[Ul,tF]at f3;have RS:=X1.trans (X2.trans X3);have QB:S pc=none:=(X1.trans X2).free Ps;have L0:MQ pc S3 (C.z0 js) (.tup [.tup [.int 0,.int 1],.ref pe,.ref pd]):=⟨pe,pd,by rw[hU];rfl,by rw[X3 _ _ (X2 _ _ f1),qT],by rw[X3 _ _ f2,uA],λz=>(by rw[<-z,X2 _ _ f1]at Ps;cases Ps),λz=>(by rw[<-z,f2]at Ps;cases Ps)⟩
 walk_at "1";walk_at "0";simp only[bS,aL,v3,lk,bW];refine bp (λdone σ S'=>∃(u:PV) (cs:Vu) (x4 x5 x6 x7 x8:Option PV),σ=[some (bV js ds),some (.tup [.tup [.str "do",.int (dk:Int),tr]]),some u,some (.ref pc),x4,x5,x6,x7,x8]/\Ext S S'/\MQ pc S' ((done.map λ_=>t.Jw js tr).foldl Ty.join (C.z0 js)) u/\S' pc=some (.lst (cs.map PV.int))/\cs.length=ds.length)
  ⟨_,_,_,_,_,_,_,rfl,RS,L0,f3,by rw[U7]⟩ (λ_ _ _ _=>trivial) ?_ ?_
 .rintro done x rest σ S4 K e ⟨u,cs,x4,x5,x6,x7,x8,rfl,X4,L4,f4,l4⟩ hK;have hx:x = .tup [.str "do",.int (dk:Int),tr]:=by
   have:x∈[PV.tup [.str "do",.int (dk:Int),tr]]:=by rw[e];simp
   exact Uy.mp this
  have QC:done=[]:=by
   have:=Vf List.length e;simp only[Um,List.length_cons,List.length_nil]at this;cases done with
   |nil=>rfl
   |cons a b=>rw[UE]at this;omega
  subst hx;subst QC;simp only[Tg.put,Tg.IL,List.set_cons_zero,List.set_cons_succ];refine al λN2 JV=>?_;refine kB (v:=true) (λQ E q=>?_) (λ_=>?_) (λh=>nomatch h)
  .simp only[aG,af,v3,lk,c3,aS,Vt,Uu];exact q
  refine al λN3 N6=>?_;simp only[ap,ad,am,af,v3,lk,c3,aa];rw[w9];simp only[bG,bU];rw[bj (v:=fX (dn,t)) (by rw[Ut,hd];rfl)];simp only[fX,bU];refine MJ (by omega) (hg.gd _ hm) ht hb (hg.dp _ hm) λx S5 X5 L5=>?_;walk_at "1";refine N6 _ _ ?_;have f5:=X5 _ _ f4;simp only[fT,af,v3,lk,c3,aa,f5];rw[bj (v:=PV.int cs[dk]) (by rw[Ut,Uq (by omega)];rfl)];simp only[aR,d6,f5,Ul,zr (show dk < cs.length by omega)];have N5:=(L4.fwd X5).put (o:=.lst ((cs.map PV.int).set dk (.int (cs[dk]+1))));have M5:=(L5.n f4).put (o:=.lst ((cs.map PV.int).set dk (.int (cs[dk]+1))));have f6:(II S5 pc (.lst ((cs.map PV.int).set dk (.int (cs[dk]+1))))) pc=some (.lst ((cs.set dk (cs[dk]+1)).map PV.int)):=by rw[ac,List.map_set]
  have X6:Ext S (II S5 pc (.lst ((cs.map PV.int).set dk (.int (cs[dk]+1))))):=(X4.trans X5).put QB;generalize II S5 pc (.lst ((cs.map PV.int).set dk (.int (cs[dk]+1))))=S6 at N5 M5 f6 X6;refine JV _ _ ?_;simp only[ap,ad,am,v3,lk];have ok:=aV t tr (hg.gd _ hm) ht;refine NU (n:=js.length) (by omega) (fI js).1 ok.1 (fI js).2.1 ok.2.1 N5.NS M5.NS λx7 S7 X7 L7=>?_;walk_at "1";exact hK _ _ ⟨_,_,_,_,_,_,_,rfl,X6.trans X7,L7.n f6,X7 _ _ f6,by rw[V2];exact l4⟩
 .rintro σ S4 ⟨u,cs,x4,x5,x6,x7,x8,rfl,X4,L4,f4,l4⟩;refine hN _ _ ?_;simp only[aw,aD,am,v3,lk];have L4:=L4.NS;refine k u pc cs S4 QB X4 ?_ f4 l4;have ok:=aV t tr (hg.gd _ hm) ht;rw[show([PV.tup [.str "do",.int (dk:Int),tr]].map λ_=>t.Jw js tr).foldl Ty.join (C.z0 js)=t.Jw js tr from gD ok]at L4;exact L4
abbrev Ez(w:ay):Prop:=∀{S:aA}{js:Vs}{ds:List (Str×Bd)}{P:List PV}{Q:bB}{E:bR},HG js ds->(∀v∈P,Bq ds v)->
  (∀x pc (cs:Vu) S',Ext S S'->NC S' (kD js (jb js ds 1) P) x->S' pc=some (.lst (cs.map PV.int))->Q (.tup [x,.ref pc]) S')->w [bV js ds,.tup P] S Q E
def Bw{js:Vs}{ds:List (Str×Bd)}{dk:Nat}{dn:Str}{t:Bd}{tr:PV}{m:Int}(hd:ds[dk]?=some (dn,t))(ok:(t.Jw js tr).Ok js):jb js ds 1 (vE m dk tr)=(t.Jw js tr).again m:=by
 rw[rg];unfold kD;rw[UA,U4,VJ,List.foldl_nil,rf hd,gD ok]
def NV{xt xm xs s0:ay}(Nr:rP xm)(NU:oJ xs)(ih:Ex s0):Ez (aT 9 (bD xt xm xs s0)):=by
 intro S js ds P Q E hg hP k;have hjl:=hg.jl;have RQ:=hg.dl;unfold bD;refine cY ?_;rw[show ax 9 [bV js ds,.tup P]=[some (bV js ds),some (.tup P),none,none,none,none,none,none,none] from rfl];walk_at "3";simp only[ap,aD,am,c3];refine qg (xs:=js.map PV.str) (λS Q E q=>by simp only[af,v3,lk,c3,aa,bV,bG];exact q) (by rw[Ul];omega) λpe S1 he X1 f1=>?_;refine qg (xs:=js.map PV.str) (λS Q E q=>by simp only[af,v3,lk,c3,aa,bV,bG];exact q) (by rw[Ul];omega) λpd S2 Ni X2 f2=>?_;rw[Ul]at f1 f2;have L0:NC S2 (C.z0 js) (.tup [.tup [.int 0,.int 1],.ref pe,.ref pd]):=Ey (X2 _ _ f1) f2;walk_at "1";walk_at "0";simp only[ap];refine qg (xs:=ds.map fX) (λS Q E q=>by simp only[af,v3,lk,c3,aa,bV,bU];exact q) (by rw[Ul];omega) λpc S3 Ps X3 f3=>?_;rw[Ul,tF]at f3;have RS:=X1.trans (X2.trans X3);walk_at "1";walk_at "0";simp only[bS,aL,v3,lk,bW];have RT:∀v∈P,(jb js ds 1 v).Ok js:=λv hv=>fZ (Bn hg) (rN (hP v hv));refine bp (λdone σ S'=>∃(u:PV) (pc:Addr) (cs:Vu) (x4 x5 x6 x7 x8:Option PV),σ=[some (bV js ds),some (.tup P),some u,some (.ref pc),x4,x5,x6,x7,x8]/\Ext S S'/\NC S' (kD js (jb js ds 1) done) u/\S' pc=some (.lst (cs.map PV.int))/\cs.length=ds.length)
  ⟨_,_,_,_,_,_,_,_,rfl,RS,L0.mono X3,f3,by rw[U7]⟩ (λ_ _ _ _=>trivial) ?_ ?_
 .rintro done x rest σ S4 K e ⟨u,pc,cs,x4,x5,x6,x7,x8,rfl,X4,L4,f4,l4⟩ hK;obtain⟨m,dk,dn,t,tr,rfl,m1,m2,hd,ht,hc,hb,th⟩:=hP x (by rw[e];simp);have hm:=UD hd;have ok:=aV t tr (hg.gd _ hm) ht;simp only[Tg.put,Tg.IL,List.set_cons_zero,List.set_cons_succ];refine al λN2 JV=>?_;refine kB (v:=false) (λQ E q=>?_) (λh=>nomatch h) (λ_=>?_)
  .simp only[aG,af,v3,lk,c3,aS];rw[ne_str (by simp[av])];exact q
  refine al λN3 N6=>?_;simp only[sw,ad,am,v3,lk];refine ih hg hd ht hb λx pc2 NM S5 hp2 X5 L5 f5 l5=>?_;simp only[Tg.put,Tg.IL,List.set_cons_zero,List.set_cons_succ];refine N6 _ _ (al λN3 N6=>?_);simp only[ap,ad,am,v3,lk];refine Nr (n:=js.length) (by omega) ok.1 ok.2.1 m1 (by omega) L5 λx6' S6 X6 L6=>?_;walk_at "1";refine N6 _ _ ?_;have SJ:=X6 _ _ (X5 _ _ f4);have SK:=X6 _ _ f5;simp only[ap,aJ,kO,v3,lk,SJ,SK];have ez:bY (cs.map PV.int) (NM.map PV.int)=(cs.zip NM).map λz=>.tup [.int z.1,.int z.2]:=ni _ _ _ _;rw[ez];refine aQ (λz:Int×Int=>PV.tup [.int z.1,.int z.2]) (λz=>.int (z.1+m * z.2)) ⟨SJ,SK⟩ (cs.zip NM) [] (λz hz=>⟨_,rfl,λQ q=>?_⟩) (by rw[UN,U0,VL];exact bA (by omega)) λp hp=>?_
  .walk_at "x";exact⟨sE (by omega) (by omega),q⟩
  rw[UX];have f7:(II S6 p (.lst ((cs.zip NM).map λz=>.int (z.1+m * z.2)))) p=some (.lst (((cs.zip NM).map λz=>z.1+m * z.2).map PV.int)):=by rw[ac,UQ];rfl
  have X7:Ext S6 (II S6 p (.lst ((cs.zip NM).map λz=>.int (z.1+m * z.2)))):=.new hp;generalize II S6 p (.lst ((cs.zip NM).map λz=>PV.int (z.1+m * z.2)))=S7 at f7 X7;walk_at "1";refine JV _ _ ?_;simp only[ap,ad,am,v3,lk];have okd:(kD js (jb js ds 1) done).Ok js:=km λv hv=>RT v (by rw[e];simp[hv]);have SL:=ok.again m1;refine NU (n:=js.length) (by omega) okd.1 SL.1 okd.2.1 SL.2.1 (L4.mono (X5.trans (X6.trans X7))) (L6.NS.mono X7) λx8' S8 X8 L8=>?_;walk_at "1";refine hK _ _ ⟨_,_,_,_,_,_,_,_,rfl,X4.trans (X5.trans (X6.trans (X7.trans X8))),?_,X8 _ _ f7,by rw[Ul,VL,l4,l5,Yt]⟩;rw[sV,Bw hd ok];exact L8.NS
 .rintro σ S4 ⟨u,pc,cs,x4,x5,x6,x7,x8,rfl,X4,L4,f4,l4⟩;refine hN _ _ ?_;simp only[aw,aD,am,v3,lk];exact k u pc cs S4 X4 L4 f4
end G29
namespace G29
open PySem L2 L3 Wd
open C CY
noncomputable def o8(js:Vs)(pj:Addr)(cost:Int)(st:Bool)(pd:Addr)(cm:Nat):List (bN×PV):=[(Sum.inr "names",eP js),(Sum.inr "jars",.ref pj),(Sum.inr "cost",cf cost),(Sum.inr "stuck",.bl st)]
section
variable {js:Vs}{pj pd:Addr}{c:Int}{st:Bool}{cm:Nat}
def tG:iH (o8 js pj c st pd cm) (Sum.inr "names")=some (eP js):=by simp[iH,o8,sS,av]
def nj:iH (o8 js pj c st pd cm) (Sum.inr "jars")=some (.ref pj):=by simp[iH,o8,sS,av]
def Bx:iH (o8 js pj c st pd cm) (Sum.inr "cost")=some (cf c):=by simp[iH,o8,sS,av]
def tH:iH (o8 js pj c st pd cm) (Sum.inr "stuck")=some (.bl st):=by simp[iH,o8,sS,av]
def By(n:Int):kK (o8 js pj c st pd cm) (Sum.inr "cost") (cf n)=o8 js pj n st pd cm:=by simp[kK,o8,sS,av]
def zt(b:Bool):kK (o8 js pj c st pd cm) (Sum.inr "stuck") (.bl b)=o8 js pj c b pd cm:=by simp[kK,o8,sS,av]
def vH:(o8 js pj c st pd cm).length < sizeLine:=by show 4 < sizeLine;decide
end
structure G4At(S:aA)(a pj pd:Addr)(js:Vs)(cm:Nat)(R:List (Int×List Int×Int))(w:Wl):Prop where
 d:S a=some (.dct (o8 js pj w.cost w.st.isSome pd cm))
 j:S pj=some (.lst (w.jars.map PV.int))
 nd:pd≠a
 ne:pj≠pd
section
variable {S:aA}{a pj pd:Addr}{js:Vs}{cm:Nat}{R:List (Int×List Int×Int)}{w:Wl}
def G4At.na(A:G4At S a pj pd js cm R w):pj≠a/\pd≠a:=⟨λe=>(by have:=A.j;rw[e,A.d]at this;cases this),A.nd⟩
def G4At.ud{w':Wl}{RU:Nat}(A:G4At S a pj pd js cm R w)(h1:w'.jars=w.jars):G4At (II S a (.dct (o8 js pj w'.cost w'.st.isSome pd RU))) a pj pd js RU R w':=⟨ac,by rw[ar A.na.1,h1];exact A.j,A.nd,A.ne⟩
def G4At.uj{w':Wl}(A:G4At S a pj pd js cm R w)(h1:w'.cost=w.cost)(h3:w'.st=w.st):G4At (II S pj (.lst (w'.jars.map PV.int))) a pj pd js cm R w':=⟨by rw[ar A.na.1.symm,h1,h3];exact A.d,ac,A.nd,A.ne⟩
end
abbrev vI(n:Nat)(x:ay):Prop:=∀{S:aA}{a pj pd:Addr}{js:Vs}{cm:Nat}{R:List (Int×List Int×Int)}{t:Bd}{v:PV}{w:Wl}{Q:bB}{E:bR},G4At S a pj pd js cm R w->w.ov=false->w.jars.length=js.length->0<=w.cost->t.dep<=n->t.good js []->aX t v=true->ci (2 ^ 60) v=true->
 (∀S',G4At S' a pj pd js cm R (gn js t v w)->Lo a pj pd S S'->Q .non S')->x [t.pv,v,.ref a] S Q E
def zu{xp s0:ay}(KZ:fc xp)(n:Nat)(ih:vI n s0):vI (n+1) (aT 8 (i3 xp s0)):=by
 intro S a pj pd js cm R t v w Q E A hov hlen hc0 hd hg htr hib k;unfold i3;refine cY ?_;rw[show ax 8 [t.pv,v,PV.ref a]=[some t.pv,some v,some (.ref a),none,none,none,none,none] from rfl];walk_at "3";refine kB (v:=w.st.isSome) (λQ E q=>by simp only[aG,af,v3,lk,c3,aa,gy,A.d,tH];exact q) (λh=>?_) (λh=>?_)
 .obtain⟨r,hr⟩:=W5.mp h;rw[jd t v w (re hr)]at k;simp only[yM];exact k S A .refl
 .have hst:w.st=none:=by cases hs:w.st with|none=>rfl|some r=>rw[hs]at h;cases h
  have hr:w.run=true:=Pd.mpr ⟨hst,hov⟩;walk_at "0";simp only[ap,af,v3,lk,c3,aa];rw[Bd.Lc];simp only[bG,List.set_cons_succ,List.set_cons_zero];refine hN _ _ ?_;rw[<-Bd.Lc];clear hN;cases t with
  |rest=>
   refine bO rfl (by simp[Bd.hd,av]) (bO rfl (by simp[Bd.hd,av]) (bO rfl (by simp[Bd.hd,av]) (bO rfl (by simp[Bd.hd,av]) (bO rfl (by simp[Bd.hd,av]) (bO rfl (by simp[Bd.hd,av]) ?_)))));exact k S A .refl
  |use z=>exact absurd (show z∈[] from hg) (by simp)
  |pay x y=>
   refine me rfl ?_;simp only[Bd.pv,fT,ad,am,af,v3,lk,c3,aa,gy,A.d,Bx,bU];have c:sH x y:=hg;rw[qS c];refine KZ hc0 (VI c.x0 (Wu (by decide) (by have:=c.low.pos;omega))) ?_;simp only[d6,gy,A.d,By];have e:gn js (.pay x y) v w=w.pay (x * (2520 / y)):=Wl.LL hr;rw[e]at k;exact⟨vH,k _ (A.ud (w':=w.pay (x * (2520 / y))) rfl) .ud⟩
  |put z m=>
   have hz:z∈js:=hg.1;have hl:js.idxOf z < w.jars.length:=by rw[hlen];exact(fg hz).2.2
   refine bO rfl (by simp[Bd.hd,av]) (me rfl (al λN hN=>?_));simp only[Bd.pv,ap,ut,af,v3,lk,c3,aa,gy,A.d,tG,am,bU];refine vA hz ?_;refine hN _ _ ?_;simp only[fT,af,v3,lk,c3,aa,gy,A.d,nj,A.j,rq hl,kC,d6,aR,Ul,rA hl,rB,List.set_cons_succ,List.set_cons_zero];have e:gn js (.put z m) v w=w.I9 js z m:=Wl.LL hr;rw[e]at k;exact k _ (A.uj (w':=w.I9 js z m) rfl rfl) .uj
  |IK b c=>
   walk_at "6";obtain⟨x,y,rfl,hx,hy⟩:=dM htr;have MR:=bz hib;refine bO rfl (by simp[Bd.hd,av]) (bO rfl (by simp[Bd.hd,av]) (me rfl (al λN hN=>?_)));simp only[Bd.pv,bg,ad,am,af,v3,lk,c3,aa,bG,bU];refine ih A hov hlen hc0 (by omega) hg.1 hx (MR _ (by simp)) λS1 A1 O1=>?_;have gk:=Ca b x w hg.1 ⟨hov,hlen,hc0⟩;refine hN _ _ ?_;simp only[Bd.pv,bg,ad,am,af,v3,lk,c3,aa,bU,kC];exact ih A1 gk.o gk.l gk.c (by omega) hg.2 hy (MR _ (by simp)) λS2 A2 O2=>k S2 A2 (O1.trans O2)
  |IY b c=>
   walk_at "6";obtain⟨i,y,rfl,hy⟩:=dN htr;have MR:=bz hib;refine bO rfl (by simp[Bd.hd,av]) (bO rfl (by simp[Bd.hd,av]) (bO rfl (by simp[Bd.hd,av]) (me rfl ?_)));rcases hy with⟨rfl,hy⟩|⟨rfl,hy⟩
   .simp only[Bd.pv,bg,ad,am,af,v3,lk,c3,aa,bG,bU,aR,Int.reduceAdd];exact ih A hov hlen hc0 (by omega) hg.1 hy (MR _ (by simp)) k
   .simp only[Bd.pv,bg,ad,am,af,v3,lk,c3,aa,bG,bU,kC,aR,Int.reduceAdd];exact ih A hov hlen hc0 (by omega) hg.2 hy (MR _ (by simp)) k
  |IV z m b c=>
   walk_at "6";obtain⟨i,y,rfl,hy⟩:=dO htr;have MR:=bz hib;have hz:z∈js:=hg.1;have hl:js.idxOf z < w.jars.length:=by rw[hlen];exact(fg hz).2.2
   refine bO rfl (by simp[Bd.hd,av]) (bO rfl (by simp[Bd.hd,av]) (bO rfl (by simp[Bd.hd,av]) (bO rfl (by simp[Bd.hd,av]) (me rfl (al λN hN=>?_)))));simp only[Bd.pv,ap,ut,af,v3,lk,c3,aa,gy,A.d,tG,am,bU];refine vA hz ?_;simp only[List.set_cons_succ,List.set_cons_zero];walk_at "0";rcases hy with⟨rfl,hy⟩|⟨rfl,hy⟩
   .refine kB (v:=true) (λQ E q=>by simp only[aG,af,v3,lk,c3,aa,bG,aS,Vt,Uu];exact q) (λ_=>?_) (λh=>nomatch h);refine al λN1 T6=>?_;simp only[fT,af,v3,lk,c3,aa,gy,A.d,nj,A.j,rq hl,kC,lO,cA,d6,zt];refine⟨vH,T6 _ _ ?_⟩;have e:gn js (.IV z m b c) (.tup [.int 0,y]) w=if w.jars.getD (js.idxOf z) 0 < m then { w.I9 js z (-m)with st:=some 0 } else gn js b y (w.I9 js z (-m)):=by
     show(w.go λw=>if w.jars.getD (js.idxOf z) 0 < m then { w.I9 js z (-m)with st:=some 0 } else gn js b y (w.I9 js z (-m)))=_;rw[Wl.LL hr]
    rw[e]at k;have fin:∀(w1:Wl) S1,G4At S1 a pj pd js cm R w1->Lo a pj pd S S1->w1.ov=false->w1.jars.length=js.length->0<=w1.cost->gn js b y w1=(if w.jars.getD (js.idxOf z) 0 < m then { w.I9 js z (-m)with st:=some 0 } else gn js b y (w.I9 js z (-m)))->N [some (Bd.IV z m b c).pv,some (.tup [.int 0,y]),some (.ref a),some (.str (Bd.IV z m b c).hd),some (.int (js.idxOf z:Nat)),none,none,none] S1:=by
     intro w1 S1 A1 O1 h1 h2 h3 e1;refine hN _ _ ?_;simp only[Bd.pv,bg,ad,am,af,v3,lk,c3,aa,bG,bU,HD,aR,Int.reduceAdd];exact ih A1 h1 h2 h3 (by omega) hg.2.2.2.1 hy (MR _ (by simp)) λS2 A2 O2=>k S2 (by rw[<-e1];exact A2) (O1.trans O2)
    have lb:(w.I9 js z (-m)).jars.length=js.length:=by unfold Wl.I9;dsimp only;rw[V2];exact hlen
    by_cases hs:w.jars.getD (js.idxOf z) 0 < m
    .rw[UO hs];have A1:G4At (II S a (.dct (o8 js pj w.cost true pd cm))) a pj pd js cm R { w with st:=some 0 }:=A.ud (w':={ w with st:=some 0 }) rfl;simp only[fT,af,v3,lk,c3,aa,gy,A1.d,nj,A1.j,rq hl,kC,bd,cA,d6,Ul,rA hl,rB];exact fin { w.I9 js z (-m)with st:=some 0 } _ (A1.uj (w':={ w.I9 js z (-m)with st:=some 0 }) rfl rfl) (Lo.ud.trans .uj) hov lb hc0 (by rw[jd b y _ (re (r:=0) rfl),if_pos hs])
    .rw[UG hs];have A1:G4At (II S a (.dct (o8 js pj w.cost false pd cm))) a pj pd js cm R w:=by
      have:=A.ud (w':=w) (RU:=cm) rfl;rw[hst]at this;exact this
     simp only[fT,af,v3,lk,c3,aa,gy,A1.d,nj,A1.j,rq hl,kC,bd,cA,d6,Ul,rA hl,rB];exact fin (w.I9 js z (-m)) _ (A1.uj (w':=w.I9 js z (-m)) rfl rfl) (Lo.ud.trans .uj) hov lb hc0 (by rw[if_neg hs])
   .refine kB (v:=false) (λQ E q=>by simp only[aG,af,v3,lk,c3,aa,bG,aS,Int.reduceEq,WM,Uu];exact q) (λh=>nomatch h) (λ_=>?_);refine hN _ _ ?_;simp only[Bd.pv,bg,ad,am,af,v3,lk,c3,aa,bG,bU,H_,aR,Int.reduceAdd];exact ih A hov hlen hc0 (by omega) hg.2.2.2.2 hy (MR _ (by simp)) k
  |IU b=>
   walk_at "6";obtain⟨gs,rfl,hgs⟩:=d_ htr;rw[UW]at hgs;refine bO rfl (by simp[Bd.hd,av]) (bO rfl (by simp[Bd.hd,av]) (bO rfl (by simp[Bd.hd,av]) (bO rfl (by simp[Bd.hd,av]) (bO rfl (by simp[Bd.hd,av]) (me rfl ?_)))));simp only[bS,aL,v3,lk];obtain⟨F,hF⟩:∃F:PV->Wl->Wl,F=λg w=>iter (λw=>gn js b (cP g) w) (nm (jx g)).toNat w:=⟨_,rfl⟩
   have k':∀S',G4At S' a pj pd js cm R (gs.foldl (λw g=>F g w) w)->Lo a pj pd S S'->Q .non S':=by rw[hF];exact k
   refine bp (λdone σ S'=>∃(x5 x6 x7:Option PV),σ=[some (Bd.IU b).pv,some (.tup gs),some (.ref a),some (.str (Bd.IU b).hd),none,x5,x6,x7]/\G4At S' a pj pd js cm R (done.foldl (λw g=>F g w) w)/\Gk js (done.foldl (λw g=>F g w) w)/\Lo a pj pd S S') ⟨_,_,_,rfl,A,⟨hov,hlen,hc0⟩,.refl⟩ (λ_ _ _ _=>trivial) ?_ ?_
   .rintro done g rest σ S1 K e ⟨x5,x6,x7,rfl,A1,RV,O1⟩ hK;have e':gs=done++g::rest:=e;obtain⟨m,y,rfl,hm,hy⟩:=cJ (hgs g (by rw[e'];simp));have MR:=bz (bz hib _ (show PV.tup [.int m,y]∈gs by rw[e'];simp));have hm2:m.natAbs<=2 ^ 60:=by have:=MR (.int m) (by simp);simpa [ci]using this
    simp only[uK]at hK;generalize done.foldl (λw g=>F g w) w=w1 at A1 RV hK;have T7:F (.tup [.int m,y]) w1=iter (λw=>gn js b y w) m.toNat w1:=by rw[hF];rfl
    rw[T7]at hK;simp only[Tg.put,Tg.IL,List.set_cons_succ,List.set_cons_zero];simp only[bS,iQ,v3,lk];refine⟨by omega,by omega,?_⟩;refine bp (λdn σ S'=>∃(x7:Option PV),σ=[some (Bd.IU b).pv,some (.tup gs),some (.ref a),some (.str (Bd.IU b).hd),none,some (.int m),some y,x7]/\G4At S' a pj pd js cm R (iter (λw=>gn js b y w) dn.length w1)/\Gk js (iter (λw=>gn js b y w) dn.length w1)/\Lo a pj pd S S') ⟨_,rfl,A1,RV,O1⟩ (λ_ _ _ _=>trivial) ?_ ?_
    .rintro dn u rs σ S2 K2 e2 ⟨x7,rfl,A2,P3,O2⟩ QO;simp only[Um,List.length_singleton,mf]at QO;simp only[Tg.put,List.set_cons_succ,List.set_cons_zero];simp only[Bd.pv,bg,ad,am,af,v3,lk,c3,aa,bU];exact ih A2 P3.o P3.l P3.c (by omega) hg hy (MR _ (by simp)) λS3 A3 O3=>QO _ _ ⟨_,rfl,A3,Ca b y _ hg P3,O2.trans O3⟩
    .rintro σ S2 ⟨x7,rfl,A2,P3,O2⟩;rw[dX]at A2 P3;exact hK _ _ ⟨_,_,_,rfl,A2,P3,O2⟩
   .rintro σ S1 ⟨x5,x6,x7,rfl,A1,RV,O1⟩;exact k' S1 A1 O1
end G29
namespace G29
open PySem L2 L3 Wd
open C
noncomputable def nr(t:Bd):Nat:=(t.rws (mq []) false).length
def Oc(q:Qs)(a b:Bd)(r:Bool):(Bd.IK a b).rws q r=a.rws q r++b.rws q r:=VD ..
def Od(q:Qs)(a b:Bd)(r:Bool):(Bd.IY a b).rws q r=(.IY a b,r)::(a.rws q r++b.rws q r):=Vf (_::·) (VD ..)
def Oe(q:Qs)(z:Str)(m:Int)(a b:Bd)(r:Bool):(Bd.IV z m a b).rws q r=(.IV z m a b,r)::(a.rws q (r&&q z)++b.rws q r):=Vf (_::·) (VD ..)
def rQ(q:Qs)(t:Bd):∀r:Bool,(t.rws q r).length=nr t:=by
 induction t with
 |rest=>intro r;rfl
 |pay a b=>intro r;rfl
 |put a b=>intro r;rfl
 |use a=>intro r;rfl
 |IU a ih=>intro r;show(a.rws q r).length+1=nr a+1;rw[ih r]
 |IK a b Ja Jd=>intro r;unfold nr;rw[Oc,Oc,Um,Um,Ja r,Jd r];rfl
 |IY a b Ja Jd=>intro r;unfold nr;rw[Od,Od,UE,UE,Um,Um,Ja r,Jd r];rfl
 |IV z m a b Ja Jd=>intro r;unfold nr;rw[Oe,Oe,UE,UE,Um,Um,Ja _,Jd r];rfl
noncomputable def vis:Bd->PV->Nat->List Nat
 | .rest,_,_=>[]
 | .IK a b,v,i=>vis a (jx v) i++vis b (cP v) (i+nr a)
 | .IU a,v,i=>i::(F_ v).flatMap λg=>vis a (cP g) (i+1)
 | .IY a b,v,i=>i::if nm (jx v)=0 then vis a (cP v) (i+1) else vis b (cP v) (i+1+nr a)
 | .IV _ _ a b,v,i=>i::if nm (jx v)=0 then vis a (cP v) (i+1) else vis b (cP v) (i+1+nr a)
 |_,_,i=>[i]
def EA{q:Qs}(t:Bd):∀(v:PV)(i:Nat),aX t v=true->(∀p∈J_ t v,q p.1=true)->∀r∈vis t v i,PV.int (r:Int)∈nums i (t.rws q true):=by
 induction t with
 |rest=>intro v i _ _ r hr;cases hr
 |pay a b=>intro v i _ _ r hr;rw[Uy.mp hr];simp[Bd.rws,Bd.pr,Bd.IW,nums]
 |put a b=>intro v i _ _ r hr;rw[Uy.mp hr];simp[Bd.rws,Bd.pr,Bd.IW,nums]
 |use a=>intro v i _ _ r hr;rw[Uy.mp hr];simp[Bd.rws,Bd.pr,Bd.IW,nums]
 |IU a ih=>
  intro v i hv hp r hr;obtain⟨xs,rfl,hx⟩:=d_ hv;rw[show(Bd.IU a).rws q true=(.IU a,true)::a.rws q true from rfl,gF];rcases Uv.mp hr with e|hr
  .rw[e];simp
  .obtain⟨g,hg,hr⟩:=VR.mp hr;have hg:g∈xs:=hg;obtain⟨m,y,rfl,_,hy⟩:=cJ (UW.mp hx g hg);exact UI _ (ih y (i+1) hy (λp h=>hp p (VR.mpr ⟨_,hg,h⟩)) r hr)
 |IK a b Ja Jd=>
  intro v i hv hp r hr;obtain⟨x,y,rfl,hx,hy⟩:=dM hv;rw[show(Bd.IK a b).rws q true=a.rws q true++b.rws q true from VD ..];rw[dh,rQ];rcases Ur.mp hr with hr|hr
  .exact UY _ (Ja x i hx (λp h=>hp p (UY _ h)) r hr)
  .exact UI _ (Jd y _ hy (λp h=>hp p (UI _ h)) r hr)
 |IY a b Ja Jd=>
  intro v i hv hp r hr;obtain⟨j,y,rfl,hc⟩:=dN hv;rw[show(Bd.IY a b).rws q true=(.IY a b,true)::(a.rws q true++b.rws q true)from Vf (_::·) (VD ..),gF,dh,rQ];rcases Uv.mp hr with e|hr
  .rw[e];simp
  .refine UI _ ?_;rcases hc with⟨rfl,hy⟩|⟨rfl,hy⟩
   .exact UY _ (Ja y (i+1) hy hp r hr)
   .exact UI _ (Jd y _ hy hp r hr)
 |IV z m a b Ja Jd=>
  intro v i hv hp r hr;obtain⟨j,y,rfl,hc⟩:=dO hv;rw[show(Bd.IV z m a b).rws q true=(.IV z m a b,true)::(a.rws q (true&&q z)++b.rws q true)from Vf (_::·) (VD ..),gF,dh,rQ];rcases Uv.mp hr with e|hr
  .rw[e];simp
  .refine UI _ ?_;rcases hc with⟨rfl,hy⟩|⟨rfl,hy⟩
   .have hp:∀p∈(z,0 - m)::J_ a y,q p.1=true:=hp;rw[hp (z,0 - m) (by simp)];exact UY _ (Ja y (i+1) hy (λp h=>hp p (by simp[h])) r hr)
   .exact UI _ (Jd y _ hy hp r hr)
def jB(t:Bd):∀(v:PV)(i:Nat),aX t v=true->(vis t v i).length<=bQ t v:=by
 induction t with
 |rest=>intro v i _;exact Uo _
 |pay a b=>intro v i _;exact Uo _
 |put a b=>intro v i _;show 1<=2;omega
 |use a=>intro v i _;exact Uo _
 |IK a b Ja Jd=>
  intro v i hv;obtain⟨x,y,rfl,hx,hy⟩:=dM hv;have h1:=Ja x i hx;have h2:=Jd y (i+nr a) hy;show(vis a x i++vis b y (i+nr a)).length<=bQ a x+bQ b y;rw[Um];omega
 |IY a b Ja Jd=>
  intro v i hv;obtain⟨j,y,rfl,hc⟩:=dN hv;rcases hc with⟨rfl,hy⟩|⟨rfl,hy⟩
  .have h1:=Ja y (i+1) hy;show(vis a y (i+1)).length+1<=bQ a y+1;omega
  .have h1:=Jd y (i+1+nr a) hy;show(vis b y (i+1+nr a)).length+1<=bQ b y+1;omega
 |IV z m a b Ja Jd=>
  intro v i hv;obtain⟨j,y,rfl,hc⟩:=dO hv;rcases hc with⟨rfl,hy⟩|⟨rfl,hy⟩
  .have h1:=Ja y (i+1) hy;show(vis a y (i+1)).length+1<=bQ a y+2;omega
  .have h1:=Jd y (i+1+nr a) hy;show(vis b y (i+1+nr a)).length+1<=bQ b y+2;omega
 |IU a ih=>
  intro v i hv;obtain⟨xs,rfl,hx⟩:=d_ hv;show(xs.flatMap λg=>vis a (cP g) (i+1)).length+1<=cs a 0 xs+1;have key:∀(xs:List PV)(k:Nat),xs.all (kT a)=true->k+(xs.flatMap λg=>vis a (cP g) (i+1)).length<=cs a k xs:=by
   intro xs
   induction xs with
   |nil=>intro k _;exact Uo _
   |cons x xs ih2=>
    intro k hx;rw[List.all_cons,V6]at hx;obtain⟨m,y,rfl,hm,hy⟩:=cJ hx.1;have h1:=ih y (i+1) hy;have h2:=ih2 (k+m.toNat * (bQ a y+1)) hx.2;rw[Wz,Um];show k+((vis a y (i+1)).length+_)<=cs a (k+m.toNat * (bQ a y+1)) xs;have h3:1 * (bQ a y+1)<=m.toNat * (bQ a y+1):=WY _ (by omega);omega
  have:=key xs 0 hx;omega
abbrev Bz(n:Nat)(w:ay):Prop:=∀{S:aA}{js:Vs}{t:Bd}{v:PV}{i:Nat}{Q:bB}{E:bR},t.dep<=n->t.good js []->rX js->t.size<=900->aX t v=true->bQ t v<=16000000->(∀p S',S p=none->Ext S S'->S' p=some (.lst ((vis t v i).map λr:Nat=>PV.int (r:Int)))->Q (.ref p) S')->w [t.pv,v,.int (i:Int)] S Q E
def zv{xw:ay}{n:Nat}(ME:ff n xw){S:aA}{js:Vs}{a:Bd}{i:Nat}{σ:cU}{ta ti:ba}{Q:bB}{E:bR}(hd:a.dep<=n)(hg:a.good js [])(hj:rX js)(hz:a.size<=900)(ha:∀S Q E,Q a.pv S->ta σ S Q E)(hi:∀S Q E,Q (.int (i:Int)) S->ti σ S Q E)(k:∀S',Ext S S'->Q (.int ((i+nr a:Nat):Int)) S') :
  ad xw [ta,ti,bf [],c3 (.bl false),bf []] σ S Q E:=by
 simp only[ad,am];refine ha _ _ _ (hi _ _ _ ?_);simp only[bf,am,c3];intro p1 hp1 p2 hp2;have SM:p1≠p2:=λe=>by rw[<-e,ac]at hp2;cases hp2
 refine ME (hs:=[]) (fs:=[]) hd hg hj (λz hz=>by cases hz) (by rw[ar SM,ac];rfl) ac SM (by rw[UN];omega) λS' X _=>?_;rw[rQ];refine k S' λb o hb=>?_;have hb2:(II (II S p1 (.lst [])) p2 (.lst [])) b=some o:=((Ext.new hp1).trans (.new hp2)) b o hb;exact X b o hb2 λe=>by
  have:=(Ext.new hp1 (o:=.lst [])) b o hb;rw[e,hp2]at this;cases this
def HL{A B I:ba}{σ:cU}{S:aA}{Q:bB}{E:bR}{x y j:Int}(hj:j=0\/j=1)(hA:∀S Q E,Q (.int x) S->A σ S Q E)(hB:∀Q E,(∀S',Ext S S'->Q (.int y) S')->B σ S Q E)(hI:∀S Q E,Q (.int j) S->I σ S Q E)(k:∀S',Ext S S'->Q (.int (if j=0 then x else y)) S'):af aa (bf [A,B]) I σ S Q E:=by
 simp only[af,bf,am];refine hA _ _ _ (hB _ _ λS' X=>?_);intro p hp;refine hI _ _ _ ?_;simp only[aa,ac];rcases hj with rfl|rfl
 .simp only[bG];exact k _ (X.trans (.new hp))
 .simp only[bU];exact k _ (X.trans (.new hp))
def NW{xw s0 : ay}{m : Nat}(ME : ff m xw)(n : Nat)(hn : n <= m)(ih : Bz n s0) : Bz (n + 1) (aT 8 (iw xw s0)) := by
 intro S js t v i Q E hd hg hj hz hv hc k;have hvl := jB t v i hv;unfold iw;refine cY ?_;rw [Bd.Lc, show ax 8 [.tup (.str t.hd :: t.tl), v, .int (i : Int)] = [some (.tup (.str t.hd :: t.tl)), some v, some (.int (i : Int)), none, none, none, none, none] from rfl];refine al λN hN => ?_;refine kB (v := decide (t.hd = ("rest" : Str))) (λQ E q => by simp only [aG, af, v3, lk, c3, aa, bG, aS, Uu]; exact q) (λh => ?_) (λh => hN _ _ (al λN hN => ?_))
 .have h := VP h;have e : vis t v i = [] := by cases t <;> first | rfl | (simp [Bd.hd, av] at h; done)
  rw [e] at k;simp only [aw, bf, am];exact λp hp => k p _ hp (.new hp) ac
 have h1 := Wa h;refine kB (v := decide (t.hd = ("then" : Str))) (λQ E q => by simp only [aG, af, v3, lk, c3, aa, bG, aS, Uu]; exact q) (λh => ?_) (λh => hN _ _ (al λN hN => ?_))
 .obtain ⟨a, b, rfl⟩ := (Bd.MH t).mp (VP h);obtain ⟨x, y, rfl, hx, hy⟩ := dM hv;simp only [Bd.dep] at hd;simp only [Bd.size] at hz;have hc : bQ a x + bQ b y <= 16000000 := hc;refine al λN2 JV => ?_;simp only [ap];refine zv ME (a := a) (i := i) (by omega) hg.1 hj (by omega) (λS Q E q => by simp only [af, v3, lk, c3, aa, Bd.tl, bU]; exact q) (λS Q E q => by simp only [v3, lk]; exact q) λS1 X1 => ?_;simp only [List.set_cons_zero, List.set_cons_succ];refine JV _ _ ?_;simp only [aw, af, ad, am, v3, lk, c3, aa, Bd.tl, bG, bU, kC];refine ih (by omega) hg.1 hj (by omega) hx (by omega) λp2 S2 hp2 X2 f2 => ?_;refine ih (by omega) hg.2 hj (by omega) hy (by omega) λp3 S3 hp3 X3 f3 => ?_;simp only [aR, X3 _ _ f2, f3];have l1 := jB a x i hx; have l2 := jB b y (i + nr a) hy;refine ⟨oF (by rw [Ul, Ul]; omega), λp4 Om => ?_⟩;refine k p4 _ ((X1.trans (X2.trans X3)).free Om) (X1.trans (X2.trans (X3.trans (.new Om)))) ?_;rw [ac, <- U8]; rfl
 have h2 := Wa h;simp only [ap, bf, am, v3, lk];intro pf hpf;have f1 : (II S pf (.lst [.int (i : Int)])) pf = some (.lst ([i].map λr : Nat => PV.int (r : Int))) := ac;have X1 : Ext S (II S pf (.lst [.int (i : Int)])) := .new hpf;generalize II S pf (.lst [.int (i : Int)]) = S1 at f1 X1;simp only [List.set_cons_zero, List.set_cons_succ];refine hN _ _ (al λN hN => ?_);by_cases h3 : t.hd = ("often" : Str)
 .obtain ⟨a, rfl⟩ := (Bd.MI t).mp h3;obtain ⟨xs, rfl, hx⟩ := d_ hv;simp only [Bd.dep] at hd;simp only [Bd.size] at hz;refine kB (v := true) (λQ E q => by simp only [aG, af, v3, lk, c3, aa, bG, aS, Uu]; rw [UO h3]; exact q) (λ_ => ?_) (λh => nomatch h);simp only [bS, aL, v3, lk, bW];have hc : cs a 0 xs + 1 <= 16000000 := hc;have key : ∀(xs : List PV)(k : Nat), xs.all (kT a) = true -> k + (xs.flatMap λg => vis a (cP g) (i + 1)).length <= cs a k xs := by
   intro xs
   induction xs with
   | nil => intro k _; exact Uo _
   | cons x xs ih2 =>
    intro k hx;rw [List.all_cons, V6] at hx;obtain ⟨m, y, rfl, hm, hy⟩ := cJ hx.1;have h1 := jB a y (i + 1) hy;have h2 := ih2 (k + m.toNat * (bQ a y + 1)) hx.2;rw [Wz, Um];show k + ((vis a y (i + 1)).length + _) <= cs a (k + m.toNat * (bQ a y + 1)) xs;have h3 : 1 * (bQ a y + 1) <= m.toNat * (bQ a y + 1) := WY _ (by omega);omega
  refine bp (λdone σ S' => ∃ x5 x6, σ = [some (.tup (.str (Bd.IU a).hd :: (Bd.IU a).tl)), some (.tup xs), some (.int (i : Int)), none, some (.ref pf), x5, x6, none] /\ Ext S S' /\ S' pf = some (.lst ((i :: done.flatMap λg => vis a (cP g) (i + 1)).map λr : Nat => PV.int (r : Int)))) ⟨_, _, rfl, X1, f1⟩ (λ_ _ _ _ => trivial) ?_ ?_
  .rintro done x rest σ S2 K e ⟨x5, x6, rfl, X2, f2⟩ hK;have P2 : x ∈ xs := by rw [e]; simp
   obtain ⟨m, y, rfl, hm1, hy⟩ := cJ (UW.mp hx x P2);obtain ⟨q1, q2⟩ := vD (a := a) (k := 0) e hm1;simp only [Tg.put, Tg.IL, List.set_cons_zero, List.set_cons_succ];simp only [bg, jp, am, ad, af, v3, lk, c3, aa, Bd.tl, bU, aR, vg, f2, Xz];rw [show ((i : Int) + 1) = ((i + 1 : Nat) : Int) by omega];refine ih (by omega) hg hj (by omega) hy (by omega) λp3 S3 hp3 X3 f3 => ?_;simp only [bT, X3 _ _ f2, f3];have hall : (done ++ [PV.tup [.int m, y]]).all (kT a) = true := by
    rw [UW]; intro z hz2;rcases Ur.mp hz2 with h | h
    .exact UW.mp hx z (by rw [e]; simp [h])
    .rw [Uy.mp h]; exact UW.mp hx _ P2
   have l1 := key (done ++ [PV.tup [.int m, y]]) 0 hall;rw [VN, Um] at l1;have e1 : ([PV.tup [.int m, y]].flatMap λg => vis a (cP g) (i + 1)) = vis a y (i + 1) := by simp [cP]
   rw [e1] at l1;refine ⟨oF (by rw [Ul, Ul, UE]; omega), hK _ _ ⟨_, _, rfl, (X2.trans X3).put hpf, ?_⟩⟩;rw [ac, <- U8, List.cons_append, VN, e1]
  .rintro σ S2 ⟨x5, x6, rfl, X2, f2⟩;refine hN _ _ (al λN hN => ?_);refine kB (v := false) (λQ E q => by simp only [iy, aG, af, v3, lk, c3, aa, bG, aS]; rw [ne_str (by simp [Bd.hd, av]), ne_str (by simp [Bd.hd, av])]; simp only [UB, UZ]; exact q) (λh => nomatch h) (λ_ => hN _ _ ?_);simp only [aw, v3, lk];exact k pf S2 hpf X2 f2
 .refine kB (v := false) (λQ E q => by simp only [aG, af, v3, lk, c3, aa, bG, aS]; rw [ne_str h3]; exact q) (λh => nomatch h) (λ_ => hN _ _ (al λN hN => ?_));by_cases hh : t.hd = ("either" : Str) \/ t.hd = ("take" : Str)
  .obtain ⟨hd2, a, b, j, y, e1, rfl, hj2, ga, gb, da, db, dz, hy, hcc, RW⟩ : ∃(hd2 : List PV)(a b : Bd)(j : Int)(y : PV), (PV.str t.hd :: t.tl) = hd2 ++ [a.pv, b.pv] /\ v = .tup [.int j, y] /\ (j = 0 \/ j = 1) /\ a.good js [] /\ b.good js [] /\ a.dep <= n /\ b.dep <= n /\ a.size + b.size <= 899 /\ aX (if j = 0 then a else b) y = true /\ bQ (if j = 0 then a else b) y + 1 <= bQ t v /\ vis t v i = i :: vis (if j = 0 then a else b) y (if j = 0 then i + 1 else i + 1 + nr a) := by
    cases t with
    | IY a b =>
     obtain ⟨j, y, rfl, RX⟩ := dN hv;simp only [Bd.dep] at hd;simp only [Bd.size] at hz;rcases RX with ⟨rfl, hy⟩ | ⟨rfl, hy⟩
     .exact ⟨[.str "either"], a, b, 0, y, rfl, rfl, .inl rfl, hg.1, hg.2, by omega, by omega, by omega, hy, Uo _, rfl⟩
     .exact ⟨[.str "either"], a, b, 1, y, rfl, rfl, .inr rfl, hg.1, hg.2, by omega, by omega, by omega, hy, Uo _, rfl⟩
    | IV z m a b =>
     obtain ⟨j, y, rfl, RX⟩ := dO hv;simp only [Bd.dep] at hd;simp only [Bd.size] at hz;rcases RX with ⟨rfl, hy⟩ | ⟨rfl, hy⟩
     .exact ⟨[.str "take", .str z, .int m], a, b, 0, y, rfl, rfl, .inl rfl, hg.2.2.2.1, hg.2.2.2.2, by omega, by omega, by omega, hy, XW _, rfl⟩
     .exact ⟨[.str "take", .str z, .int m], a, b, 1, y, rfl, rfl, .inr rfl, hg.2.2.2.1, hg.2.2.2.2, by omega, by omega, by omega, hy, XW _, rfl⟩
    | _ => simp [Bd.hd, av] at hh
   refine kB (v := true) (λQ E q => ?_) (λ_ => ?_) (λh => nomatch h)
   .simp only [iy, aG, af, v3, lk, c3, aa, bG, aS, Uu];by_cases h' : t.hd = ("either" : Str)
    .rw [UO h']; simp only [U6]; exact q
    .rw [UG h', UO (hh.resolve_left h')]; simp only [UB, UZ]; exact q
   rw [e1];refine al λN2 JV => ?_;simp only [ap];refine HL hj2 (x := ((i + 1 : Nat) : Int)) (y := ((i + 1 + nr a : Nat) : Int)) (λS Q E q => ?_) (λQ E q => zv ME (a := a) (i := i + 1) (UJ da hn) ga hj (by omega) (λS Q E q => ?_) (λS Q E q => ?_) q) (λS Q E q => ?_) λS2 X2 => ?_
   .simp only [af, v3, lk, c3, aR]; rw [show ((i : Int) + 1) = ((i + 1 : Nat) : Int) by omega]; exact q
   .simp only [af, mQ, d5, v3, lk, c3, aa];rw [show JU (hd2 ++ [a.pv, b.pv]) (-2) = some a.pv from hJ (i := 0) (.inl rfl)];exact q
   .simp only [af, v3, lk, c3, aR]; rw [show ((i : Int) + 1) = ((i + 1 : Nat) : Int) by omega]; exact q
   .simp only [af, v3, lk, c3, aa, bG]; exact q
   simp only [List.set_cons_zero, List.set_cons_succ];refine JV _ _ ?_;have f2 := X2 _ _ f1;simp only [bg, jp, am, ad, af, v3, lk, c3, aa, bG, bU, bd, cA, vg, f2, Xz];rw [hJ hj2];rw [show (if j = 0 then a.pv else b.pv) = (if j = 0 then a else b).pv by split <;> rfl, show (if j = 0 then ((i + 1 : Nat) : Int) else ((i + 1 + nr a : Nat) : Int)) = ((if j = 0 then i + 1 else i + 1 + nr a : Nat) : Int) by split <;> rfl];refine ih (by split <;> assumption) (by split <;> assumption) hj (by split <;> omega) hy (by omega) λp3 S3 hp3 X3 f3 => ?_;simp only [bT, X3 _ _ f2, f3];have l1 := jB _ y (if j = 0 then i + 1 else i + 1 + nr a) hy;refine ⟨oF (by rw [Ul, Ul]; show 1 + _ <= _; omega), hN _ _ ?_⟩;simp only [aw, v3, lk];refine k pf _ hpf ((X1.trans (X2.trans X3)).put hpf) ?_;rw [ac, <- U8, RW]; rfl
  .refine kB (v := false) (λQ E q => by simp only [iy, aG, af, v3, lk, c3, aa, bG, aS]; rw [ne_str λh => hh (.inl h), ne_str λh => hh (.inr h)]; simp only [UB, UZ]; exact q) (λh => nomatch h) (λ_ => hN _ _ ?_);have e : vis t v i = [i] := by
    cases t with
    | rest => exact absurd rfl h1
    | IK a b => exact absurd rfl h2
    | IU a => exact absurd rfl h3
    | IY a b => exact absurd (.inl rfl) hh
    | IV z m a b => exact absurd (.inr rfl) hh
    | _ => rfl
   rw [e] at k;simp only [aw, v3, lk];exact k pf S1 hpf X1 f1
end G29
namespace G29
open PySem L2 L3 Wd
open C CY
theorem tI:∀ns:List Int,j7 (ns.map PV.int)=some ns
 |[]=>rfl
 |n::ns=>by rw[UA,j7,tI ns];rfl
theorem jC{α:Type}{g:Tg}{tc:kH}{te:ba}{σ':cU}{keep:aA->Prop}{fin:List PV->aA->Prop}{S:aA}(enc f:α->PV)(b:α->Bool)(hk:keep S):∀(xs:List α)(ys:List PV),
  (∀x∈xs,∃σ2,g.put (enc x) σ'=some σ2/\(∀K:Bool->aA->Prop,K (b x) S->tc σ2 S K fE)/\∀Q:bB,Q (f x) S->te σ2 S Q fE)->ys.length+xs.length<=sizeLine->fin (ys++(xs.filter b).map f) S->eB g tc te σ' keep fin (xs.map enc) ys S
 |[],ys,_,hl,hf=>⟨hk,by simpa using hl,by simpa using hf⟩
 |x::r,ys,h,hl,hf=>by
  obtain⟨σ2,e,h1,h2⟩:=h x (by simp);refine⟨hk,by simp at hl;omega,?_⟩;rw[e];refine h1 _ ?_;cases hb:b x with
  |true=>
   rw[if_pos rfl];refine h2 _ (jC enc f b hk r _ (λy hy=>h y (by simp[hy])) (by simp at hl ⊢;omega) ?_);rw[Xk hb]at hf
   simpa using hf
  |false=>
   rw[if_neg (by decide)];refine jC enc f b hk r _ (λy hy=>h y (by simp[hy])) (by simp at hl ⊢;omega) ?_;rw[Xl (by rw[hb];decide)]at hf;exact hf
abbrev vJ(w:ay):Prop:=∀{S:aA}{js hs:Vs}{ds:List (Str×Bd)}{P:List PV}{pj:Addr}{Q:bB}{E:bR},HG js ds->(∀v∈P,Bq ds v)->S pj=some (.lst (hs.map PV.str))->rX hs->(∀(k:Nat) y,js[k]?=some y->∃e,(kD js (jb js ds 1) P).2[k]?=some (e,0)/\(y∈hs->1<=e))->(∀S',Ext S S'->Q (.bl true) S')->w [bV js ds,.tup P,.ref pj] S Q E
def Mn{xt:ay}(NV:Ez xt):vJ (aT 8 (gh xt)):=by
 intro S js hs ds P pj Q E hg hP OJ NQ NG k;unfold gh;refine cY ?_;rw[show ax 8 [bV js ds,.tup P,.ref pj]=[some (.tup [.tup (js.map PV.str),.tup (ds.map fX)]),some (.tup P),some (.ref pj),none,none,none,none,none] from rfl];walk_at "3";simp only[sw,ad,am,v3,lk];refine NV hg hP λx pc cs' S3 X3 L3 f3=>?_;obtain⟨pe,pd,rfl,he,hd⟩:=L3;simp only[Tg.put,Tg.IL,List.set_cons_zero,List.set_cons_succ];walk_at "0";have RT:∀v∈P,(jb js ds 1 v).Ok js:=λv hv=>fZ (Bn hg) (rN (hP v hv));have ok:(kD js (jb js ds 1) P).Ok js:=km RT;generalize kD js (jb js ds 1) P=T at ok he hd NG;have lT:T.2.length=js.length:=ok.1;have hjl:=hg.jl;have T9:∀p∈T.2,p.2=0:=λp hp=>by
  obtain⟨i,hi,rfl⟩:=Wh hp;obtain⟨e,h1,_⟩:=NG i js[i] (Uq (by omega));rw[Uq hi]at h1;injection h1 with h1
  rw[h1]
 simp only[ap,aJ,kO,af,v3,lk,c3,aa,bG,he];have ez:bY T.es (js.map PV.str)=(T.2.zip js).map λz=>.tup [.int z.1.1,.str z.2]:=ni (λp:Int×Int=>PV.int p.1) PV.str T.2 js;rw[ez];have lz:(T.2.zip js).length<=50:=by rw[VL];omega
 refine jC (λz:(Int×Int)×Str=>PV.tup [.int z.1.1,.str z.2]) (λz=>.str z.2) (λz=>decide (z.2∈hs)&&decide (z.1.1 < 1)) he (T.2.zip js) [] (λz hz=>⟨_,rfl,λK q=>?_,λQ q=>?_⟩) (by rw[UN,U0];exact bA (by omega)) λp4 Om=>?_
 .simp only[eY,List.replicate_succ,List.replicate_zero,UA,U4,List.cons_append,List.nil_append,lk,List.set_cons_zero,List.set_cons_succ,eU,aG,af,v3,c3];refine eI (X3 _ _ OJ) (hg.jw z.2 ?_) NQ ?_
  .exact(Yb hz).2
  .rw[Uu];cases hb:decide (z.2∈hs)with
   |true=>rw[hb]at q;simp only[U6,lO,cA];exact q
   |false=>rw[hb]at q;simp only[UB,UZ];exact q
 .simp only[eY,List.replicate_succ,List.replicate_zero,UA,U4,List.cons_append,List.nil_append,lk,List.set_cons_zero,List.set_cons_succ,v3];exact q
 have RY:(T.2.zip js).filter (λz=>decide (z.2∈hs)&&decide (z.1.1 < 1))=[]:=by
  rw[Xx];intro z T_;obtain⟨i,hi,rfl⟩:=Wh T_;rw[List.getElem_zip];have hi':=hi;rw[VL]at hi';obtain⟨e,h1,h2⟩:=NG i js[i] (Uq (by omega));rw[Uq (by omega)]at h1;injection h1 with h1
  show ¬(decide (js[i]∈hs)&&decide ((T.2[i]).1 < 1))=true;rw[h1,V6,Us,Us];rintro⟨h3,h4⟩;have:=h2 h3;have h4:e < 1:=h4;omega
 rw[RY];simp only[List.set_cons_zero,List.set_cons_succ,U4,Vd];have f5:(II S3 p4 (.lst [])) p4=some (.lst []):=ac;have X5:Ext S3 (II S3 p4 (.lst [])):=.new Om;generalize II S3 p4 (.lst [])=S5 at f5 X5;refine hN _ _ ?_;simp only[aw,cw,af,ak,am,bf,c3,v3,lk];intro p1 hp1;have hd1:(II S5 p1 (.lst [.int 0])) pd=some (.lst T.dm):=(Ext.new hp1) _ _ (X5 _ _ hd);simp only[aR,ac,hd1];refine⟨bA (by unfold Ty.dm;simp only[Um,Ul,List.length_cons,List.length_nil];omega),λp2 hp2=>?_⟩;have X4:Ext S5 (II (II S5 p1 (.lst [.int 0])) p2 (.lst ([.int 0]++T.dm))):=(Ext.new hp1).trans (.new hp2);have f4:(II (II S5 p1 (.lst [.int 0])) p2 (.lst ([.int 0]++T.dm))) p2=some (.lst ((0::T.2.map (·.2)).map PV.int)):=by
  rw[ac];unfold Ty.dm;rw[UA,UQ]
  rfl
 generalize II (II S5 p1 (.lst [.int 0])) p2 (.lst ([.int 0]++T.dm))=S4 at X4 f4;simp only[vn,f4,tI];refine⟨by simp,λM hM _=>?_⟩;have Ua:M=0:=by
  rcases Uv.mp hM with h|h
  .exact h
  .obtain⟨p,hp,rfl⟩:=UU.mp h;exact T9 p hp
 subst Ua;simp only[aS,Vt,Uu,U6,bx,X4 _ _ f5,List.length_nil];exact k _ (X3.trans (X5.trans X4))
abbrev zw(w:ay):Prop:=∀{S:aA}{js:Vs}{ds:List (Str×Bd)}{pl pd:Addr}{cs:Vu}{Q:bB}{E:bR},S pl=some (.lst (cs.map PV.int))->(∀a pj S',S a=none->S pj=none->Ext S S'->S' a=some (.dct (o8 js pj 0 false pd 0))->S' pj=some (.lst (cs.map PV.int))->Q (.ref a) S')->w [bV js ds,.ref pl] S Q E
def MS:zw (aT 2 ip):=by
 intro S js ds pl pd cs Q E hl k;unfold ip;refine cY ?_;rw[show ax 2 [bV js ds,.ref pl]=[some (.tup [.tup (js.map PV.str),.tup (ds.map fX)]),some (.ref pl)] from rfl];simp only[aw,nP];intro a ha;simp only[j4,af,v3,lk,c3,aa,bG,ak,am,jZ,lL,aD];rw[(Ext.new ha) _ _ hl];dsimp only;intro pj OJ;have n1:pj≠a:=λe=>by rw[e,ac]at OJ;cases OJ
 refine⟨by rw[ar n1.symm,ac],?_⟩;simp only[pN,gy];have X:Ext S (II (II S a (.dct [])) pj (.lst (cs.map PV.int))):=(Ext.new ha).trans (.new OJ);refine k a pj _ ha ((Ext.new ha).free OJ) (X.put ha) ?_ ?_
 .rw[ac];simp[nN,kK,o8,sS,av,cf,eP];exact⟨by decide +kernel,by decide +kernel⟩
 .rw[ar n1,ac]
theorem vK:∀{L:List PV},(∀x∈L,∃i,x=PV.int i)->∃is:List Int,L=is.map PV.int
 |[],_=>⟨[],rfl⟩
 |x::L,h=>by
  obtain⟨i,rfl⟩:=h x (by simp);obtain⟨is,rfl⟩:=vK (L:=L) λy hy=>h y (by simp[hy]);exact⟨i::is,rfl⟩
def zx{x:Int}{is:Vu}{S:aA}{Q:bB}(hx:x∈is)(q:Q (.bl true) S):jN false (.int x) (.tup (is.map PV.int)) S Q:=by
 have hd:∀ms:List Int,Lg S (ms.map PV.int) (ms.map λm:Int=>PyData.int m):=by
  intro ms
  induction ms with
  |nil=>exact .nil
  |cons m ms ih=>exact .cons (.int _) ih
 have hc:∀ms:List Int,PyData.canLayAll0 (ms.map λm:Int=>PyData.int m)=true:=by
  intro ms
  induction ms with
  |nil=>simp[PyData.canLayAll0]
  |cons m ms ih=>simp[PyData.canLayAll0,PyData.canLay0,ih]
 have hi:jM (.int x) (is.map λm:Int=>PyData.int m)=true:=by
  unfold jM;rw[WZ];exact⟨.int x,UU.mpr ⟨x,hx,rfl⟩,by simp[PyData.eqv]⟩
 unfold jN;refine⟨.int x,_,.int _,hd is,by simp[PyData.canLay0],hc is,by simp[PyData.depth],?_⟩;rw[hi];exact q
theorem vL:∀{ps:List (Int×Int)}{cs:Vu}{k:Nat}{e d c:Int},ps[k]?=some (e,d)->cs[k]?=some c->c < d->di ps cs=false
 |[],_,_,_,_,_,h,_,_=>by simp at h
 |_::_,[],_,_,_,_,_,h,_=>by simp at h
 |p::ps,b::cs,0,e,d,c,h,g,l=>by
  simp only[List.getElem?_cons_zero,Xr]at h g;subst h;subst g;show(decide (d<=b)&&di ps cs)=false;rw[UG (by omega)];rfl
 |p::ps,b::cs,k+1,e,d,c,h,g,l=>by
  simp only[List.getElem?_cons_succ]at h g;show(decide (p.2<=b)&&di ps cs)=false;rw[vL h g l,Bool.and_false]
def EB{js:Vs}(t:Bd):∀(v:PV),t.good js []->∀p∈J_ t v,p.1∈js:=by
 induction t with
 |rest=>intro v g p h;cases h
 |pay x y=>intro v g p h;cases h
 |use y=>intro v g p h;cases h
 |put y n=>intro v g p h;rw[Uy.mp h];exact g.1
 |IU a ih=>intro v g p h;obtain⟨x,_,h⟩:=VR.mp h;exact ih _ g p h
 |IK a b Ja Jd=>intro v g p h;exact(Ur.mp h).elim (Ja _ g.1 p) (Jd _ g.2 p)
 |IY a b Ja Jd=>
  intro v g p h;unfold J_ at h
  split at h
  .exact Ja _ g.1 p h
  .exact Jd _ g.2 p h
 |IV y n a b Ja Jd=>
  intro v g p h;unfold J_ at h
  split at h
  .rcases Uv.mp h with rfl|h
   .exact g.1
   .exact Ja _ g.2.2.2.1 p h
  .exact Jd _ g.2.2.2.2 p h
def HM{OP:R3}{f:Int->Bool}(hop:∀(i:Int)(S:aA)(Q:bB),Q (.bl (f i)) S->OP (.int i) (.int 0) S Q){x0 x1 x2 x4 x5 x7:Option PV}{S:aA}{mv pj:Addr}{ms:List (Str×Int)}{hs:Vs}{Q:Bool->aA->Prop}{E:bR}(f2:S mv=some (.lst (ms.map o0)))(fj:S pj=some (.lst (hs.map PV.str)))(NQ:rX hs)(Ub:∀p∈ms,PyData.strOk p.1=true)(hl:ms.length<=16000000)(k:∀S',Ext S S'->Q (decide (0 < (ms.filter λp=>f p.2&&!decide (p.1∈hs)).length)) S') :
  aG (af m6 (ak bx [(aJ (aL (v3 6)) (.tp (.cons (.n 0) (.cons (.n 1) .nil))) (eU (aG (af OP (v3 1) (c3 (.int 0)))) (aG (af (jN true) (v3 0) (v3 2)))) (v3 0) 2 [3])]) (c3 (.int 0))) [x0,x1,x2,some (.ref pj),x4,x5,some (.ref mv),x7] S Q E:=by
 simp only[aG,af,ak,am,aJ,aL,v3,lk,c3,bW,f2];refine jC o0 (λp=>.str p.1) (λp=>f p.2&&!decide (p.1∈hs)) f2 ms [] (λp hp=>⟨_,rfl,λK q=>?_,λQ q=>?_⟩) (by rw[UN,U0];exact oF hl) λp4 Om=>?_
 .simp only[eY,List.replicate_succ,List.replicate_zero,UA,U4,List.cons_append,List.nil_append,lk,List.set_cons_zero,List.set_cons_succ,eU,aG,af,v3,c3];refine hop _ _ _ ?_;cases hb:f p.2 with
  |true=>
   rw[hb]at q;simp only[U6];refine eI fj (Ub p hp) NQ ?_;rw[VT];exact q
  |false=>rw[hb]at q;simp only[UB,UZ];exact q
 .simp only[eY,List.replicate_succ,List.replicate_zero,UA,U4,List.cons_append,List.nil_append,lk,List.set_cons_zero,List.set_cons_succ,v3];exact q
 simp only[bx,ac,List.nil_append,Ul,m6,cA];have:=k _ (.new Om (o:=.lst ((ms.filter λp=>f p.2&&!decide (p.1∈hs)).map λp=>PV.str p.1)));rw[show decide ((0:Int) < (((ms.filter λp=>f p.2&&!decide (p.1∈hs)).length:Nat):Int))=decide (0 < (ms.filter λp=>f p.2&&!decide (p.1∈hs)).length)from Yp.mpr (by omega)];exact this
abbrev rR(w:ay):Prop:=∀{S:aA}{js hs:Vs}{ds:List (Str×Bd)}{pj:Addr}{dk:Nat}{dn:Str}{t:Bd}{tr:PV}{Q:bB}{E:bR},HG js ds->js.Nodup->MV js ds hs->S pj=some (.lst (hs.map PV.str))->ds[dk]?=some (dn,t)->aX t tr=true->ci (2 ^ 60) tr=true->bQ t tr<=15000000->(∀S',Ext S S'->Q (.bl true) S')->w [bV js ds,.int (dk:Int),tr,.ref pj,.tup (ds.map λp=>.tup (p.2.OS (mq hs)))] S Q E
def Mo{xf xw xg xv:ay}(MP:ix 6 xf)(MS:zw xw)(Pg:vI 6 xg)(NW:Bz 6 xv):rR (aT 8 (gf xf xw xg xv)):=by
 intro S js hs ds pj dk dn t tr Q E hg hn hf OJ hds htr hib hcn k;have hm:(dn,t)∈ds:=UD hds;have gd:t.good js []:=hg.gd _ hm;have NQ:rX hs:=hf.ok hg.jw;have Qk:t.dep<=6:=hg.dp _ hm;have hsz:t.size<=60:=hg.sz _ hm;have hjl:=hg.jl;have h2:=zf (q:=mq hs) t tr gd htr λz hz=>UO (hf.2.2.2 z (VR.mpr ⟨_,hm,hz⟩));have ml:=(nh t tr 0 0 htr).1;have mj:∀p∈J_ t tr,PyData.strOk p.1=true:=λp hp=>hg.jw p.1 (EB t tr gd p hp);unfold gf;refine cY ?_;rw[show ax 8 [bV js ds,.int (dk:Int),tr,.ref pj,.tup (ds.map λp=>.tup (p.2.OS (mq hs)))]=[some (.tup [.tup (js.map PV.str),.tup (ds.map fX)]),some (.int (dk:Int)),some tr,some (.ref pj),some (.tup (ds.map λp=>.tup (p.2.OS (mq hs)))),none,none,none] from rfl];walk_at "3";simp only[ap,af,v3,lk,c3,aa,bU];rw[bj (v:=fX (dn,t)) (by rw[Ut,hds];rfl)];unfold fX;simp only[bU,List.set_cons_zero,List.set_cons_succ];walk_at "0";simp only[ap,bf,am,List.set_cons_zero,List.set_cons_succ];intro mv RZ;walk_at "0";refine tt (P:=λS'=>Ext S S'/\S' mv=some (.lst ((J_ t tr).map o0))) (v:=false) (λQ E q=>?_) (λh=>nomatch h) (λS2 _ ⟨X2,f2⟩=>hN _ _ (al λN hN=>?_))
 .simp only[cI,aG,ad,am,v3,lk];refine MP Qk gd htr ac (by rw[UN];omega) λS2 X2 f2=>?_;simp only[U3];refine q S2 ⟨λb o hb=>X2 b o ((Ext.new RZ) b o hb) λe=>?_,by simpa using f2⟩;rw[e,RZ]at hb;cases hb
 have Ph:=X2 _ _ OJ;rcases h2 with⟨hin,_⟩|⟨⟨p0,hp0,hneg,hout⟩,k0,y0,e0,d0,Pl,SN,QL,hd0⟩
 .have none_of:∀f:Int->Bool,(J_ t tr).filter (λp=>f p.2&&!decide (p.1∈hs))=[]:=by
   intro f;rw[Xx];intro p hp;have:=hin p hp;unfold mq at this;rw[this];simp
  refine tt (P:=λS'=>Ext S2 S') (v:=false) (λQ E q=>HM (f:=λi=>decide (i < 0)) (λi S Q q=>q) f2 Ph NQ mj (by omega) λS3 X3=>by rw[show((J_ t tr).filter λp=>decide (p.2 < 0)&&!decide (p.1∈hs))=[] from none_of λi=>decide (i < 0)];exact q S3 X3) (λh=>nomatch h) (λS3 _ X3=>hN _ _ (al λN hN=>?_));refine tt (P:=λS'=>Ext S2 S') (v:=false) (λQ E q=>HM (f:=λi=>decide (0 < i)) (λi S Q q=>q) (X3 _ _ f2) (X3 _ _ Ph) NQ mj (by omega) λS4 X4=>by rw[show((J_ t tr).filter λp=>decide (0 < p.2)&&!decide (p.1∈hs))=[] from none_of λi=>decide (0 < i)];exact q S4 (X3.trans X4)) (λh=>nomatch h) (λS4 _ X4=>hN _ _ ?_);simp only[aw,ak,am,aJ,aL,ad,v3,lk,c3];rw[show PV.int 0=PV.int ((0:Nat):Int)from rfl];refine NW Qk gd hg.jw (by omega) htr (by omega) λp5 S5 Sy X5 f5=>?_;simp only[bW,f5];have hv:=jB t tr 0 htr;have Uc:=EA t tr 0 htr hin;obtain⟨is,his⟩:=vK (L:=t.OS (mq hs)) λx hx=>by
   rcases Ur.mp hx with h|h
   .obtain⟨c,_,rfl⟩:=UU.mp h;exact⟨_,rfl⟩
   .exact⟨_,Uy.mp h⟩
  refine aQ (λr:Nat=>PV.int (r:Int)) (λ_=>.bl true) f5 (vis t tr 0) [] (λr hr=>⟨_,rfl,λQ q=>?_⟩) (by rw[UN,U0];exact oF (by omega)) λp6 P0=>?_
  .simp only[eY,List.replicate_succ,List.replicate_zero,UA,U4,List.cons_append,List.nil_append,lk,List.set_cons_zero,List.set_cons_succ,af,v3,aa];rw[bj (v:=.tup (t.OS (mq hs))) (by rw[Ut,hds];rfl)];dsimp only;rw[his];refine zx ?_ q;have:PV.int (r:Int)∈t.OS (mq hs):=UY _ (Uc r hr);rw[his]at this;obtain⟨c,hc,e⟩:=UU.mp this;injection e with e
   rw[<-e];exact hc
  simp only[AN,ac,List.nil_append];rw[mz (λ_:Nat=>true)];dsimp only;rw[show((vis t tr 0).map λ_=>true).all id=true by simp];exact k _ (X2.trans (X4.trans (X5.trans (.new P0))))
 .have some_of:decide (0 < ((J_ t tr).filter (λp=>decide (p.2 < 0)&&!decide (p.1∈hs))).length)=true:=by
   refine UO (Xv (a:=p0) (W9.mpr ⟨hp0,?_⟩));unfold mq at hout;rw[hout,UO hneg];rfl
  refine tt (P:=λS'=>Ext S2 S') (v:=true) (λQ E q=>HM (f:=λi=>decide (i < 0)) (λi S Q q=>q) f2 Ph NQ mj (by omega) λS3 X3=>by rw[some_of];exact q S3 X3) (λ_ S3 X3=>?_) (λ_ h=>nomatch h);refine al λN2 JV=>?_;simp only[ap,ad,am,aJ,aL,af,v3,lk,c3,aa,bG,bW];refine aQ PV.str (λz=>.int (if z∈hs then 1000000 else 0)) trivial js [] (λz hz=>⟨_,rfl,λQ q=>?_⟩) (by rw[UN,U0];exact bA (by omega)) λpl hpl=>?_
  .simp only[eY,List.replicate_succ,List.replicate_zero,UA,U4,List.cons_append,List.nil_append,lk,List.set_cons_zero,List.set_cons_succ,af,v3,c3,uo,iz,ak,am];refine⟨⟨by decide,by decide,by decide⟩,?_⟩;refine eI (X3 _ _ Ph) (hg.jw z hz) NQ ?_;rw[Uu];simp only[eW,b_];by_cases hzs:z∈hs
   .rw[UO hzs];rw[if_pos hzs]at q;exact⟨Og.ok (.inl ⟨by decide,by decide⟩),q⟩
   .rw[UG hzs];rw[if_neg hzs]at q;exact⟨Og.ok (.inl ⟨by decide,by decide⟩),q⟩
  have f4:(II S3 pl (.lst ([]++js.map λz=>PV.int (if z∈hs then 1000000 else 0)))) pl=some (.lst ((js.map λz=>if z∈hs then (1000000:Int) else 0).map PV.int)):=by rw[ac,UQ];rfl
  have X4:Ext S3 (II S3 pl (.lst ([]++js.map λz=>PV.int (if z∈hs then 1000000 else 0)))):=.new hpl;generalize II S3 pl (.lst ([]++js.map λz=>PV.int (if z∈hs then 1000000 else 0)))=S4 at f4 X4;refine MS (js:=js) (ds:=ds) (pd:=mv) f4 λa pw S5 ha R4 X5 fa fw=>?_;walk_at "1";refine JV _ _ (al λN3 N6=>?_);have Ud:Ext S2 S5:=X3.trans (X4.trans X5);have Ue:mv≠a:=λe=>by have:=(X3.trans X4) _ _ f2;rw[e,ha]at this;cases this
  have Uf:pw≠mv:=λe=>by have:=(X3.trans X4) _ _ f2;rw[<-e,R4]at this;cases this
  have A:G4At S5 a pw mv js 0 [] ⟨js.map λz=>if z∈hs then (1000000:Int) else 0,0,[],none,false⟩:=⟨fa,fw,Ue,Uf⟩
  simp only[bg,ad,am,v3,lk];refine Pg A rfl (by simp) (VF _) Qk gd htr hib λS6 A6 O6=>?_;refine N6 _ _ ?_;have gr:=(Ej hn t tr ⟨js.map λz=>if z∈hs then (1000000:Int) else 0,0,[],none,false⟩ gd htr rfl ⟨by simp,λc hc=>by obtain⟨z,_,rfl⟩:=UU.mp hc;split<;>decide,VF _⟩).2;have c0:(js.map λz=>if z∈hs then (1000000:Int) else 0)[k0]?=some 0:=by
   rw[Ut,Pl];unfold mq at SN;simp[Wa SN]
  have st:=(gr (vL QL c0 hd0)).1;simp only[aw,af,v3,lk,c3,aa,gy,A6.d,tH,st];refine k S6 λb o hb=>O6 b o ((X2.trans Ud) b o hb) ?_ ?_ ?_
  .rintro rfl;rw[(X2.trans (X3.trans X4)) _ _ hb]at ha;cases ha
  .rintro rfl;rw[(X2.trans (X3.trans X4)) _ _ hb]at R4;cases R4
  .rintro rfl;rw[RZ]at hb;cases hb
end G29
namespace G29
open PySem L2 L3 Wd
open C
abbrev BA(w:ay):Prop:=∀{ns:Vu}{S:aA}{Q:bB}{E:bR},ns.length<=63->(∀S',Q (.bl true) S')->w [.cl (ns.map PV.int)] S Q E
def EC{x0 x1 x2 x3 x4 x5 x6 x7 x8 x9:ay}(Nc:sG x0)(P4:kA x1)(Jx:dZ x2)(Ml:rO x3)(NT:Ew x4)(Mn:vJ x5)(MK:ma x6)(IJ:b8 x7)(Mo:rR x8)(QD:k9 6 x9):BA (aT 8 (zk x0 x1 x2 x3 x4 x5 x6 x7 x8 x9)):=by
 intro ns S Q E hl k;unfold zk;refine cY ?_;rw[show ax 8 [PV.cl (ns.map PV.int)]=[some (.cl (ns.map PV.int)),none,none,none,none,none,none,none] from rfl];walk_at "3";simp only[ap,ad,am,v3,lk,c3];refine Nc hl (by decide) (by decide) λd l S1 _ _ D1 _=>?_;walk_at "1";walk_at "0";simp only[ap,ad,am,v3,lk];refine P4 D1 λjs ds S2 hg h1 hj hn D2 O2=>?_;walk_at "1";have hjl:=hg.jl;walk_at "0";simp only[ap,aJ,aL,ad,am,v3,lk];refine Jx hg λp vs hs S3 hp X3 h3 hvl hst f1 f2 f3 f4=>?_;have hf:MV js ds hs:=⟨f1,f2,f3,f4⟩
 have NQ:rX hs:=hf.ok hg.jw;have hle:=gE hs js f2 f3;simp only[bW,h3];have ev:vs=(vs.zip hs).map Prod.fst:=by rw[List.map_fst_zip];omega
 have eh:(vs.zip hs).map (λz=>PV.str z.2)=hs.map PV.str:=by
  have:(vs.zip hs).map Prod.snd=hs:=by rw[List.map_snd_zip];omega
  calc _=((vs.zip hs).map Prod.snd).map PV.str:=by rw[UQ];rfl
   _=_:=by rw[this]
 rw[show vs=(vs.zip hs).map Prod.fst from ev];have h3':=h3;rw[ev]at h3';refine aQ Prod.fst (λz=>PV.str z.2) h3' (vs.zip hs) [] (λz hz=>?_) (by rw[UN,U0,VL];exact bA (by omega)) λpj OJ=>?_
 .obtain⟨j,hj⟩:=List.getElem?_of_mem hz;obtain⟨e1,e2⟩:=Vh.mp hj;obtain⟨kx,d,tr,ez,hk,_⟩:=hst j _ _ e1 e2;refine⟨_,rfl,λQ' q'=>?_⟩;rw[ez,show bV js ds = .tup [eP js,.tup (ds.map fX)] from rfl];walk_at "x";simp only[bG,eP];rw[bj (v:=PV.str z.2) (by rw[Ut,hk];rfl)];exact q'
 rw[UX,eh];have X4:Ext S2 (II S3 pj (.lst (hs.map PV.str))):=X3.trans (.new OJ);have fj:(II S3 pj (.lst (hs.map PV.str))) pj=some (.lst (hs.map PV.str)):=ac;have dj:pj≠d/\pj≠l:=(D2.ext X3).free OJ;generalize II S3 pj (.lst (hs.map PV.str))=S4 at X4 fj;have D4:=D2.ext X4;clear h3 h3' ev eh hst;walk_at "1";walk_at "0";rw[show bV js ds = .tup [.tup (js.map PV.str),.tup (ds.map fX)] from rfl];simp only[ap,ad,am,ak,aJ,aL,af,v3,lk,c3,aa,bG,bW];refine aQ PV.str (λz=>PV.int (if z∈hs then 1 else 0)) trivial js [] (λz hz=>⟨_,rfl,λQ q=>?_⟩) (by rw[UN,U0];exact bA (by omega)) λpc Ps=>?_
 .simp only[eY,List.replicate_succ,List.replicate_zero,UA,U4,List.cons_append,List.nil_append,lk,List.set_cons_zero,List.set_cons_succ,af,v3,ak,am];refine eI fj (hg.jw z hz) NQ ?_;rw[Uu];simp only[eW];by_cases hzs:z∈hs
  .rw[UO hzs];rw[if_pos hzs]at q;exact q
  .rw[UG hzs];rw[if_neg hzs]at q;exact q
 simp only[aW,lL,ac,List.nil_append];have X5:Ext S4 (II S4 pc (.lst (js.map λz=>PV.int (if z∈hs then 1 else 0)))):=.new Ps;generalize II S4 pc (.lst (js.map λz=>PV.int (if z∈hs then 1 else 0)))=S5 at X5;rw[show(js.map λz=>PV.int (if z∈hs then 1 else 0))=(js.map λz=>if z∈hs then (1:Int) else 0).map PV.int by rw[UQ];rfl];rw[show(PV.tup [.tup (js.map PV.str),.tup (ds.map fX)])=bV js ds from rfl];refine Ml hg hj hn (by simp) (λc hc=>by obtain⟨z,_,rfl⟩:=UU.mp hc;split<;>decide) (λkx y c hy hc hnh=>?_) λP S6 X6 hP4 hP NG=>?_
 .rw[Ut,hy]at hc;injection hc with hc
  rw[<-hc];exact if_neg λh=>hnh ((tD hf y).mp h)
 walk_at "1";walk_at "0";have SQ:Ext S4 S6:=X5.trans X6;refine tt (P:=λS'=>Ext S4 S') (v:=false) (λQ E q=>?_) (λh=>nomatch h) (λS7 _ X7=>hN _ _ (al λN hN=>?_))
 .simp only[iy,cI,aG,ad,am,v3,lk];refine NT hg hP λS7 X7=>?_;simp only[U3,UB,UZ];refine Mn (hs:=hs) hg hP ((SQ.trans X7) _ _ fj) NQ (λkx y hy=>?_) λS8 X8=>?_
  .obtain⟨e,e1,e2⟩:=NG kx (if y∈hs then 1 else 0) (by rw[Ut,hy];rfl);exact⟨e,e1,λh=>by rw[if_pos h]at e2;exact e2⟩
  .simp only[U3];exact q S8 (SQ.trans (X7.trans X8))
 simp only[ap,ad,am,v3,lk];refine MK hg λhs' S8 hf' X8=>?_;rw[show mq hs'=mq hs from (vx hf').symm.trans (vx hf)];walk_at "1";have SR:Ext S4 S8:=X7.trans X8;walk_at "0";simp only[bS,iQ,c3];refine⟨by decide,by decide,?_⟩;refine bp (λ_ σ S'=>∃y6 y7,σ=[some (.cl (ns.map PV.int)),some (.ref d),some (bV js ds),some (.ref pj),some (.tup P),some (.tup (ds.map λp=>.tup (p.2.OS (mq hs)))),y6,y7]/\IR S' d l/\S' pj=some (.lst (hs.map PV.str))) ⟨_,_,rfl,D4.ext SR,SR _ _ fj⟩ (λ_ _ _ _=>trivial) ?_ ?_
 .rintro done x rest σ S9 K e ⟨y6,y7,rfl,D9,f9⟩ hK;simp only[Tg.put,List.set_cons_zero,List.set_cons_succ];refine al λN2 JV=>?_;rw[show bV js ds = .tup [eP js,.tup (ds.map fX)] from rfl];simp only[ap,ad,ak,am,af,v3,lk,c3,aa,bU,bx,Ul];refine IJ D9 (by omega) (by have:=hg.dl;omega) λi S10 i0 i1 SS Ug=>?_;obtain⟨ii,rfl⟩:=VQ i0;have QW:ii < ds.length:=by omega
  have hds:ds[ii]?=some (ds[ii].1,ds[ii].2):=Uq QW;have hm:ds[ii]∈ds:=V7 QW;have ST:=hg.dp _ hm;have hsz:=hg.sz _ hm;generalize ds[ii].2=t at hds ST hsz;generalize ds[ii].1=z at hds;simp only[List.set_cons_succ,List.set_cons_zero];refine JV _ _ ?_;simp only[bm,cI,aG,ad,am,af,v3,lk,c3,aa,bU,bf];rw[bj (v:=fX (z,t)) (by rw[Ut,hds];rfl)];unfold fX;simp only[bU];intro px hpx;have SU:=SS.free hpx;have R5:=Ug _ _ f9 dj.1 dj.2;refine QD (SS.new hpx) ac SU.1 SU.2 (by decide) ST λtr Uh lf h1 h2 h3 l0 l1 Ui _ Uj=>?_;have hcn:bQ t tr<=15000000:=by
   have q1:4 ^ ((8:Int) - lf).toNat<=4 ^ 8:=VB (by decide) (by omega);have q2:=Nat.mul_le_mul (show 2 * t.size<=120 by omega) q1;omega
  have SV:pj≠px:=λe=>by rw[e,hpx]at R5;cases R5
  have SW:Uh pj=some (.lst (hs.map PV.str)):=Uj _ _ (by rw[ar SV];exact R5) dj.1 dj.2 SV;refine Mo (js:=js) (ds:=ds) (hs:=hs) hg hn hf SW hds h1 h2 hcn λS12 QV=>?_;simp only[U3,UB,UZ,aO];exact hK _ _ ⟨_,_,rfl,Ui.ext QV,QV _ _ SW⟩
 .rintro σ S9 ⟨y6,y7,rfl,D9,f9⟩;refine hN _ _ ?_;simp only[aw,c3];exact k S9
def gi:b8 w__law_draw:=IJ
def zy:kP ft:=LH
def rT:gC dC:=Kj gi
def zz:kQ ji:=L9 gi zy
def zA:kR dr:=JT gi zz
def BB:l9 dr:=y8 gi zz
theorem uS:∀n,i5 n (fM n)
 |0=>λ_ _ _ _ _ _ _ h0 h1 _=>by omega
 |n+1=>L_ gi zA n (uS n)
theorem tJ:∀n,dL n (cu n)
 |0=>λh _ _=>absurd h (by have:=Bd.Jf;exact V0.mpr (this _))
 |n+1=>wK n (tJ n)
def tK:dL 12 cv:=tJ 12
theorem tL:∀n,n<=12->g7 n (cj n)
 |0,_=>λh _ _=>absurd h (by have:=Bd.Jf;exact V0.mpr (this _))
 |n+1,hn=>wL n 12 tK (tL n (by omega)) (by omega)
def HN:g_ dR:=qM 12 (by decide) (uS 12) tK (tL 12 (by decide)) zA
def BC:jc im:=uI rT gi HN
def BD:kn iu:=wW rT gi BB
def Gu:kA dF:=Bj gi BD BC rT 12 (by decide) (uS 12)
def vM:jr ie:=Lk
theorem vN:∀n,fH n (ig n)
 |0=>λh _ _=>absurd h (by have:=Bd.Jf;exact V0.mpr (this _))
 |n+1=>MG vM n (vN n)
def zB:lX 12 rD:=wO 12 (vN 12)
theorem vO:∀n,jt n (dS n)
 |0=>λh _=>absurd h (by have:=Bd.Jf;exact V0.mpr (this _))
 |n+1=>yX n (vO n)
theorem Cp:∀n,n<=12->k5 n (dU n)
 |0,_=>λh _ _ _=>absurd h (by have:=Bd.Jf;exact V0.mpr (this _))
 |n+1,hn=>Bb n 12 (by omega) zB (vO 12) (Cp n (by omega))
theorem ED:∀n,oo n (cQ n)
 |0=>λh _ _ _ _ _ _=>absurd h (by have:=Bd.Jf;exact V0.mpr (this _))
 |n+1=>ND vM n (ED n)
def EE:oq jf:=Nf (λh a b c d e f=>ED 12 (UJ h (by decide)) a b c d e f) (λh a b c=>Cp 12 (by decide) (UJ h (by decide)) a b c)
def mC:dZ gH:=Jx EE
def Cq:jA bP:=J3
theorem Cr:∀n,ix ((n+1) / 2) (fA n)/\rK (n / 2) (eg n)
 |0=>⟨λh _ _ _ _ _=>absurd h (by have:=Bd.Jf;exact V0.mpr (this _)),λh _ _ _ _ _=>absurd h (by have:=Bd.Jf;exact V0.mpr (this _))⟩
 |n+1=>by
  obtain⟨a,b⟩:=Cr n;refine⟨?_,?_⟩
  .rw[show(n+1+1) / 2=n / 2+1 by omega];exact λ{S js t v mv ms Q E} h1 h2 h3 h4 h5 h6=>MP (E:=E) J3 (n / 2) (λg1 g2 g3 g4 g5 g6=>a (UJ g1 (by omega)) g2 g3 g4 g5 g6) b h1 h2 h3 h4 h5 h6
  .exact λ{S js b g mv ms Q E} h1 h2 h3 h4 h5 h6=>En (E:=E) (s1:=eg n) J3 ((n+1) / 2) a h1 h2 h3 h4 h5 h6
def Cs:ix 6 cx:=(Cr 12).1
def EF:fc uN:=KZ (Lx Lw)
def BE:lZ rE:=Ll (Lx Lw)
def oK:fe fh:=JB KQ EF
def vP:ju lh:=Lm Ly BE
def zC:kj cR:=Mj JO
theorem Ct:∀n,k8 ((n+1) / 2) (ku n)/\on (n / 2) (dQ n)
 |0=>⟨λ_ _ _ _ h _=>absurd h (by have:=Bd.Jf;exact V0.mpr (this _)),λ_ _ _ _ h _=>absurd h (by have:=Bd.Jf;exact V0.mpr (this _))⟩
 |n+1=>by
  obtain⟨a,b⟩:=Ct n;refine⟨?_,?_⟩
  .rw[show(n+1+1) / 2=n / 2+1 by omega];exact λ{S js us t v Q E} h1 h2 h3 h4 h5 h6=>MJ Ka JO oK Mi zC (n / 2) b (λg1 g2 g3 g4 g5 g6=>a g1 g2 g3 g4 (UJ g5 (by omega)) g6) (S:=S) (js:=js) (us:=us) (t:=t) (v:=v) (Q:=Q) (E:=E) h1 h2 h3 h4 h5 h6
  .exact λ{S js us t v Q E} h1 h2 h3 h4 h5 h6=>wS (s0:=dQ n) Ka oK vP ((n+1) / 2) a (S:=S) (js:=js) (us:=us) (a:=t) (v:=v) (Q:=Q) (E:=E) h1 h2 h3 h4 h5 h6
def vQ:jv ng:=Ln (Ct 12).1
theorem zD:∀n,k_ n (cE n)
 |0=>λ_ _ h _ _=>absurd h (Nat.not_lt_zero _)
 |n+1=>Ng Ka oK vQ vP n (zD n)
theorem zE:∀n,ld n (cr n)
 |0=>λ_ h _ _=>absurd h (Nat.not_lt_zero _)
 |n+1=>Nh KQ Ly n (zE n)
def Gv:rm 12 f8:=NP 12 (zD 12) (zE 12)
def vR:fc fL:=yY zy
def w_:oG mo:=LP vQ
def zF:rL fm:=Mk 12 (by decide) Gv
def zG:rO oC:=Ml mC w_ zF
def rV:oJ iq:=Br vR
def vS:rP d4:=zq (w5 zy)
theorem zH:∀n,tE n (eL n)
 |0=>λ_ _ _ _ h=>absurd h (by have:=Bd.Jf;exact V0.mpr (this _))
 |n+1=>Bt rV vS n (zH n)
def EG:tE 6 eM:=λa b c e h k=>zH 12 a b c e (UJ h (by decide)) k
def EH:Ev (bI 11):=Bu (s0:=bI 10) Cq Cs
def Gw:Ew eu:=λ{S js ds P Q E} h1 h2 h3=>NT (E:=E) (s0:=bI 11) (xf:=cx) Cq EH h1 h2 h3
def EI:Ex (bn 11):=Bv (xm:=d4) (s0:=bn 10) EG rV
def Gx:Ez cZ:=λ{S js ds P Q E} h1 h2 h3=>NV (E:=E) (xt:=eM) (s0:=bn 11) vS rV EI h1 h2 h3
def uT:hW kq:=sP mC
def zI:kh mr:=wN
def BF:l_ fo:=y_ (λh a b c d e f=>ED 12 (UJ h (by decide)) a b c d e f) zI
def BG:ma fq:=MK uT BF
theorem zJ:∀n,ff n (fO n)
 |0=>λh _ _ _ _ _ _ _ _=>absurd h (by have:=Bd.Jf;exact V0.mpr (this _))
 |n+1=>wU n (zJ n)
theorem Cu:∀n,n<=12->Bz n (eN n)
 |0,_=>λh _ _ _ _ _ _=>absurd h (by have:=Bd.Jf;exact V0.mpr (this _))
 |n+1,hn=>NW (zJ 12) n (by omega) (Cu n (by omega))
theorem zK:∀n,vI n (fN n)
 |0=>λ_ _ _ _ h=>absurd h (by have:=Bd.Jf;exact V0.mpr (this _))
 |n+1=>zu vR n (zK n)
theorem Gy:∀n,k9 n (eJ n)
 |0=>λ_ _ _ _ _ h=>absurd h (by have:=Bd.Jf;exact V0.mpr (this _))
 |n+1=>Eg gi n (Gy n)
def HP:k9 6 io:=λa b c d e f k=>Gy 12 a b c d e (UJ f (by decide)) k
def zL:rR gg:=Mo Cs MS (λA a b c h d e f k=>zK 12 A a b c (UJ h (by decide)) d e f k) (λh a b c d e k=>Cu 12 (by decide) (UJ h (by decide)) a b c d e k)
def zM:∀ns:List Int,ns.length<=63->tq [.cl (ns.map PV.int)] (λ_=>none) (λv _=>v = .bl true) fE:=λns h=>EC Nc Gu mC zG Gw (Mn Gx) BG gi zL HP h λ_=>rfl
end G29
namespace L3
open PySem L2 Xc
def tQ{P:List Value->Prop}(h:∀a,P [a])(us:Vv)(hl:us.length=1):P us:=match us,hl with|[_],_=>h _
def ly{P:List Value->Prop}(h:∀a b,P [a,b])(us:Vv)(hl:us.length=2):P us:=match us,hl with|[_,_],_=>h _ _
def uU{P:List Value->Prop}(h:∀a b c,P [a,b,c])(us:Vv)(hl:us.length=3):P us:=match us,hl with|[_,_,_],_=>h _ _ _
def HQ{P:List Value->Prop}(h:∀a b c d,P [a,b,c,d])(us:Vv)(hl:us.length=4):P us:=match us,hl with|[_,_,_,_],_=>h _ _ _ _
def Ia{P:List Value->Prop}(h:∀a b c d e,P [a,b,c,d,e])(us:Vv)(hl:us.length=5):P us:=match us,hl with|[_,_,_,_,_],_=>h _ _ _ _ _
section
variable {K:Vo}{h:Heap}{mg:Vr}{x c m q:Str}{st:Stmt}{ps fl:Vs}
noncomputable def BH:Option (Option Value)->Bool
 |some none=>true
 |_=>false
def BI{o:Option (Option Value)}(h:BH o=true):o=some none:=by
 unfold BH at h;split at h
 .rfl
 .cases h
def FnAt(K:Vo)(f:Addr)(m q:Str)(st:Stmt):Prop:=∃(oc kV doc pm cdv ct:Value)(od an:Option Addr)(osl:Array (Option Value)),
 K.lookup f=some ⟨oc,od,.func (PySem.W.fnOf m q (cy st) (bq st) (aK st) .none kV doc pm an cdv ct),osl⟩/\PySem.W.codeIn K cdv q=true/\PySem.W.keepIn K (.ref f)=true
abbrev zN(m q:Str)(st:Stmt)(ps:Vs):Prop:=∀(kV doc pm:Value)(an:Option Addr)(cdv ct:Value)(us:Vv),us.length=ps.length->bindArgs (PySem.W.fnOf m q (cy st) (bq st) (aK st) .none kV doc pm an cdv ct) ⟨us,[]⟩=pure (ps.zip us)
def FnAt.mk{f:Addr}(a:FnAt K f m q st)(hb:zN m q st ps):∃fd,Pj K m q st f fd/\Binds K fd ps []/\PySem.W.keepIn K (.ref f)=true:=by
 obtain⟨oc,kV,doc,pm,cdv,ct,od,an,osl,l,cc,k⟩:=a;exact⟨_,qu l cc k,(qu l cc k).binds hb,k⟩
def Jm(K:Vo)(x:Str)(st:Stmt):Prop:=∃f,PySem.W.nsIn K mainGlobals x=some (some (.ref f))/\FnAt K f x x st
def Jm.own(X:K.In h)(G:h.Ns mainGlobals mg)(a:Jm K x st)(hb:zN x x st ps):aY K mg x st ps:=by
 obtain⟨f,n,a⟩:=a;obtain⟨fd,F,b,k⟩:=a.mk hb;exact⟨f,fd,F,b,k,Yo X G n⟩
def Jm.law{fa:Addr}(X:K.In h)(G:h.Ns mainGlobals mg)(a:Jm K x st)(hfa:mg x=some (.ref fa))(hb:zN x x st ps):∃kV doc pm an cdv ct,GM K mg x st ps fa (PySem.W.fnOf x x (cy st) (bq st) (aK st) .none kV doc pm an cdv ct):=by
 obtain⟨f,n,oc,kV,doc,pm,cdv,ct,od,an,osl,l,cc,k⟩:=a;cases hfa.symm.trans (Yo X G n);exact⟨kV,doc,pm,an,cdv,ct,qu l cc k,(qu l cc k).binds hb,k,hfa⟩
def QX(P:Program)(w:World)(K:Vo)(x:Str)(kvs:List (bN×V)):Prop:=∃a o,PySem.W.nsIn K mainGlobals x=some (some (.ref a))/\K.lookup a=some o/\(a == sysModules)=false/\∃vs,KV kvs vs/\Obj.IsDictOf (bi P w) o vs
def QX.kd{P:Program}{w:World}{kvs:List (bN×V)}(X:K.In h)(G:h.Ns mainGlobals mg)(a:QX P w K x kvs):∃a,mg x=some (.ref a)/\KD P w K a kvs:=by
 obtain⟨a,o,n,l,s,vs,h1,h2⟩:=a;exact⟨a,Yo X G n,s,o,vs,l,h1,h2⟩
def lA(X:K.In h)(G:h.Ns mainGlobals mg){l:Vs}(a:(l.all λx=>BH (PySem.W.nsIn K mainGlobals x))=true)(hx:x∈l:=by decide):mg x=none:=PySem.W.mg_none_of X G (BI (UW.mp a x hx))
section
variable {f C:Addr}{oc kV doc pm cdv ct:Value}{od an:Option Addr}{osl:Array (Option Value)}
def IE(n:PySem.W.nsIn K mainGlobals x=some (some (.ref f)))(l:K.lookup f=some ⟨oc,od,.func (PySem.W.fnOf x x (cy st) (bq st) (aK st) .none kV doc pm an cdv ct),osl⟩)(cc:PySem.W.codeIn K cdv x=true)(k:PySem.W.keepIn K (.ref f)=true):Jm K x st:=⟨f,n,oc,kV,doc,pm,cdv,ct,od,an,osl,l,cc,k⟩
def IF{P:Program}{w:World}{kvs:List (bN×V)}{o:Obj}(n:PySem.W.nsIn K mainGlobals x=some (some (.ref f)))(l:K.lookup f=some o)(s:(f == sysModules)=false)(v:∃vs,KV kvs vs/\Obj.IsDictOf (bi P w) o vs):QX P w K x kvs:=⟨f,o,n,l,s,v⟩
end
end
section
variable {K:Vo}{h:Heap}{mg:Vr}{x:Str}{st:Stmt}{ps:Vs}
def QY(K:Vo)(x:Str)(st:Stmt):Prop:=∃(f T:Addr)(oc kV doc pm cdv ct:Value)(od an:Option Addr)(osl:Array (Option Value))(oT:Obj)(nT:Nat),PySem.W.nsIn K mainGlobals x=some (some (.ref f))/\
 K.lookup f=some ⟨oc,od,.func (PySem.W.fnOf x x (cy st) (bq st) (aK st) (.ref T) kV doc pm an cdv ct),osl⟩/\PySem.W.codeIn K cdv x=true/\PySem.W.keepIn K (.ref f)=true/\K.lookup T=some oT/\oT.data = .seq #[.bool true] nT
abbrev Cv(x:Str)(st:Stmt)(ps:Vs):Prop:=∀(s:Shared)(T:Addr)(oT:Obj)(nT:Nat)(kV doc pm cdv ct:Value)(an:Option Addr)(us:Vv),oT.data = .seq #[.bool true] nT->us.length=ps.length->s.heap.get? T=some oT->BindsTo s (PySem.W.fnOf x x (cy st) (bq st) (aK st) (.ref T) kV doc pm an cdv ct) ⟨us,[]⟩ (ps.zip us)
abbrev Cw(x:Str)(st:Stmt)(ps:Vs):Prop:=∀(s:Shared)(T:Addr)(oT:Obj)(nT:Nat)(kV doc pm cdv ct:Value)(an:Option Addr)(us:Vv),oT.data = .seq #[.bool true] nT->us.length+1=ps.length->s.heap.get? T=some oT->BindsTo s (PySem.W.fnOf x x (cy st) (bq st) (aK st) (.ref T) kV doc pm an cdv ct) ⟨us,[]⟩ (ps.zip (us++[.bool true]))
def QY.own(X:K.In h)(G:h.Ns mainGlobals mg)(a:QY K x st)(hb:Cv x st ps)(hd:Cw x st ps):sC K mg x st ps:=by
 obtain⟨f,T,oc,kV,doc,pm,cdv,ct,od,an,osl,oT,nT,n,l,c,k,lT,sT⟩:=a;exact⟨T,f,_,⟨⟨oc,od,kV,doc,pm,an,cdv,ct,osl,rfl,l,c⟩,k⟩,λs us KI hl=>by rw[Vd]at hl ⊢;exact hb _ _ _ _ _ _ _ _ _ _ us sT hl (KI T oT lT),λs us KI hl=>hd _ _ _ _ _ _ _ _ _ _ us sT (by rw[Um]at hl;exact hl) (KI T oT lT),k,Yo X G n⟩
def IG{f T:Addr}{oc kV doc pm cdv ct:Value}{od an:Option Addr}{osl:Array (Option Value)}{oT:Obj}{nT:Nat}(n:PySem.W.nsIn K mainGlobals x=some (some (.ref f)))(l:K.lookup f=some ⟨oc,od,.func (PySem.W.fnOf x x (cy st) (bq st) (aK st) (.ref T) kV doc pm an cdv ct),osl⟩)(c:PySem.W.codeIn K cdv x=true)(k:PySem.W.keepIn K (.ref f)=true)
  (lT:K.lookup T=some oT) (sT:oT.data = .seq #[.bool true] nT):QY K x st:=⟨f,T,oc,kV,doc,pm,cdv,ct,od,an,osl,oT,nT,n,l,c,k,lT,sT⟩
end
end L3
namespace G29
open PySem L2 L3
def mD:Cv "parts_reached" (a_ 10) ["body","names","reached"]:=λ_ _ _ _ _ _ _ _ _ _ us sT hl hT=>uU (P:=λus=>BindsTo _ _ ⟨us,[]⟩ ((["body","names","reached"]:Vs).zip us)) (λ_ _ _=>by refine BindsTo.of_defaults rfl hT sT rfl ?_;rfl) us hl
def mE:Cw "parts_reached" (a_ 10) ["body","names","reached"]:=λ_ _ _ _ _ _ _ _ _ _ us sT hl hT=>ly (P:=λus=>BindsTo _ _ ⟨us,[]⟩ ((["body","names","reached"]:Vs).zip (us++[.bool true]))) (λ_ _=>by refine BindsTo.of_defaults rfl hT sT rfl ?_;rfl) us (Nat.succ.inj hl)
def EJ{l:PySem.W.OpenLaw}{w:World}{K:Vo}{h:Heap}{mg:Vr}{fa:Addr}(X:K.In h)(G:h.Ns mainGlobals mg)(hfa:mg "law" = some (.ref fa))
  (K0:Jm K "sides_of" (a_ 2))
  (K1:Jm K "parts_in" (a_ 3))
  (Mp:Jm K "parts" (a_ 4))
  (LQ:Jm K "chosen" (a_ 6))
  (J4:Jm K "plain_trace" (a_ 7))
  (J5:Jm K "led_to_part" (a_ 8))
  (JJ:QY K "parts_reached" (a_ 10))
  (Ky:Jm K "next_step" (a_ 11))
  (Lq:Jm K "filling" (a_ 12))
  (K7:Jm K "fillable" (a_ 13))
  (LU:Jm K "common" (a_ 18))
  (K8:Jm K "fraction" (a_ 19))
  (MT:Jm K "plus" (a_ 20))
  (Mq:Jm K "times" (a_ 21))
  (Kz:Jm K "things_of" (a_ 23))
  (Mr:Jm K "added" (a_ 24))
  (Km:Jm K "multiplied" (a_ 25))
  (K9:Jm K "no_tally" (a_ 26))
  (LV:Jm K "behind" (a_ 27))
  (Ms:Jm K "again" (a_ 28))
  (Jy:Jm K "tally_of_often" (a_ 29))
  (JK:Jm K "tally_of_take" (a_ 30))
  (K_:Jm K "tally_of" (a_ 31))
  (Mt:Jm K "tally" (a_ 32))
  (Jz:Jm K "tally_of_story" (a_ 34))
  (Jn:Jm K "counts_of_story" (a_ 35))
  (J6:Jm K "story_tally" (a_ 36))
  (Lr:Jm K "brought" (a_ 38))
  (JP:Jm K "needed_ahead" (a_ 39))
  (LW:Jm K "filled" (a_ 40))
  (Ls:Jm K "has_row" (a_ 42))
  (JQ:Jm K "rows_of_body" (a_ 44))
  (JR:Jm K "rows_come_to" (a_ 45))
  (KA:Jm K "_law_deal" (a_ 47))
  (KB:Jm K "_law_draw" (a_ 48))
  (Kn:Jm K "_law_words" (a_ 49))
  (La:Jm K "_law_low" (a_ 50))
  (KC:Jm K "_law_plus" (a_ 51))
  (Ko:Jm K "_law_times" (a_ 52))
  (KE:Jm K "_law_cost" (a_ 53))
  (KF:Jm K "_law_leaf" (a_ 54))
  (KG:Jm K "_law_body" (a_ 55))
  (Jo:Jm K "_law_pass_count" (a_ 56))
  (Jh:Jm K "_law_round_count" (a_ 57))
  (JA:Jm K "_law_deed_body" (a_ 58))
  (Kp:Jm K "_law_house" (a_ 59))
  (Kq:Jm K "_law_trace" (a_ 60))
  (KH:Jm K "_law_gone" (a_ 61))
  (Kr:Jm K "_law_world" (a_ 62))
  (J7:Jm K "_law_number" (a_ 63))
  (JS:Jm K "_law_follows" (a_ 64))
  (JL:Jm K "_law_is_going" (a_ 65))
  (KJ:Jm K "_law_walk" (a_ 66))
  (Lb:Jm K "_law_sum" (a_ 67))
  (KK:Jm K "_law_many" (a_ 68))
  (Ks:Jm K "_law_tally" (a_ 69))
  (JM:Jm K "_law_is_story" (a_ 70))
  (Ji:Jm K "_law_story_tally" (a_ 71))
  (Kt:Jm K "_law_chain" (a_ 72))
  (Ku:Jm K "_law_visit" (a_ 73))
  (Jp:Jm K "_law_wide_house" (a_ 74))
  (J8:Jm K "_law_within" (a_ 75))
  (J9:Jm K "_law_brings" (a_ 76))
  (Kv:QX l.prog w K "SIDES_FROM" (C.k_SIDES_FROM.map λkv=>(kv.1,V.int kv.2)))
  (NI:((["abs","all","any","bool","enumerate","int","isinstance","len","list","max","range","reversed","tuple","zip"]:Vs).all λx=>BH (PySem.W.nsIn K mainGlobals x))=true)
  (OK:Jm K "law" (a_ 77))
  : ∃fd:FuncData,(∀(s:Shared) (v:Value),BindsTo s fd ⟨[v],[]⟩ [("_law_script",v)])/\∀base:Heap,K.In base->base.Ns mainGlobals mg->oN l.prog w K mg base zQ 33 fa fd ["_law_script"] (FU K 1 tq):=by
 obtain⟨kV,doc,pm,an,cdv,ct,O⟩:=OK.law X G hfa (ps:=["_law_script"]) (λ_ _ _ _ _ _=>tQ λ_=>rfl);exact⟨_,λs v=>.of_eq rfl,λbase _ _=>(Em (P:=l.prog) (w:=w) (base:=base) ⟨K0.own X G (λ_ _ _ _ _ _=>tQ λ_=>rfl),
  K1.own X G (λ_ _ _ _ _ _=>tQ λ_=>rfl),
  Mp.own X G (λ_ _ _ _ _ _=>tQ λ_=>rfl),
  LQ.own X G (λ_ _ _ _ _ _=>ly λ_ _=>rfl),
  J4.own X G (λ_ _ _ _ _ _=>tQ λ_=>rfl),
  J5.own X G (λ_ _ _ _ _ _=>uU λ_ _ _=>rfl),
  JJ.own X G mD mE,
  Ky.own X G (λ_ _ _ _ _ _=>ly λ_ _=>rfl),
  Lq.own X G (λ_ _ _ _ _ _=>tQ λ_=>rfl),
  K7.own X G (λ_ _ _ _ _ _=>tQ λ_=>rfl),
  LU.own X G (λ_ _ _ _ _ _=>ly λ_ _=>rfl),
  K8.own X G (λ_ _ _ _ _ _=>ly λ_ _=>rfl),
  MT.own X G (λ_ _ _ _ _ _=>ly λ_ _=>rfl),
  Mq.own X G (λ_ _ _ _ _ _=>ly λ_ _=>rfl),
  Kz.own X G (λ_ _ _ _ _ _=>uU λ_ _ _=>rfl),
  Mr.own X G (λ_ _ _ _ _ _=>ly λ_ _=>rfl),
  Km.own X G (λ_ _ _ _ _ _=>ly λ_ _=>rfl),
  K9.own X G (λ_ _ _ _ _ _=>tQ λ_=>rfl),
  LV.own X G (λ_ _ _ _ _ _=>ly λ_ _=>rfl),
  Ms.own X G (λ_ _ _ _ _ _=>ly λ_ _=>rfl),
  Jy.own X G (λ_ _ _ _ _ _=>uU λ_ _ _=>rfl),
  JK.own X G (λ_ _ _ _ _ _=>ly λ_ _=>rfl),
  K_.own X G (λ_ _ _ _ _ _=>uU λ_ _ _=>rfl),
  Mt.own X G (λ_ _ _ _ _ _=>uU λ_ _ _=>rfl),
  Jz.own X G (λ_ _ _ _ _ _=>ly λ_ _=>rfl),
  Jn.own X G (λ_ _ _ _ _ _=>ly λ_ _=>rfl),
  J6.own X G (λ_ _ _ _ _ _=>ly λ_ _=>rfl),
  Lr.own X G (λ_ _ _ _ _ _=>uU λ_ _ _=>rfl),
  JP.own X G (λ_ _ _ _ _ _=>uU λ_ _ _=>rfl),
  LW.own X G (λ_ _ _ _ _ _=>ly λ_ _=>rfl),
  Ls.own X G (λ_ _ _ _ _ _=>tQ λ_=>rfl),
  JQ.own X G (λ_ _ _ _ _ _=>ly λ_ _=>rfl),
  JR.own X G (λ_ _ _ _ _ _=>tQ λ_=>rfl),
  KA.own X G (λ_ _ _ _ _ _=>ly λ_ _=>rfl),
  KB.own X G (λ_ _ _ _ _ _=>ly λ_ _=>rfl),
  Kn.own X G (λ_ _ _ _ _ _=>ly λ_ _=>rfl),
  La.own X G (λ_ _ _ _ _ _=>ly λ_ _=>rfl),
  KC.own X G (λ_ _ _ _ _ _=>ly λ_ _=>rfl),
  Ko.own X G (λ_ _ _ _ _ _=>ly λ_ _=>rfl),
  KE.own X G (λ_ _ _ _ _ _=>tQ λ_=>rfl),
  KF.own X G (λ_ _ _ _ _ _=>ly λ_ _=>rfl),
  KG.own X G (λ_ _ _ _ _ _=>HQ λ_ _ _ _=>rfl),
  Jo.own X G (λ_ _ _ _ _ _=>tQ λ_=>rfl),
  Jh.own X G (λ_ _ _ _ _ _=>tQ λ_=>rfl),
  JA.own X G (λ_ _ _ _ _ _=>HQ λ_ _ _ _=>rfl),
  Kp.own X G (λ_ _ _ _ _ _=>HQ λ_ _ _ _=>rfl),
  Kq.own X G (λ_ _ _ _ _ _=>uU λ_ _ _=>rfl),
  KH.own X G (λ_ _ _ _ _ _=>uU λ_ _ _=>rfl),
  Kr.own X G (λ_ _ _ _ _ _=>ly λ_ _=>rfl),
  J7.own X G (λ_ _ _ _ _ _=>tQ λ_=>rfl),
  JS.own X G (λ_ _ _ _ _ _=>uU λ_ _ _=>rfl),
  JL.own X G (λ_ _ _ _ _ _=>uU λ_ _ _=>rfl),
  KJ.own X G (λ_ _ _ _ _ _=>Ia λ_ _ _ _ _=>rfl),
  Lb.own X G (λ_ _ _ _ _ _=>ly λ_ _=>rfl),
  KK.own X G (λ_ _ _ _ _ _=>ly λ_ _=>rfl),
  Ks.own X G (λ_ _ _ _ _ _=>uU λ_ _ _=>rfl),
  JM.own X G (λ_ _ _ _ _ _=>ly λ_ _=>rfl),
  Ji.own X G (λ_ _ _ _ _ _=>ly λ_ _=>rfl),
  Kt.own X G (λ_ _ _ _ _ _=>tQ λ_=>rfl),
  Ku.own X G (λ_ _ _ _ _ _=>uU λ_ _ _=>rfl),
  Jp.own X G (λ_ _ _ _ _ _=>tQ λ_=>rfl),
  J8.own X G (λ_ _ _ _ _ _=>Ia λ_ _ _ _ _=>rfl),
  J9.own X G (λ_ _ _ _ _ _=>uU λ_ _ _=>rfl),
  lA (x:="abs") X G NI,
  lA (x:="all") X G NI,
  lA (x:="any") X G NI,
  lA (x:="bool") X G NI,
  lA (x:="enumerate") X G NI,
  lA (x:="int") X G NI,
  lA (x:="isinstance") X G NI,
  lA (x:="len") X G NI,
  lA (x:="list") X G NI,
  lA (x:="max") X G NI,
  lA (x:="range") X G NI,
  lA (x:="reversed") X G NI,
  lA (x:="tuple") X G NI,
  lA (x:="zip") X G NI,
  Kv.kd X G⟩ O).ok⟩
def HR{l:PySem.W.OpenLaw}{q:Program}{loose:Vs}{XP:(Vr)->Heap->Prop}{YP:World->Heap->Prop}{d:DefRec}{K:Params->PySem.W.Frag}(hn:l.most=some 63)(hdf:d.params.defaults=[])
  (hY:∀(w:World)(h:Heap),YP w h->(K w.params).In h)
  (F:∀(w:World)(mg:Vr)(fa:Addr)(h:Heap),(K w.params).In h->h.Ns mainGlobals mg->mg d.name=some (.ref fa)->
   ∃fd:FuncData,(∀(s:Shared) (u:Value),BindsTo s fd ⟨[u],[]⟩ [("_law_script",u)])/\∀base:Heap,(K w.params).In base->base.Ns mainGlobals mg->oN l.prog w (K w.params) mg base zQ 33 fa fd ["_law_script"] (FU (K w.params) 1 tq)) :
  PySem.W.WalkO q loose XP YP l.row.toRowW d [] (λf vs=>PySem.call f vs):=
 L2.Av (n:=63) (k:=33) (x:="_law_script") (CX:=λ_=>zQ) (sp:=λw=>FU (K w.params) 1 tq) hn (by decide) hdf ⟨rfl,by decide,by decide,rfl⟩ hY F (λ_ _ a ns hl hO hS=>Hu hO hS (zM ns hl)) λ_ _ _ _ _ z=>z
end G29
local macro_rules | `(tactic| walk_at "k")=>`(tactic| (apply L3.IE; k_is; k_is; k_is; k_is))
local macro_rules | `(tactic| walk_at "d")=>`(tactic| (apply L3.IG; k_is; k_is; k_is; k_is; k_is; rfl))
open PySem PySem.W PyProof.Rows
set_option maxRecDepth 100000 in
set_option maxHeartbeats 0 in
theorem PySem.Challenge.cw_dueworth_k29_whole_what_never_fills_holds : PySem.Challenge.rw_dueworth_k29_whole_what_never_fills.Holds := by
 w_on; refine holds_law E29.said λsaid => ?_
 refine holds_open (q := E29.vw) (loose := ["SIDES_FROM", "parts_reached"]) (Xt := λs => (xlAt E29.vw [] s && recOk (RowW.records E29.rr) s)) (XP := XL E29.vw []) (N := 5042)
  (Yf := Hook.obs E29.hk) (Ya := Hook.val E29.hk) (YP := Hook.says (kHook E29.early.heap_1 E29.as E29.HS)) E29.left (Hook.of E29.hk) (Hook.keeps E29.hk) (λs e => xl_of s (WV.mp e).1)
  XL.keeps rfl rfl rfl (λs e => recFacts_of (WV.mp e).2) rfl (by assumption)
  (by decide +kernel) ⟨rfl, rfl, rfl, rfl, rfl, by decide +kernel⟩ ?hw ?hc
 (case hw => w_witness2)
 k_fill
 refine G29.HR (l := PySem.Challenge.rw_dueworth_k29_whole_what_never_fills) rfl rfl (λw h Y => PySem.W.kIn_of Y) ?F
 case F =>
  intro w mg fa h KX G hmg
  refine' G29.EJ KX G hmg ?K0 ?K1 ?Mp ?LQ ?J4 ?J5 ?JJ ?Ky ?Lq ?K7 ?LU ?K8 ?MT ?Mq ?Kz ?Mr ?Km ?K9 ?LV ?Ms ?Jy ?JK ?K_ ?Mt ?Jz ?Jn ?J6 ?Lr ?JP ?LW ?Ls ?JQ ?JR ?KA ?KB ?Kn ?La ?KC ?Ko ?KE ?KF ?KG ?Jo ?Jh ?JA ?Kp ?Kq ?KH ?Kr ?J7 ?JS ?JL ?KJ ?Lb ?KK ?Ks ?JM ?Ji ?Kt ?Ku ?Jp ?J8 ?J9 ?Kv ?NI ?OK
  (case K0 => walk_at "k")
  (case K1 => walk_at "k")
  (case Mp => walk_at "k")
  (case LQ => walk_at "k")
  (case J4 => walk_at "k")
  (case J5 => walk_at "k")
  (case JJ => walk_at "d")
  (case Ky => walk_at "k")
  (case Lq => walk_at "k")
  (case K7 => walk_at "k")
  (case LU => walk_at "k")
  (case K8 => walk_at "k")
  (case MT => walk_at "k")
  (case Mq => walk_at "k")
  (case Kz => walk_at "k")
  (case Mr => walk_at "k")
  (case Km => walk_at "k")
  (case K9 => walk_at "k")
  (case LV => walk_at "k")
  (case Ms => walk_at "k")
  (case Jy => walk_at "k")
  (case JK => walk_at "k")
  (case K_ => walk_at "k")
  (case Mt => walk_at "k")
  (case Jz => walk_at "k")
  (case Jn => walk_at "k")
  (case J6 => walk_at "k")
  (case Lr => walk_at "k")
  (case JP => walk_at "k")
  (case LW => walk_at "k")
  (case Ls => walk_at "k")
  (case JQ => walk_at "k")
  (case JR => walk_at "k")
  (case KA => walk_at "k")
  (case KB => walk_at "k")
  (case Kn => walk_at "k")
  (case La => walk_at "k")
  (case KC => walk_at "k")
  (case Ko => walk_at "k")
  (case KE => walk_at "k")
  (case KF => walk_at "k")
  (case KG => walk_at "k")
  (case Jo => walk_at "k")
  (case Jh => walk_at "k")
  (case JA => walk_at "k")
  (case Kp => walk_at "k")
  (case Kq => walk_at "k")
  (case KH => walk_at "k")
  (case Kr => walk_at "k")
  (case J7 => walk_at "k")
  (case JS => walk_at "k")
  (case JL => walk_at "k")
  (case KJ => walk_at "k")
  (case Lb => walk_at "k")
  (case KK => walk_at "k")
  (case Ks => walk_at "k")
  (case JM => walk_at "k")
  (case Ji => walk_at "k")
  (case Kt => walk_at "k")
  (case Ku => walk_at "k")
  (case Jp => walk_at "k")
  (case J8 => walk_at "k")
  (case J9 => walk_at "k")
  (case Kv => apply L3.IF; k_is; k_is; rfl; exact L2.Du _ w [("then", 1, _, _), ("either", 1, _, _), ("take", 3, _, _), ("often", 1, _, _)] _ (by decide +kernel))
  (case NI => kernel_rfl)
  (case OK => walk_at "k")
#print axioms PySem.Challenge.cw_dueworth_k29_whole_what_never_fills_holds
