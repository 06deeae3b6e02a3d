import PyProof.Rows.All
import Wide.All
import OpenK.AllK
import Wide.FinOn
import Lean
import PyProof.EqAt
import PyProof.EqKinds
import PyProof.TupleCall
import PySem.Challenge.RW_dueworth_k08_the_first_wrong_row
import Open.Tree
import Open.Head
open PySem renaming wpAny_bind→UD,wpAny_pure→UL,wpAny_with_toks→Vg,wpAny_field→Vt,wpAny_mono→V8,wpAny_newObj_type→Wa,wpAny_holding→We,wpAny_Call_Name_kw→Wg,wpAny_callSpecial?_slot→Wi,wpAny_loadPart_at→Wl,mem_of_lookup→Wn,wpAny_seqItems→Wu,wpAny_setField_rec→WD,wpAny_passesOwn→WI,wpAny_truthy_bool→WM,wpAny_pyIter_list→WO,wpAny_standAt→WQ,wpAny_call_entry→WW,wpAny_pyIter_tuple→W4,call_meets→Xf,wpAny_setField→Xg,codeAny_mono→Xj,wpAny_comprehension_free→Xw,wpAny_execs_nil→Xy,typeIs_str→XA,tupleKind_room_in1→XC,wpAny_rule→Yb,wpAny_updateSeq_pair→Yk,wpAny_setFlight_none→Yl,wpAny_isSubtype_exc→Yt,wpAny_call→Yw
open List renaming map_cons→UE,mem_cons→UI,length_map→UJ,length_append→UK,mem_singleton→UM,mem_cons_of_mem→UP,length_cons→UQ,mem_append→UT,not_mem_nil→UW,size_toArray→UX,getElem?_eq_some_iff→U3,map_append→U5,getElem?_map→U7,append_assoc→U8,getElem?_eq_getElem→U9,count_append→Vb,map_nil→Ve,mem_map→Vf,mem_append_right→Vh,length_eq_zero_iff→Vi,mem_cons_self→Vj,append_nil→Vp,nodup_cons→Vz,mem_append_left→VA,mem_of_getElem?→VC,all_eq_true→VD,map_map→VF,sublist_cons_self→VG,length_take→VH,take_append_drop→VJ,count_cons_self→VM,mem_of_mem_take→VN,getElem?_eq_none→VR,singleton_append→VS,nil_append→VT,sum_cons→VU,mem_of_mem_drop→VX,length_singleton→V2,cons_append→V5,getElem?_append_left→V6,drop_eq_getElem_cons→V7,replicate_succ→V9,length_replicate→Wb,getElem?_append_right→Wj,take_of_length_le→Wm,length_set→Wq,length_nil→Wr,length_drop→Wt,tail_drop→Ww,getElem?_replicate→Wx,reverse_cons→Wy,contains_cons→WE,count_cons_of_ne→WH,sum_append→WL,flatten_cons→WN,map_take→WS,filterMap_cons→WV,drop_zero→WY,take_length→W0,dropLast_concat_getLast→W7,any_cons→W8,getElem?_set→Xa,flatMap_cons→Xb,mem_range'_1→Xd,lookup_cons→Xl,getElem_mem→Xm,map_set→Xp,isEmpty_eq_false_iff→Xq,getElem?_range→Xs,forIn_cons→Xz,length_eq_one_iff→XR,drop_of_length_le→XT,drop_eq_nil_of_le→XU,drop_drop→XW,drop_sublist→XX,eraseIdxIfInBounds_toArray→XY,map_drop→Yh,all_cons→Yi,getElem?_set_ne→Yj,mem_filter→Yn,length_reverse→Ys,mem_range→Yv,take_succ→Yy,take_sublist→Yz,map_id→YD
open PySem.Heap renaming get?_push_of_some→UG,lt_size→US,get?_push_size→U0,get?_update_other→Vc,get?_update_self→V1,size_push→Wk
open Nat renaming le_refl→UH,le_trans→UN,lt_of_lt_of_le→UU,zero_le→UZ,ne_of_lt→Vm,succ_le_succ→V0,le_of_ble_eq_true→V3,lt_irrefl→Wc,ne_of_gt→WA,min_eq_left→WK,le_of_lt→Xi,lt_trans→Xk,zero_add→Xn,lt_of_le_of_lt→XE,min_le_right→Yc,le_add_right→Yd,le_max_right→Yg,pow_lt_pow_right→Ym,le_max_left→Yr,le_succ→YA,gcd_one_right→YE,succ_mul→YG
open Bool renaming false_eq_true→UR,false_bne→U6,false_ne_true→Vk,and_eq_true→Vl,not_true→VW,not_false→V4,true_bne→WB,eq_iff_iff→WJ,and_eq_true_iff→Xe,not_eq_true'→YC
open Int renaming eq_ofNat_of_zero_le→Vn,toNat_of_nonneg→Wz,mul_ediv_cancel_left→WR,fdiv_eq_ediv_of_dvd→WX,emod_lt_of_pos→XG,toNat_natCast→XN,natCast_pos→Yp,emod_nonneg→Yq,le_of_lt→Yu
open Option renaming map_eq_some_iff→VE,bind_eq_some_iff→XI,isSome_map→YB
open Ne renaming symm→VI
open PyProof.Rows renaming callWith_type1→VO,slot_tuple_getitem→VP
open Option.some renaming inj→VY
open PySem.PassesOwn renaming never→VZ
open PySem.Obj renaming data_mapFields→Wh,isFreed_of_fields→WG
open PySem.F renaming slot_tuple_iterator_next→WC,plainAttrs_str→W5,excBase_ValueError→Xh,args_tuple_add_2→Xv,entry_tuple_add→XH,slot_tuple_add→XM,entry_str_split→XS,slot_str_split→Ye,slot_zip_next→Yo
open PySem.W renaming mg_of→WT,callWith_K→Yx
open PySem.StrLaws renaming found_one→WZ,split_free→Xx
open PySem.Calls renaming spliced_cons→W3,spliced_nil→XJ,callWith_builtin→XQ
open List.cons renaming inj→W9
open Array renaming length_toList→Xr,getElem?_toList→XZ
open Prod.mk renaming injEq→YF
section
set_option Elab.async false
set_option linter.all false
set_option maxRecDepth 100000
set_option maxHeartbeats 0
abbrev UO:=@decide_eq_false
abbrev UY:=@decide_eq_true_eq
abbrev U1:=@decide_eq_true
abbrev U4:=@congrArg
abbrev Vx:=@if_false
abbrev Vy:=@or_false
abbrev VL:=@if_true
abbrev VQ:=@true_and
abbrev WU:=@beq_eq_false_iff_ne
abbrev Xo:=@beq_self_eq_true
abbrev Xu:=@ne_true_of_eq_false
abbrev XF:=@beq_iff_eq
namespace ET
open PySem PySem.W PyProof.Rows
def ie(tb:String→Option Builtin)(p:Program)(w:World)(n₀:Nat)(ann:Option Value):Nat→SharedT→Thread→Option SharedT
 |0,_,_=>none
 |n+1,s,t=>match through t with
  |true=>some s
  |false=>match stepOk n₀ ann t with
   |false=>none
   |true=>match stepT (denote tb) p w s t with
    |some x=>ie tb p w n₀ ann n x.1 x.2
    |none=>none
theorem l6{tb:String→Option Builtin}{p:Program}{w:World}{n₀:Nat}{ann:Option Value}:∀{n:Nat}{s s':SharedT}{t:Thread},ie tb p w n₀ ann n s t=some s'→topRun tb p w n₀ ann n s.abs t=some s'.abs
 |0,_,_,_,h=>by cases h
 |n+1,s,s',t,h=>by
  unfold ie at h
  unfold topRun
  cases he:through t with
  |true=>rw[he]at h;cases h;rfl
  |false=>
   rw[he]at h
   cases hk:stepOk n₀ ann t with
   |false=>rw[hk]at h;cases h
   |true=>
    rw[hk]at h
    cases hs:stepT (denote tb) p w s t with
    |none=>rw[hs]at h;cases h
    |some r=>rw[hs]at h;rw[stepT_spec hs];exact l6 h
def Ff:List Obj→BT→Nat→Option (BT×Nat)
 |[],t,n=>some (t,n)
 |o::os,t,n=>match ((t.ins n o).get n).isSome with
  |true=>Ff os (t.ins n o) (n+1)
  |false=>none
theorem rR{life:Life}:∀{os:List Obj}{t t':BT}{n n':Nat},Ff os t n=some (t',n')→absHeap t' n' life=⟨(absHeap t n life).objs++os.toArray,life⟩
 |[],t,t',n,n',h=>by cases h;simp[absHeap]
 |o::os,t,t',n,n',h=>by
  unfold Ff at h
  cases g:((t.ins n o).get n).isSome with
  |false=>rw[g]at h;cases h
  |true=>
   rw[g]at h
   rw[rR h,absHeap_ins g]
   simp[Heap.push]
def ig(tb:String→Option Builtin)(p:Program)(w:World)(N:Nat)(s₀:Shared):Option Shared:=
 match s₀.heap.isNs mainGlobals&&s₀.gens.size == 0 with
 |true=>match Ff s₀.heap.objs.toList .nil 0 with
  |some x=>match ie tb p w x.2 (s₀.heap.nsMap mainGlobals "__annotations__") N ⟨x.1,x.2,s₀.heap.life,s₀.gens,s₀.drawn,s₀.toks,s₀.os⟩ (topStub p)with
   |some s=>match staticsOk (importedModules p.main.body) s₀.heap s.abs.heap&&namesBound p s.abs.heap&&gensDone s.abs&&laidKept s₀.heap s.abs.heap with
    |true=>some s.abs
    |false=>none
   |none=>none
  |none=>none
 |false=>none
theorem qr{tb:String→Option Builtin}{p:Program}{w:World}{N:Nat}{s₀ s:Shared}(h:ig tb p w N s₀=some s):topFrom tb p w N s₀=some s:=by
 unfold ig at h
 unfold topFrom
 cases h1:s₀.heap.isNs mainGlobals&&s₀.gens.size == 0 with
 |false=>rw[h1]at h;cases h
 |true=>
  rw[h1]at h
  dsimp only at h ⊢
  cases h2:Ff s₀.heap.objs.toList .nil 0 with
  |none=>rw[h2]at h;cases h
  |some x=>
   rw[h2]at h
   dsimp only at h
   have e:=rR (life:=s₀.heap.life) h2
   have e':absHeap x.1 x.2 s₀.heap.life=s₀.heap:=by
    rw[e]
    simp[absHeap,BT.list]
   have n':x.2=s₀.heap.objs.size:=by rw[←e',absHeap_size]
   cases h3:ie tb p w x.2 (s₀.heap.nsMap mainGlobals "__annotations__") N ⟨x.1,x.2,s₀.heap.life,s₀.gens,s₀.drawn,s₀.toks,s₀.os⟩ (topStub p)with
   |none=>rw[h3]at h;cases h
   |some r=>
    rw[h3]at h
    dsimp only at h
    have ea:SharedT.abs ⟨x.1,x.2,s₀.heap.life,s₀.gens,s₀.drawn,s₀.toks,s₀.os⟩=s₀:=by
     unfold SharedT.abs
     rw[e']
    have:=l6 h3
    rw[ea,n']at this
    rw[this]
    exact h
theorem qt{tb:String→Option Builtin}{p:Program}{w:World}{N:Nat}{s₀:Shared}{α:Type}{f:Shared→α}{a:α}(h:Option.map f (ig tb p w N s₀)=some a):Option.map f (topFrom tb p w N s₀)=some a:=by
 obtain⟨s,h1,h2⟩:=VE.mp h
 rw[qr h1]
 exact U4 some h2
def seenT(p q:Program)(loose:List Str)(Xt:Shared→Bool){α:Type}(Yf:Shared→α)(N:Nat)(u u':World):=
 Option.map (λc=>Option.map (λs=>(openSeen q loose (importedModules p.main.body) Xt true s,Yf s)) (ig treeTable p u' N c)) (fencedOpening treeTable p u N)
lay_quick seenT
theorem rT{p q:Program}{loose:List Str}{Xt:Shared→Bool}{α:Type}{Yf:Shared→α}{N:Nat}{u u':World}{r}(h:PySem.W.Fast.tw2787559817927863336 p q loose Xt Yf N u u'=r):seenT p q loose Xt Yf N u u'=r:=by
 rw[PySem.W.Fast.te2787559817927863336]
 exact h
theorem G1{p q:Program}{loose:List Str}{Xt:Shared→Bool}{α:Type}{Yf:Shared→α}{Ya:World→α}{N:Nat}
  (h:∀u:World,seenT p q loose Xt Yf N u u=some (some (openGood q loose,Ya u))):LeftO p q loose Xt Yf Ya N:=λu=>by
 obtain⟨c,a,b⟩:=VE.mp (h u)
 unfold openEnds
 rw[a]
 exact qt b
theorem vb{p q:Program}{loose:List Str}{Xt:Shared→Bool}{α:Type}{Yf:Shared→α}{Ya:World→α}{N:Nat}(row:String)
  (h0:∀u:World,seenT p q loose Xt Yf N u (u.withFollow row false)=some (some (openGood q loose,Ya (u.withFollow row false))))
  (h1:∀u:World,seenT p q loose Xt Yf N u (u.withFollow row true)=some (some (openGood q loose,Ya (u.withFollow row true)))):LeftO p q loose Xt Yf Ya N:=λu=>by
 obtain⟨c,a,b⟩:=VE.mp (h0 u)
 obtain⟨c',a',b'⟩:=VE.mp (h1 u)
 have hc:c'=c:=by rw[a]at a';cases a';rfl
 subst hc
 have b:=qt b
 have b':=qt b'
 have hu:=World.withFollow_self u row
 unfold openEnds
 rw[a]
 cases hb:u.params.followText row<;>rw[hb]at hu
 .rw[hu]at b
  exact b
 .rw[hu]at b'
  exact b'
end ET
namespace E08
open PySem PySem.W PyProof.Rows
abbrev tp(i:Nat):Stmt:=PySem.Challenge.pw_dueworth_k08_the_first_wrong_row.main.body.getD i (.Pass ⟨0,0,0,0⟩)
/-- the text without what says nothing -/
def vw:Program:={ PySem.Challenge.pw_dueworth_k08_the_first_wrong_row with main:={ PySem.Challenge.pw_dueworth_k08_the_first_wrong_row.main with body:=[tp 1,tp 2,tp 3,tp 4,tp 5,tp 6,tp 7,tp 8,tp 10,tp 11,tp 12,tp 13,tp 15,tp 16,tp 17,tp 19,tp 20,tp 21,tp 22,tp 23,tp 24,tp 25,tp 26,tp 27,tp 28,tp 29,tp 31,tp 32,tp 33,tp 34,tp 35,tp 36,tp 37,tp 38,tp 39,tp 40,tp 41,tp 42,tp 43,tp 44,tp 45,tp 46,tp 47,tp 48,tp 49,tp 50,tp 51,tp 52,tp 53,tp 54] } }
abbrev rr:RowW:=OpenRow.toRowW (OpenLaw.row PySem.Challenge.rw_dueworth_k08_the_first_wrong_row)
local macro_rules | `(tactic| o_head $H)=>`(tactic|
 refine holds_open (q:=vw) (loose:=["FORMS"]) (Xt:=λs=>(xlAt vw [] s&&recOk (RowW.records rr) s)) (XP:=XL vw []) (N:=6458)
  (Yf:=Hook.obs $H) (Ya:=Hook.val $H) (YP:=Hook.says $H) ?hl (Hook.of $H) (Hook.keeps $H) (λs e=>xl_of s (Xe.mp e).1)
  XL.keeps rfl rfl rfl (λs e=>recFacts_of (Xe.mp e).2) rfl (by assumption)
  (by decide +kernel) ⟨rfl,rfl,rfl,rfl,rfl,by decide +kernel⟩ ?hw ?hc)
/-- the law is well said: by the quick twin of the look,with no twin of the program -/
theorem said:OpenLaw.wellSaid PySem.Challenge.rw_dueworth_k08_the_first_wrong_row=true:=(congrFun PySem.W.Fast.te9446332074065402090 _).trans (by kernel_rfl)
/-- says nothing; what lies in the heap is written down by the way -/
theorem early(h:∀P:Prop,P):PySem.Challenge.rw_dueworth_k08_the_first_wrong_row.Holds:=by
 w_on;refine holds_law said λsaid=>?_;k_head
 all_goals exact h _
noncomputable abbrev as:List Addr:=[2,3,15,22,23,24,25,28,35,37,38,40,41,42,43,44,47,54,56,57,59,60,61,62,63,66,73,75,76,78,79,80,81,82,85,92,94,95,97,98,99,100,101,104,111,112,113,116,123,124,125,128,135,136,137,140,142,143,145,146,147,150,151,152,154,155,157,158,159,160,163,164,165,166,167,168,169,170,171,172,173,175,176,178,179,180,182,183,185,186,187,189,190,192,193,194,196,197,199,200,201,203,204,206,207,208,210,211,213,214,215,217,218,220,221,222,225,226,227,229,230,232,233,234,236,237,239,240,241,244,245,246,248,249,251,252,253,255,256,258,259,260,262,263,265,266,267,269,270,272,273,274,277,278,279,281,282,284,285,286,288,289,291,292,293,295,296,298,299,300,302,303,305,306,307,310,311,312,314,315,317,318,319,322,323,324,326,327,329,330,331,334,335,336,338,339,341,342,343,345,346,348,349,350,353,354,355,357,358,360,361,362,365,366,367,369,370,372,373,374,376,377,379,380,381,383,384,386,387,388,390,391,393,394]
theorem IN(P:Params):as=(early.heap_1 P).map (·.1):=by kernel_rfl
noncomputable abbrev hk:Hook:=kHook early.heap_1 as IN
theorem Fg(u:World):ET.seenT (OpenLaw.row PySem.Challenge.rw_dueworth_k08_the_first_wrong_row).prog vw ["FORMS"] (λs=>(xlAt vw [] s&&recOk (RowW.records rr) s)) (Hook.obs hk) 6458 u (u.withFollow "special-get-raises" false)=some (some (openGood vw ["FORMS"],Hook.val hk (u.withFollow "special-get-raises" false))):=ET.rT (by kernel_rfl)
theorem Fh(u:World):ET.seenT (OpenLaw.row PySem.Challenge.rw_dueworth_k08_the_first_wrong_row).prog vw ["FORMS"] (λs=>(xlAt vw [] s&&recOk (RowW.records rr) s)) (Hook.obs hk) 6458 u (u.withFollow "special-get-raises" true)=some (some (openGood vw ["FORMS"],Hook.val hk (u.withFollow "special-get-raises" true))):=ET.rT (by kernel_rfl)
theorem left:LeftO (OpenLaw.row PySem.Challenge.rw_dueworth_k08_the_first_wrong_row).prog vw ["FORMS"] (λs=>(xlAt vw [] s&&recOk (RowW.records rr) s)) (Hook.obs hk) (Hook.val hk) 6458:=ET.vb "special-get-raises" Fg Fh
end E08
end
set_option hygiene false
local macro_rules|`(tactic|walk_at "0")=>`(tactic|refine hN _ _ (ar λN hN=>?_))
local macro_rules|`(tactic|walk_at "1")=>`(tactic|simp only[List.set_cons_zero,List.set_cons_succ])
local macro_rules|`(tactic|walk_at "2")=>`(tactic|simp only[tx,Bd.size,UK,List.length_singleton,UE,Ve,List.sum_cons,List.sum_nil,List.length_cons,List.length_nil]at *)
local macro_rules|`(tactic|walk_at "3")=>`(tactic|intro pins s σ H x y v u Q I rx ry h)
local macro_rules|`(tactic|walk_at "4")=>`(tactic|intro X hP hw hK hc i pins s σ H E I hf st hg)
local macro_rules|`(tactic|walk_at "5")=>`(tactic|refine ar λN hN=>?_)
local macro_rules|`(tactic|walk_at "6")=>`(tactic|obtain⟨f0,f1,f2,f3,f4,f5⟩:=hf it (by simp))
local macro_rules|`(tactic|walk_at "7")=>`(tactic|intro pins s σ H Q I h)
local macro_rules|`(tactic|walk_at "8")=>`(tactic|exact⟨rfl,rfl,rfl,by decide +kernel,rfl,by decide +kernel,by decide +kernel⟩)
local macro_rules|`(tactic|walk_at "9")=>`(tactic|(first|exact .inl rfl|exact .inr rfl|assumption))
local macro_rules|`(tactic|walk_at "a")=>`(tactic|(repeat' first|exact trivial|exact .inl rfl|exact .inr rfl|exact rfl|apply And.intro))
local macro_rules|`(tactic|walk_at "b")=>`(tactic|(repeat' first|exact trivial|exact⟨_,rfl⟩|constructor))
local macro_rules|`(tactic|walk_at "c")=>`(tactic|(first|exact Or.inl rfl|exact Or.inr (Or.inl rfl)|exact Or.inr (Or.inr rfl)))
local macro_rules|`(tactic|walk_at "d")=>`(tactic|(first|exact Or.inl rfl|exact Or.inr rfl))
open PySem in
abbrev Vq:=Value->Shared->Prop
open PySem in
abbrev Va:=List (Addr×Obj)
open PySem in
abbrev Vo:=PySem.W.Frag
open PySem in
abbrev Vr:=Str->Option Value
open PySem in
abbrev Vs:=List Str
open PySem in
abbrev Vu:=List Int
open PySem in
abbrev Vv:=List Value
open PySem in
abbrev Vw:=Array Value
set_option Elab.async false
set_option linter.all false
set_option maxRecDepth 100000
namespace L2
open PySem PySem.Spec PyProof.Rows
abbrev bp:=Sum Int Str
noncomputable def l7:bp->Value->Bool
 | .inl k,v=>Value.isInt k v
 | .inr x,v=>Value.isStrOf x v
noncomputable def Hk(w:World):bp->Int
 | .inl k=>hashInt k
 | .inr x=>hashStr w x
theorem bq:∀{k:bp}{v:Value},l7 k v=true->(∃i t,k=Sum.inl i/\v=Value.int i t)\/(∃x t,k=Sum.inr x/\v=Value.str x t)
 | .inl i,v,h=>by
  obtain⟨t,e⟩:=Value.isInt_shape (k:=i) (v:=v) h
  exact .inl ⟨i,t,rfl,e⟩
 | .inr x,v,h=>by
  obtain⟨t,e⟩:=Value.isStrOf_shape (x:=x) (v:=v) h
  exact .inr ⟨x,t,rfl,e⟩
def tP(i:Int)(t:Tok):l7 (.inl i) (.int i t)=true:=by simp[l7,Value.isInt]
def iY(x:Str)(t:Tok):l7 (.inr x) (.str x t)=true:=by simp[l7,Value.isStrOf]
def Cm(a b:Int):decide ((Sum.inl a:bp)=Sum.inl b)=(a == b):=by
 by_cases e:a=b
 .subst e;simp
 .have h:¬(Sum.inl a:bp)=Sum.inl b:=λq=>e (Sum.inl.inj q)
  rw[UO h]
  exact(WU.mpr e).symm
def Cn(a b:Str):decide ((Sum.inr a:bp)=Sum.inr b)=decide (a=b):=by
 by_cases e:a=b
 .subst e;simp
 .have h:¬(Sum.inr a:bp)=Sum.inr b:=λq=>e (Sum.inr.inj q)
  rw[UO h,UO e]
def Co(a:Int)(b:Str):decide ((Sum.inl a:bp)=Sum.inr b)=false:=UO (λq=>nomatch q)
def Cp(a:Str)(b:Int):decide ((Sum.inr a:bp)=Sum.inl b)=false:=UO (λq=>nomatch q)
noncomputable def aW(prog:Program)(w:World):PySem.KeyKind prog w bp where
 is:=l7
 hash:=Hk w
 inj:=λv a b ha hb=>by
  rcases bq ha with⟨i,t,rfl,rfl⟩|⟨x,t,rfl,rfl⟩
  .rcases bq hb with⟨j,u,rfl,e⟩|⟨y,u,rfl,e⟩
   .injection e with e1 _;rw[e1]
   .exact nomatch e
  .rcases bq hb with⟨j,u,rfl,e⟩|⟨y,u,rfl,e⟩
   .exact nomatch e
   .injection e with e1 _;rw[e1]
 byValue:=λk v h=>by
  rcases bq h with⟨i,t,rfl,rfl⟩|⟨x,t,rfl,rfl⟩<;>rfl
 pyHash:=λhv h=>by
  rcases bq hv with⟨i,t,rfl,rfl⟩|⟨x,t,rfl,rfl⟩
  .exact wpAny_pyHash_int h
  .exact wpAny_pyHash_str h
 eqBool:=λhu hv h=>by
  rcases bq hu with⟨i,t,rfl,rfl⟩|⟨x,t,rfl,rfl⟩
  .rcases bq hv with⟨j,u,rfl,rfl⟩|⟨y,u,rfl,rfl⟩
   .rw[Cm]at h;exact wpAny_eqBool_int h
   .rw[Co]at h;exact SeqAt.EqAt.int_str i t y u _ _ _ _ h
  .rcases bq hv with⟨j,u,rfl,rfl⟩|⟨y,u,rfl,rfl⟩
   .rw[Cp]at h;exact SeqAt.EqAt.str_int x t j u _ _ _ _ h
   .rw[Cn]at h;exact wpAny_eqBool_str h
 «strs»:=λk x t v h=>by
  rcases bq h with⟨i,u,rfl,e⟩|⟨y,u,rfl,e⟩
  .exact nomatch e
  .injection e with e1 _
   subst e1
   cases v<;>rfl
def oS(prog:Program)(w:World)(i:Int)(t:Tok):(aW prog w).is (.inl i) (.int i t)=true:=tP i t
def oU(prog:Program)(w:World)(x:Str)(t:Tok):(aW prog w).is (.inr x) (.str x t)=true:=iY x t
inductive V where
 |non|bl (b:Bool)|int (i:Int)|str (x:Str)|NV (b:Array UInt8)|QF (b:UInt64)|ref (a:Addr)|ty (n:String)
 deriving DecidableEq
noncomputable def RelV:V->Value->Prop
 | .non,u=>u=Value.none
 | .bl b,u=>u=Value.bool b
 | .int i,u=>∃t,u=Value.int i t
 | .str x,u=>∃t,u=Value.str x t
 | .NV b,u=>∃t,u=Value.bytes b t
 | .QF b,u=>∃t,u=Value.float b t
 | .ref a,u=>u=Value.ref a
 | .ty n,u=>u=Value.type n
noncomputable abbrev Vals:List V->List Value->Prop:=Paired RelV
theorem Vals.length{xs:List V}{us:Vv}(r:Vals xs us):xs.length=us.length:=Paired.length r
theorem Vals.get:∀{xs:List V}{us:Vv}{i:Nat}{x:V},Vals xs us->xs[i]?=some x->∃u,us[i]?=some u/\RelV x u
 |_,_,_,_,.nil,e=>by simp at e
 |_,_,0,_,.cons r _,e=>by simp at e;subst e;exact⟨_,rfl,r⟩
 |_,_,i+1,x,.cons _ t,e=>by
  obtain⟨u,h1,h2⟩:=Vals.get (i:=i) (x:=x) t (by simpa using e)
  exact⟨u,by simpa using h1,h2⟩
theorem Vals.set{x:V}{u:Value}(r:RelV x u):∀{xs:List V}{us:Vv}(i:Nat),Vals xs us->Vals (xs.set i x) (us.set i u)
 |_,_,_,.nil=>.nil
 |_,_,0,.cons _ t=>.cons r t
 |_,_,i+1,.cons q t=>.cons q (Vals.set r i t)
theorem Vals.append:∀{xs ys:List V}{us ws:Vv},Vals xs us->Vals ys ws->Vals (xs++ys) (us++ws)
 |_,_,_,_,.nil,s=>s
 |_,_,_,_,.cons r t,s=>.cons r (Vals.append t s)
theorem Vals.take:∀{xs:List V}{us:Vv}(n:Nat),Vals xs us->Vals (xs.take n) (us.take n)
 |_,_,0,_=>.nil
 |_,_,_+1,.nil=>.nil
 |_,_,n+1,.cons r t=>.cons r (Vals.take n t)
theorem Vals.drop:∀{xs:List V}{us:Vv}(n:Nat),Vals xs us->Vals (xs.drop n) (us.drop n)
 |_,_,0,r=>r
 |_,_,_+1,.nil=>.nil
 |_,_,n+1,.cons _ t=>Vals.drop n t
noncomputable def Ly:Option V->Option Value->Prop
 |some v,some u=>RelV v u
 |none,none=>True
 |_,_=>False
noncomputable def KV{κ:Type}:List (κ×V)->List (κ×Value)->Prop:=Paired λ(p:κ×V) (q:κ×Value)=>p.1=q.1/\RelV p.2 q.2
noncomputable def kV:bp->V
 | .inl i=>.int i
 | .inr x=>.str x
inductive HO where
 /-- a list -/
 |lst (xs:List V)
 /-- a tuple (never changes) -/
 |tup (xs:List V)
 /-- a dict whose keys are ints and texts; one whose keys are tuples of ints and texts (the empty one is both) -/
 |dK (kvs:List (bp×V))|dT (kvs:List (List bp×V))
 /-- a set of ints: its members,its size -/
 |set (S:Int->Bool) (n:Nat)
 /-- an instance of the class at C,its dict at dx,its attributes -/
 |ins (C dx:Addr) (fs:List (Str×V))
 /-- the dict of the instance at x -/
 |own (x:Addr)
 /-- the dict of an exception -/
 |xd (fs:List (Str×V))
 /-- a bound method,f of x -/
 |met (f x:Addr)
 /-- a range object lo,lo + 1,.. below hi -/
 |Q1 (lo hi:Int)
 /-- a thing that is known to the object (the script; a dict while a loop walks it): read,never written while it is so -/
 |frz (o:Obj) (u:HO)
 /-- a code object's table -/
 |OZ (ps:Vw)
 /-- any other thing,by what is true of its one object (a def of R_ own: SY a S n:=HO.ext λh=>..) -/
 |ext (φ:Heap->Prop)
abbrev Hp:=Addr->Option HO
noncomputable def upd(H:Hp)(a:Addr)(o:HO):Hp:=λb=>if b=a then some o else H b
def au{H:Hp}{a:Addr}{o:HO}:upd H a o a=some o:=by unfold upd;rw[if_pos rfl]
def aw{H:Hp}{a b:Addr}{o:HO}(h:b≠a):upd H a o b=H b:=by unfold upd;rw[if_neg h]
def zo{H:Hp}{a:Addr}{o u:HO}:upd (upd H a o) a u=upd H a u:=by
 funext b;unfold upd;split<;>rfl
def Fi{H:Hp}{a b:Addr}{o u:HO}(h:H a=some o)(h':H b=some u)(d:o≠u):a≠b:=by
 intro e;subst e;rw[h]at h';exact d (VY h')
def aV{H:Hp}{a b:Addr}{o:HO}(h:H a=some o)(h':H b=none):a≠b:=by
 intro e;subst e;rw[h]at h';cases h'
def KA(h:Heap)(a:Addr)(its:Vw):Prop:=∃o,h.get? a=some o/\o.dict=none/\o.cls = .type "tuple"/\∃n,o.data = .seq its n
def KA.tup{h:Heap}{a:Addr}{its:Vw}(x:KA h a its):IsTup h a its:=let ⟨o,e,_,c,d⟩:=x;⟨o,e,c,d⟩
def KA.new(h:Heap)(its:Vw):KA (h.push { cls:=.type "tuple",data:=.seq its }) h.objs.size its:=⟨_,U0 _ rfl,rfl,rfl,_,rfl⟩
section
variable (P:Program)(w:World)
noncomputable def JS(H:Hp)(h:Heap)(a:Addr):HO->Prop
 | .lst xs=>xs.length<=sizeLine/\∃(its:Vv) (n:Nat),Vals xs its/\h.get? a=some { cls:=.type "list",data:=.seq its.toArray n }
 | .tup xs=>xs.length<=sizeLine/\∃its:List Value,Vals xs its/\KA h a its.toArray
 | .dK kvs=>kvs.length<=sizeLine/\(a == sysModules)=false/\∃vs,KV kvs vs/\h.DictOf (aW P w) a vs
 | .dT kvs=>kvs.length<=sizeLine/\(a == sysModules)=false/\∃xs:List (List bp×Addr×Value),
   Paired (λ(p:List bp×V) (q:List bp×Addr×Value)=>p.1=q.1/\H q.2.1=some (.tup (p.1.map kV))/\RelV p.2 q.2.2) kvs xs/\
   ∃o es ep,h.get? a=some o/\o.ExactDict/\o.data = .dict es ep/\es.toList=xs.map (entryOfKey (tupleKind (aW P w)))/\(xs.map (·.1)).Nodup
 | .set S n=>h.SetOf (intKind P w) a S n
 | .ins C dx fs=>H dx=some (.own a)/\fs.length<=1000/\dx≠a/\h.get? a=some (PySem.W.instObj C dx)/\
   ∃mA,h.Ns1 dx mA/\(∀f,Ly (fs.lookup f) (mA f))/\PySem.Within mA (fs.map (·.1))
 | .own _=>∃o,h.get? a=some o
 | .xd fs=>∃mA,h.Ns1 a mA/\∀f,Ly (fs.lookup f) (mA f)
 | .Q1 lo hi=>∃t u v,h.get? a=some { cls:=.type "range",data:=.fields #[.int lo t,.int hi u,.int 1 v] }
 | .frz o u=>h.get? a=some o/\JS H h a u
 | .OZ ps=>h.get? a=some { cls:=.none,data:=.fields ps }
 | .met f x=>h.get? a=some (PySem.W.methodObj (.ref f) (.ref x))
 | .ext φ=>φ h/\(∃o,h.get? a=some o)/\∀h1 h2:Heap,φ h1->(∀o,h1.get? a=some o->h2.get? a=some o)->φ h2
def K9(H:Hp)(h:Heap):Prop:=∀a o,H a=some o->JS P w H h a o
end
section
variable {P:Program}{w:World}{H H':Hp}{h h':Heap}{a:Addr}{o:HO}
theorem JS.lt(x:JS P w H h a o):a < h.objs.size:=by
 cases o with
 |lst xs=>obtain⟨_,_,_,_,e⟩:=x;exact US e
 |tup xs=>obtain⟨_,_,_,p⟩:=x;exact p.tup.lt
 |dK kvs=>obtain⟨_,_,_,_,o,_,_,e,_⟩:=x;exact US e
 |dT kvs=>obtain⟨_,_,_,_,o,_,_,e,_⟩:=x;exact US e
 |set S n=>obtain⟨o,_,_,_,e,_⟩:=x;exact US e
 |ins C dx fs=>obtain⟨_,_,_,e,_⟩:=x;exact US e
 |own y=>obtain⟨_,e⟩:=x;exact US e
 |xd fs=>obtain⟨_,⟨_,_,_,e,_⟩,_⟩:=x;exact US e
 |Q1 lo hi=>obtain⟨_,_,_,e⟩:=x;exact US e
 |frz ob u=>obtain⟨e,_⟩:=x;exact US e
 |OZ ps=>exact US (show h.get? a=some _ from x)
 |met f y=>exact US (show h.get? a=some _ from x)
 |ext φ=>obtain⟨_,⟨_,e⟩,_⟩:=x;exact US e
theorem Paired.O0{α β:Type}{F G:α->β->Prop}:∀{l₁:List α}{l₂:List β},Paired F l₁ l₂->(∀a b,F a b->G a b)->Paired G l₁ l₂
 |_,_,.nil,_=>.nil
 |_,_,.cons r t,f=>.cons (f _ _ r) (Paired.O0 t f)
def JS.stay(x:JS P w H h a o)(k:∀b u,(b=a\/H b=some (.own a))->h.get? b=some u->h'.get? b=some u)
  (ho:∀b,H b=some (.own a)->H' b=some (.own a)) (ht:∀b xs,H b=some (.tup xs)->H' b=some (.tup xs)):JS P w H' h' a o:=by
 induction o with
 |lst xs=>obtain⟨z,its,n,r,e⟩:=x;exact⟨z,its,n,r,k _ _ (.inl rfl) e⟩
 |tup xs=>obtain⟨z,its,r,ob,e,c⟩:=x;exact⟨z,its,r,ob,k _ _ (.inl rfl) e,c⟩
 |dK kvs=>obtain⟨z,y,vs,r,ob,es,ep,e,c⟩:=x;exact⟨z,y,vs,r,ob,es,ep,k _ _ (.inl rfl) e,c⟩
 |dT kvs=>
  obtain⟨z,y,xs,r,ob,es,ep,e,c⟩:=x
  exact⟨z,y,xs,Paired.O0 r λp q z=>⟨z.1,ht _ _ z.2.1,z.2.2⟩,ob,es,ep,k _ _ (.inl rfl) e,c⟩
 |set S n=>obtain⟨ob,es,ep,t,e,c⟩:=x;exact⟨ob,es,ep,t,k _ _ (.inl rfl) e,c⟩
 |ins C dx fs=>
  obtain⟨d,z,ne,e,mA,⟨od,es,ep,e2,c⟩,r⟩:=x
  exact⟨ho _ d,z,ne,k _ _ (.inl rfl) e,mA,⟨od,es,ep,k _ _ (.inr d) e2,c⟩,r⟩
 |own y=>obtain⟨ob,e⟩:=x;exact⟨ob,k _ _ (.inl rfl) e⟩
 |xd fs=>obtain⟨mA,⟨od,es,ep,e,c⟩,r⟩:=x;exact⟨mA,⟨od,es,ep,k _ _ (.inl rfl) e,c⟩,r⟩
 |Q1 lo hi=>obtain⟨t,u,v,e⟩:=x;exact⟨t,u,v,k _ _ (.inl rfl) e⟩
 |frz ob u ih=>obtain⟨e,q⟩:=x;exact⟨k _ _ (.inl rfl) e,ih q⟩
 |OZ ps=>
  have e:h.get? a=some { cls:=.none,data:=.fields ps }:=x
  show h'.get? a=some { cls:=.none,data:=.fields ps }
  exact k a _ (.inl rfl) e
 |met f y=>
  have e:h.get? a=some (PySem.W.methodObj (.ref f) (.ref y)):=x
  show h'.get? a=some (PySem.W.methodObj (.ref f) (.ref y))
  exact k a _ (.inl rfl) e
 |ext φ=>obtain⟨p,⟨o,e⟩,st⟩:=x;exact⟨st _ _ p λo q=>k _ _ (.inl rfl) q,⟨o,k _ _ (.inl rfl) e⟩,st⟩
theorem K9.lt(x:K9 P w H h)(e:H a=some o):a < h.objs.size:=(x a o e).lt
def K9.fresh(x:K9 P w H h)(e:h.objs.size<=a):H a=none:=by
 cases q:H a with
 |none=>rfl
 |some u=>exact absurd (UU (x.lt q) e) (Wc _)
def K9.kept(x:K9 P w H h)(k:∀b u,h.get? b=some u->h'.get? b=some u):K9 P w H h':=λa o e=>
 (x a o e).stay (λb u _ q=>k b u q) (λ_ q=>q) λ_ _ q=>q
def K9.laid(x:K9 P w H h)(k:∀b u,h.get? b=some u->h'.get? b=some u)(hp:h.objs.size<=a)(new:JS P w (upd H a o) h' a o):K9 P w (upd H a o) h':=λb u e=>by
 have hn:=x.fresh hp
 by_cases hb:b=a
 .subst hb;rw[au]at e;cases e;exact new
 .rw[aw hb]at e
  exact(x b u e).stay (λc v _ q=>k c v q) (λc q=>by rw[aw (aV q hn)];exact q) λc xs q=>by rw[aw (aV q hn)];exact q
end
def Rd(H:Hp)(a:Addr)(u:HO):Prop:=H a=some u\/∃o,H a=some (.frz o u)
def Rd.ok{P:Program}{w:World}{H:Hp}{h:Heap}{a:Addr}{u:HO}(r:Rd H a u)(x:K9 P w H h):JS P w H h a u:=by
 rcases r with r|⟨o,r⟩
 .exact x a u r
 .obtain⟨_,q⟩:=x a _ r
  exact q
noncomputable def Fj:Option HO->Prop
 |some (.lst _)=>True
 |some (.dK _)=>True
 |some (.dT _)=>True
 |some (.set _ _)=>True
 |some (.ins _ _ _)=>True
 |some (.ext _)=>True
 |_=>False
section
variable {P:Program}{w:World}{H:Hp}{h h':Heap}{x e:Addr}{o':HO}
def K9.write(ok:K9 P w H h)(mu:Fj (H x))(he:e=x\/H e=some (.own x))(k:∀b u,b≠e->h.get? b=some u->h'.get? b=some u)(PB:∃u,h'.get? e=some u)
  (new:JS P w (upd H x o') h' x o'):K9 P w (upd H x o') h':=λb u q=>by
 have PQ:∀c y,H c=some (.own y)->c≠x:=λc y r z=>by subst z;rw[r]at mu;exact mu
 have Q2:∀c xs,H c=some (.tup xs)->c≠x:=λc xs r z=>by subst z;rw[r]at mu;exact mu
 by_cases hb:b=x
 .subst hb;rw[au]at q;cases q;exact new
 .rw[aw hb]at q
  by_cases NB:b=e
  .have q':H b=some (.own x):=by
    rcases he with z|z
    .exact absurd (NB.trans z) hb
    .rw[NB];exact z
   rw[q]at q';cases q'
   obtain⟨v,hv⟩:=PB
   exact⟨v,by rw[NB];exact hv⟩
  .refine(ok b u q).stay (λc v hc r=>k c v ?_ r) (λc r=>by rw[aw (PQ c b r)];exact r) λc xs r=>by rw[aw (Q2 c xs r)];exact r
   rcases hc with rfl|hc
   .exact NB
   .rintro rfl
    rcases he with z|z
    .exact PQ c b hc z
    .rw[hc]at z;cases z;exact hb rfl
end
structure Un(fs ex:List Addr)(H H':Hp)(h h':Heap):Prop where
 keep:∀b o,h.get? b=some o->H b=none->b ∉ fs->b ∉ ex->h'.get? b=some o
 slot:∀b o,h.get? b=some o->H b=none->b∈fs->b ∉ ex->∃sl,h'.get? b=some { o with slots:=sl }
 free:∀b o,h.get? b=some o->H b=none->b ∉ ex->H' b=none
 there:∀b o,h.get? b=some o->b ∉ ex->∃o',h'.get? b=some o'
 tups:∀b xs,H b=some (.tup xs)->H' b=some (.tup xs)
 Mn:∀b o u,H b=some (.frz o u)->H' b=some (.frz o u)
 Mw:∀b ps,H b=some (.OZ ps)->∃more,H' b=some (.OZ (ps++more))
section
variable {fs fs' ex ex':List Addr}{H H1 H2:Hp}{h h1 h2 h':Heap}{a x e:Addr}{o:HO}
def Un.any(u:Un fs ex H H1 h h1){b:Addr}{ob:Obj}(q:h.get? b=some ob)(n:H b=none)(hx:b ∉ ex):∃sl,h1.get? b=some { ob with slots:=sl }:=by
 by_cases hb:b∈fs
 .exact u.slot b ob q n hb hx
 .exact⟨ob.slots,u.keep b ob q n hb hx⟩
def Un.kept(k:∀b u,h.get? b=some u->h'.get? b=some u):Un fs ex H H h h':=
 ⟨λb ob q _ _ _=>k b ob q,λb ob q _ _ _=>⟨ob.slots,k b ob q⟩,λ_ _ _ n _=>n,λb ob q _=>⟨ob,k b ob q⟩,λ_ _ q=>q,λ_ _ _ q=>q,λ_ ps q=>⟨#[],by rw[q];simp⟩⟩
def Un.refl:Un fs ex H H h h:=Un.kept λ_ _ q=>q
def Un.laid(k:∀b u,h.get? b=some u->h'.get? b=some u)(hp:h.objs.size<=a)(hn:H a=none):Un fs ex H (upd H a o) h h' where
 keep:=λb u q _ _ _=>k b u q
 slot:=λb u q _ _ _=>⟨u.slots,k b u q⟩
 free:=λb u q n _=>by rw[aw (Vm (UU (US q) hp))];exact n
 there:=λb u q _=>⟨u,k b u q⟩
 tups:=λb xs q=>by rw[aw (aV q hn)];exact q
 Mn:=λb u xs q=>by rw[aw (aV q hn)];exact q
 Mw:=λb ps q=>⟨#[],by rw[aw (aV q hn),q];simp⟩
def Un.write(mu:Fj (H x))(he:e=x\/H e=some (.own x))(k:∀b u,b≠e->h.get? b=some u->h'.get? b=some u)(PB:∃u,h'.get? e=some u):Un fs ex H (upd H x o) h h':=by
 have hx:∀b,H b=none->b≠x:=λb n z=>by subst z;rw[n]at mu;exact mu
 have hb:∀b,H b=none->b≠e:=λb n z=>by
  subst z
  rcases he with r|r
  .exact hx b n r
  .rw[n]at r;cases r
 have hm:∀b u,H b=some u->¬Fj (some u)->b≠x:=λb u q nm z=>by subst z;rw[q]at mu;exact nm mu
 refine⟨λb u q n _ _=>k b u (hb b n) q,λb u q n _ _=>⟨u.slots,k b u (hb b n) q⟩,λb u q n _=>by rw[aw (hx b n)];exact n,λb u q _=>?_,
  λb xs q=>by rw[aw (hm b _ q λz=>z)];exact q,λb u xs q=>by rw[aw (hm b _ q λz=>z)];exact q,λb ps q=>⟨#[],by rw[aw (hm b _ q λz=>z),q];simp⟩⟩
 by_cases NB:b=e
 .subst NB;exact PB
 .exact⟨u,k b u NB q⟩
end
noncomputable def G2(h:Heap)(H:Hp):List Addr:=(List.range h.objs.size).filter λa=>(H a).isSome
noncomputable def mQ(h:Heap)(H:Hp):Heap:=PySem.W.hideAll h (G2 h H)
def tQ(h:Heap)(H:Hp):(mQ h H).objs.size=h.objs.size:=PySem.W.hideAll_size _ _
def vc{h:Heap}{H:Hp}{b:Addr}{o:Obj}(e:h.get? b=some o)(n:H b=none):(mQ h H).get? b=some o:=
 PySem.W.hideAll_get _ e λhm=>by
  have q:(H b).isSome=true:=(Yn.mp hm).2
  rw[n]at q;simp at q
def zp{h:Heap}{H:Hp}{b:Addr}{o:Obj}(e:(mQ h H).get? b=some o):h.get? b=some o/\H b=none:=by
 have e':h.get? b=some o:=PySem.W.of_hideAll (G2 h H) e
 refine⟨e',?_⟩
 cases q:H b with
 |none=>rfl
 |some x=>
  have hm:b∈G2 h H:=Yn.mpr ⟨Yv.mpr (US e'),by simp[q]⟩
  have z:(mQ h H).get? b=none:=PySem.W.hideAll_none (G2 h H) hm
  rw[z]at e;cases e
structure Mod(K:Vo)(mg:Vr)(base:Heap):Prop where
 PU:K.In base
 glob:base.Ns mainGlobals mg
 blt:∃mb,base.Ns builtinsNs mb/\∀x:Str,x ≠ "__name__"->mb x=bootBuiltins x
 nolimit:base.NoLimit
structure Cx where
 prog:Program
 w:World
 K:Vo
 mg:Vr
 base:Heap
 A:Around
 N:List Str
 s₀:Shared
 H₀:Hp
 env:Env
 outer:List Env
 stack:List Env
 ex:List Addr
 fn:Str->Bool
 calm:Bool
 pn:Va
 xe:Value->Shared->Prop
 fr:Bool:=true
noncomputable def frs(l:List Env):List Addr:=l.filterMap (·.frame)
noncomputable abbrev Cx.fs(X:Cx):List Addr:=frs X.outer
def Fk(sc:Scope)(x:Str):Prop:=sc.names.lookup x=some .local\/sc.names.lookup x=some .cell\/sc.names.lookup x=some .free
def Bz(sc:Scope)(x:Str):Prop:=sc.names.lookup x=some .local\/sc.names.lookup x=some .cell
def Hl(env:Env)(h:Heap)(m:Vr)(x:Str)(u:Value):Prop:=
 (env.kindOf x=some .local/\m x=some u)\/((env.kindOf x=some .cell\/env.kindOf x=some .free)/\∃c,env.cells.lookup x=some c/\h.IsCell c (some u))
structure Cx.Ok(X:Cx):Prop where
 mod:Mod X.K X.mg X.base
 kind:X.env.scope.kind = .function
 glob:X.env.globals=mainGlobals
 blt:X.env.builtins=builtinsNs
 above:X.s₀.heap.objs.size<=X.env.locals
 inj:∀x y c,X.env.cells.lookup x=some c->X.env.cells.lookup y=some c->x=y
 has:∀x,(X.env.kindOf x=some .cell\/X.env.kindOf x=some .free)->∃c,X.env.cells.lookup x=some c
 Nm:∀x c,X.fn x=true->X.env.cells.lookup x=some c->X.s₀.heap.objs.size<=c
 hd:X.calm=true->X.A.handled=none
 frames:X.A.frames=some X.stack
 stk:X.stack=X.outer\/(X.stack=X.env::X.outer/\X.env.frame=some X.env.locals)
 NZ:∀b∈X.ex,b≠X.env.locals/\∀x c,X.env.cells.lookup x=some c->c≠b
 bs:∀b o,X.base.get? b=some o->X.s₀.heap.get? b=some o/\X.H₀ b=none
 MH:X.base.objs.size<=X.s₀.heap.objs.size
 LF:∀b o,X.base.get? b=some o->b ∉ X.ex
 LL:∀b∈X.ex,b ∉ X.fs
 KB:X.s₀.heap.FunFrames X.base X.outer
 M6:∀b∈X.fs,X.H₀ b=none
structure Inv(X:Cx)(pins:Va)(σ:List (Option V))(H:Hp)(s:Shared):Prop where
 ok:X.Ok
 os:s.os=X.s₀.os
 bare:AllBare s.gens
 base:Un X.fs X.ex X.H₀ H X.s₀.heap s.heap
 loc:∃m,s.heap.Ns X.env.locals m/\∀(i:Nat)(x:Str)(v:V),X.N[i]?=some x->σ[i]?=some (some v)->Fk X.env.scope x->∃u,RelV v u/\Hl X.env s.heap m x u
 cell:∀x c,X.env.cells.lookup x=some c->∃v,s.heap.IsCell c v
 free:H X.env.locals=none
 J6:∀x c,X.env.cells.lookup x=some c->H c=none
 pin:∀p∈X.pn++pins,s.heap.get? p.1=some p.2/\H p.1=none/\p.1≠X.env.locals/\p.1 ∉ X.fs/\∀v,p.2.data ≠ .cell v
 hok:K9 X.prog X.w H s.heap
 len:σ.length=X.N.length
 tk:1<=s.toks
end L2
local macro_rules | `(tactic| walk_at "t")=>`(tactic| first | omega | assumption | exact L2.Inv.tk ‹L2.Inv _ _ _ _ _› | (have:=L2.Inv.tk ‹L2.Inv _ _ _ _ _›; omega))
namespace L2
open PySem PySem.Spec PyProof.Rows
section
variable {X:Cx}{pins:Va}{σ:List (Option V)}{H H':Hp}{s:Shared}{h':Heap}
def Cx.Ok.Q4(ok:X.Ok){b:Addr}{o:Obj}(e:X.base.get? b=some o):b ∉ X.fs:=λhb=>by
 have:=(ok.KB.mem hb).1
 rw[e]at this;cases this
theorem Inv.bs(I:Inv X pins σ H s):∀b o,X.base.get? b=some o->s.heap.get? b=some o/\H b=none:=λb o e=>
 ⟨I.base.keep b o (I.ok.bs b o e).1 (I.ok.bs b o e).2 (I.ok.Q4 e) (I.ok.LF b o e),I.base.free b o (I.ok.bs b o e).1 (I.ok.bs b o e).2 (I.ok.LF b o e)⟩
def Inv.bk(I:Inv X pins σ H s):∀b o,X.base.get? b=some o->s.heap.get? b=some o:=λb o e=>(I.bs b o e).1
theorem Inv.mod(I:Inv X pins σ H s):Mod X.K X.mg X.base:=I.ok.mod
def Inv.L_(I:Inv X pins σ H s):X.K.In s.heap:=I.ok.mod.PU.keeps I.bk
theorem Inv.lt(I:Inv X pins σ H s):X.env.locals < s.heap.objs.size:=let ⟨_,hn,_⟩:=I.loc;hn.lt
def Inv.sz(I:Inv X pins σ H s):X.s₀.heap.objs.size<=s.heap.objs.size:=UN I.ok.above (Xi I.lt)
def Inv.PX(I:Inv X pins σ H s){a:Addr}(h:s.heap.objs.size<=a):a ∉ X.fs:=λhb=>by
 obtain⟨_,o,ho,_⟩:=I.ok.KB.mem hb
 exact absurd (UU (US ho) (UN I.sz h)) (Wc _)
def Inv.N0(I:Inv X pins σ H s):∀x c,X.env.cells.lookup x=some c->c≠X.env.locals:=λx c e z=>by
 obtain⟨v,o,ho,hd⟩:=I.cell x c e
 obtain⟨m,⟨o',es,ep,ho',hd',_⟩,_⟩:=I.loc
 rw[z,ho']at ho;cases ho;rw[hd']at hd;cases hd
theorem Inv.KB(I:Inv X pins σ H s):s.heap.FunFrames X.base X.outer:=by
 have all:∀(l:List Env),(∀b∈frs l,b∈X.fs)->X.s₀.heap.FunFrames X.base l->s.heap.FunFrames X.base l:=by
  intro l
  induction l with
  |nil=>intro _ _;trivial
  |cons env r ih=>
   intro hs hl
   obtain⟨hk,⟨L,o,hf,hn,ho,hd⟩,hr⟩:=hl
   have hL:L∈X.fs:=hs L (by unfold frs;rw[WV,hf];exact Vj)
   obtain⟨sl,e⟩:=I.base.slot L o ho (I.ok.M6 L hL) hL λz=>I.ok.LL L z hL
   exact⟨hk,⟨L,_,hf,hn,e,hd⟩,ih (λb hb=>hs b (by unfold frs;rw[WV,hf];exact UP _ hb)) hr⟩
 exact all X.outer (λ_ hb=>hb) I.ok.KB
theorem Inv.stack(I:Inv X pins σ H s):s.heap.FunFrames X.base X.stack:=by
 rcases I.ok.stk with e|⟨e,hf⟩
 .rw[e];exact I.KB
 .rw[e]
  obtain⟨m,hn,_⟩:=I.loc
  refine .cons (by rw[I.ok.kind];decide) hf hn ?_ I.KB
  exact Heap.get?_none_of_le (UN I.ok.MH I.ok.above)
def Inv.Lz(I:Inv X pins σ H s):∀b∈frs X.stack,b∈X.env.locals::X.fs:=λb hb=>by
 rcases I.ok.stk with e|⟨e,hf⟩
 .rw[e]at hb;exact UP _ hb
 .rw[e]at hb
  unfold frs at hb
  rw[WV,hf]at hb
  exact hb
def Inv.Mx(I:Inv X pins σ H s):∀b∈frs X.stack,H b=none:=λb hb=>by
 rcases UI.mp (I.Lz b hb)with e|hb
 .rw[e];exact I.free
 .obtain⟨_,o,ho,_⟩:=I.ok.KB.mem hb
  exact I.base.free b o ho (I.ok.M6 b hb) λz=>I.ok.LL b z hb
def Inv.step{g':Array GenState}{t':Nat}{d':Drawn}{ch:List Addr}(I:Inv X pins σ H s)
  (hch:∀b∈ch,(b∈X.ex\/X.s₀.heap.objs.size<=b)/\b≠X.env.locals/\(∀x c,X.env.cells.lookup x=some c->c≠b)/\∀p∈X.pn++pins,p.1≠b)
  (keep:∀b o,b≠X.env.locals->b ∉ X.fs->b ∉ ch->s.heap.get? b=some o->H b=none->h'.get? b=some o)
  (slot:∀b o,b≠X.env.locals->b∈X.fs->b ∉ ch->s.heap.get? b=some o->H b=none->∃sl,h'.get? b=some { o with slots:=sl }) (free:∀b o,b ∉ ch->s.heap.get? b=some o->H b=none->H' b=none)
  (there:∀b o,b ∉ ch->s.heap.get? b=some o->∃o',h'.get? b=some o')
  (tups:∀b xs,H b=some (.tup xs)->H' b=some (.tup xs)) (Mn:∀b o u,H b=some (.frz o u)->H' b=some (.frz o u)) (Mw:∀b ps,H b=some (.OZ ps)->∃more,H' b=some (.OZ (ps++more)))
  (ns:∀m,s.heap.Ns X.env.locals m->h'.Ns X.env.locals m) (hok:K9 X.prog X.w H' h') (hg:AllBare g') (ht:1<=t':=by walk_at "t") :
  Inv X pins σ H' { s with heap:=h',gens:=g',drawn:=d',toks:=t' }:=by
 have Sd:∀b o,X.s₀.heap.get? b=some o->b≠X.env.locals:=λb o e=>Vm (UU (US e) I.ok.above)
 have QG:∀b o,X.s₀.heap.get? b=some o->b ∉ X.ex->b ∉ ch:=λb o e hx hb=>by
  rcases(hch b hb).1 with z|z
  .exact hx z
  .exact absurd (UU (US e) z) (Wc _)
 have cellK:∀x c,X.env.cells.lookup x=some c->∀v,s.heap.IsCell c v->h'.IsCell c v:=λx c e v ⟨o,ho,hd⟩=>by
  have PY:c ∉ ch:=λz=>(hch c z).2.2.1 x c e rfl
  by_cases hc:c∈X.fs
  .obtain⟨sl,q⟩:=slot c o (I.N0 x c e) hc PY ho (I.J6 x c e)
   exact⟨_,q,hd⟩
  .exact⟨o,keep c o (I.N0 x c e) hc PY ho (I.J6 x c e),hd⟩
 refine⟨I.ok,I.os,hg,⟨λb o e n hb hx=>?_,λb o e n hb hx=>?_,λb o e n hx=>?_,λb o e hx=>?_,λb xs e=>tups b xs (I.base.tups b xs e),λb o xs e=>Mn b o xs (I.base.Mn b o xs e),λb ps e=>?_⟩,?_,λx c e=>?_,?_,λx c e=>?_,λp hp=>?_,hok,I.len,ht⟩
 .exact keep b o (Sd b o e) hb (QG b o e hx) (I.base.keep b o e n hb hx) (I.base.free b o e n hx)
 .obtain⟨sl,e1⟩:=I.base.slot b o e n hb hx
  obtain⟨sl',e2⟩:=slot b _ (Sd b o e) hb (QG b o e hx) e1 (I.base.free b o e n hx)
  exact⟨sl',e2⟩
 .obtain⟨o',e1⟩:=I.base.there b o e hx
  exact free b o' (QG b o e hx) e1 (I.base.free b o e n hx)
 .obtain⟨o',e1⟩:=I.base.there b o e hx
  exact there b o' (QG b o e hx) e1
 .obtain⟨m1,e1⟩:=I.base.Mw b ps e
  obtain⟨m2,e2⟩:=Mw b _ e1
  exact⟨m1++m2,by rw[e2,Array.append_assoc]⟩
 .obtain⟨m,hn,hl⟩:=I.loc
  refine⟨m,ns m hn,λi x v e1 e2 e3=>?_⟩
  obtain⟨u,r,l⟩:=hl i x v e1 e2 e3
  refine⟨u,r,?_⟩
  rcases l with l|⟨k,c,e,z⟩
  .exact .inl l
  .exact .inr ⟨k,c,e,cellK x c e _ z⟩
 .obtain⟨v,z⟩:=I.cell x c e
  exact⟨v,cellK x c e v z⟩
 .obtain⟨m,⟨o,_,_,ho,_⟩,_⟩:=I.loc
  exact free _ o (λz=>(hch _ z).2.1 rfl) ho I.free
 .obtain⟨v,o,ho,hd⟩:=I.cell x c e
  exact free c o (λz=>(hch c z).2.2.1 x c e rfl) ho (I.J6 x c e)
 .obtain⟨e,n,ne,nf,d⟩:=I.pin p hp
  have PY:p.1 ∉ ch:=λz=>(hch p.1 z).2.2.2 p hp rfl
  exact⟨keep p.1 p.2 ne nf PY e n,free p.1 p.2 PY e n,ne,nf,d⟩
def Inv.un{t':Nat}(I:Inv X pins σ H s)(u:Un X.fs [] H H' s.heap h')(hok:K9 X.prog X.w H' h')(ht:1<=t':=by walk_at "t"):Inv X pins σ H' { s with heap:=h',toks:=t' }:=by
 obtain⟨m,⟨o,es,ep,ho,r⟩,_⟩:=id I.loc
 obtain⟨sl,hL⟩:=u.any ho I.free (by simp)
 exact I.step (g':=s.gens) (d':=s.drawn) (ch:=[]) (λ_ z=>nomatch z) (λb o _ hb _ e n=>u.keep b o e n hb (by simp)) (λb o _ hb _ e n=>u.slot b o e n hb (by simp)) (λb o _ e n=>u.free b o e n (by simp)) (λb o _ e=>u.there b o e (by simp)) u.tups u.Mn u.Mw (λm' hm=>by
  obtain⟨o',es',Q5,ho',r'⟩:=hm
  rw[ho]at ho';cases ho'
  exact⟨_,es',Q5,hL,r'⟩) hok I.bare
def Inv.call{g':Array GenState}{t':Nat}{d':Drawn}{ch:List Addr}(I:Inv X pins σ H s)(u:Un (frs X.stack) ch H H' s.heap h')(hok:K9 X.prog X.w H' h')(hg:AllBare g')
  (hch:∀b∈ch,(b∈X.ex\/X.s₀.heap.objs.size<=b)/\b≠X.env.locals/\(∀x c,X.env.cells.lookup x=some c->c≠b)/\∀p∈X.pn++pins,p.1≠b) (ht:1<=t':=by walk_at "t") :
  Inv X pins σ H' { s with heap:=h',gens:=g',drawn:=d',toks:=t' }:=by
 obtain⟨m,⟨o,es,ep,ho,r⟩,_⟩:=id I.loc
 obtain⟨sl,hL⟩:=u.any ho I.free λz=>(hch _ z).2.1 rfl
 exact I.step (ch:=ch) hch (λb o hL hb hc e n=>u.keep b o e n (λz=>(UI.mp (I.Lz b z)).elim hL hb) hc) (λb o _ _ hc e n=>u.any e n hc) (λb o hc e n=>u.free b o e n hc) (λb o hc e=>u.there b o e hc) u.tups u.Mn u.Mw (λm' hm=>by
  obtain⟨o',es',Q5,ho',r'⟩:=hm
  rw[ho]at ho';cases ho'
  exact⟨_,es',Q5,hL,r'⟩) hok hg
def Inv.turned{t':Nat}{it:Addr}(I:Inv X pins σ H s)(k:∀b o,b≠it->s.heap.get? b=some o->h'.get? b=some o)(hn:H it=none)(hL:it≠X.env.locals)
  (h1:it∈X.ex\/X.s₀.heap.objs.size<=it) (h2:∀x c,X.env.cells.lookup x=some c->c≠it) (h3:∀p∈X.pn++pins,p.1≠it) (ht:1<=t':=by walk_at "t"):Inv X pins σ H { s with heap:=h',toks:=t' }:=by
 have PZ:∀b u,H b=some u->b≠it:=λb u e z=>by rw[z,hn]at e;cases e
 refine I.step (g':=s.gens) (d':=s.drawn) (ch:=[it]) (λb hb=>?_) (λb o _ _ hc e _=>k b o (λz=>hc (by simp[z])) e) (λb o _ _ hc e _=>⟨o.slots,k b o (λz=>hc (by simp[z])) e⟩) (λ_ _ _ _ n=>n)
  (λb o hc e=>⟨o,k b o (λz=>hc (by simp[z])) e⟩) (λ_ _ e=>e) (λ_ _ _ e=>e) (λb ps e=>⟨#[],by rw[e];simp⟩) (λm hm=>?_) (λb u e=>?_) I.bare
 .have e:b=it:=by simpa using hb
  subst e
  exact⟨h1,hL,h2,h3⟩
 .obtain⟨o,es,ep,ho,r⟩:=hm
  exact⟨o,es,ep,k _ o (VI hL) ho,r⟩
 .refine(I.hok b u e).stay (λc v hc q=>k c v ?_ q) (λ_ q=>q) λ_ _ q=>q
  rcases hc with z|z
  .rw[z];exact PZ b u e
  .exact PZ c _ z
def Inv.tok(I:Inv X pins σ H s)(t:Nat)(ht:1<=t:=by walk_at "t"):Inv X pins σ H { s with toks:=t }:=I.un (h':=s.heap) (t':=t) Un.refl I.hok
theorem Inv.kept{t':Nat}(I:Inv X pins σ H s)(k:∀b u,s.heap.get? b=some u->h'.get? b=some u)(ht:1<=t':=by walk_at "t"):Inv X pins σ H { s with heap:=h',toks:=t' }:=I.un (Un.kept k) (I.hok.kept k)
theorem Inv.laid{a:Addr}{o:HO}{t':Nat}(I:Inv X pins σ H s)(k:∀b u,s.heap.get? b=some u->h'.get? b=some u)(hp:s.heap.objs.size<=a)(new:JS X.prog X.w (upd H a o) h' a o)(ht:1<=t':=by walk_at "t") :
  Inv X pins σ (upd H a o) { s with heap:=h',toks:=t' }:=I.un (Un.laid k hp (I.hok.fresh hp)) (I.hok.laid k hp new)
theorem Inv.write{x e:Addr}{o:HO}{t':Nat}(I:Inv X pins σ H s)(mu:Fj (H x))(he:e=x\/H e=some (.own x))(k:∀b u,b≠e->s.heap.get? b=some u->h'.get? b=some u)(PB:∃u,h'.get? e=some u)
  (new:JS X.prog X.w (upd H x o) h' x o) (ht:1<=t':=by walk_at "t"):Inv X pins σ (upd H x o) { s with heap:=h',toks:=t' }:=I.un (Un.write mu he k PB) (I.hok.write mu he k PB new)
def Inv.weak{σ':List (Option V)}(I:Inv X pins σ H s)(hl:σ'.length=σ.length)(w:∀(i:Nat) v,σ'[i]?=some (some v)->σ[i]?=some (some v)):Inv X pins σ' H s:=
 ⟨I.ok,I.os,I.bare,I.base,let ⟨m,hn,hl'⟩:=I.loc;⟨m,hn,λi x v e1 e2 e3=>hl' i x v e1 (w i v e2) e3⟩,I.cell,I.free,I.J6,I.pin,I.hok,hl.trans I.len,I.tk⟩
def Inv.Ma{pins':Va}(I:Inv X pins σ H s)(h:∀p∈pins',s.heap.get? p.1=some p.2/\H p.1=none/\p.1≠X.env.locals/\p.1 ∉ X.fs/\∀v,p.2.data ≠ .cell v):Inv X pins' σ H s:=
 ⟨I.ok,I.os,I.bare,I.base,I.loc,I.cell,I.free,I.J6,λp hp=>(UT.mp hp).elim (λz=>I.pin p (VA _ z)) (h p),I.hok,I.len,I.tk⟩
def ko{N:Vs}(hN:N.Nodup){i j:Nat}{x:Str}(a:N[i]?=some x)(b:N[j]?=some x):i=j:=by
 obtain⟨h1,e1⟩:=U3.mp a
 obtain⟨h2,e2⟩:=U3.mp b
 exact(List.getElem_inj hN).mp (e1.trans e2.symm)
def iZ{M : Model}{A : Around}{E : Value -> Shared -> Prop}{i : Nat}{x : Str}{v : V}{u : Value}{Q : Unit -> Shared -> Prop}(I : Inv X pins σ H s)(hN : X.N.Nodup)(hi : X.N[i]? = some x)(hx : Bz X.env.scope x)(r : RelV v u)
  (h : ∀ s', Inv X pins (σ.set i (some v)) H s' -> (∃ a, Heap.SameBut a s.heap s'.heap /\ (a = X.env.locals \/ X.env.cells.lookup x = some a)) -> Q () s') (hf : X.fn x = true \/ X.env.scope.names.lookup x = some .local := by first | exact .inl rfl | exact .inr rfl | assumption) : wpAny M A (storeName X.env x u) Q E s := by
 obtain ⟨m, hn, hl⟩ := id I.loc
 have hcls : (X.env.scope.kind == .class || (X.env.scope.kind == .module && X.env.locals != X.env.globals)) = false := by rw [I.ok.kind]; rfl
 have Se : i < σ.length := by rw [I.len]; exact (U3.mp hi).1
 have N0 := I.N0
 have tracked : ∀ {a : Addr} {h' : Heap}, (∃ o, s.heap.get? a = some o /\ H a = none) -> Heap.SameBut a s.heap h' -> K9 X.prog X.w H h' := λ{a h'} ha hs b ob e => by
  obtain ⟨_, _, hfree⟩ := ha
  refine (I.hok b ob e).stay (λc w' hc q => (hs.2 c ?_).trans q) (λ_ q => q) λ_ _ q => q
  rintro rfl
  rcases hc with rfl | hc
  .rw [hfree] at e; cases e
  .rw [hfree] at hc; cases hc
 rcases hx with hk | hk
 .refine wpAny_storeName_local hk hn (λh' hn' hs => ?_) hcls
  obtain ⟨oL, _, _, SZ, _⟩ := id hn
  refine h _ ⟨I.ok, I.os, I.bare, ⟨λb o e n hb hx => ?_, λb o e n hb hx => ?_, I.base.free, λb o e hx => ?_, I.base.tups, I.base.Mn, I.base.Mw⟩, ⟨_, hn', λj y v' e1 e2 e3 => ?_⟩, λy c e => ?_, I.free, I.J6, λp hp => ?_, tracked ⟨oL, SZ, I.free⟩ hs, by simpa using I.len, V0 (UZ _)⟩ ⟨_, hs, .inl rfl⟩
  .exact (hs.2 b (Vm (UU (US e) I.ok.above))).trans (I.base.keep b o e n hb hx)
  .obtain ⟨sl, e1⟩ := I.base.slot b o e n hb hx
   exact ⟨sl, (hs.2 b (Vm (UU (US e) I.ok.above))).trans e1⟩
  .obtain ⟨o', e1⟩ := I.base.there b o e hx
   exact ⟨o', (hs.2 b (Vm (UU (US e) I.ok.above))).trans e1⟩
  .by_cases hj : j = i
   .subst hj
    rw [hi] at e1; cases e1
    rw [List.getElem?_set_self Se] at e2
    cases e2
    exact ⟨u, r, .inl ⟨hk, by simp⟩⟩
   .rw [Yj (VI hj)] at e2
    obtain ⟨u', r', q⟩ := hl j y v' e1 e2 e3
    refine ⟨u', r', ?_⟩
    rcases q with ⟨k, e⟩ | ⟨k, c, e, z⟩
    .refine .inl ⟨k, ?_⟩
     have : y ≠ x := λe => hj (ko hN e1 (e ▸ hi))
     simp [this, e]
    .exact .inr ⟨k, c, e, z.sameBut hs (N0 y c e)⟩
  .obtain ⟨w', z⟩ := I.cell y c e
   exact ⟨w', z.sameBut hs (N0 y c e)⟩
  .obtain ⟨e, n, ne, nf, d⟩ := I.pin p hp
   exact ⟨(hs.2 p.1 ne).trans e, n, ne, nf, d⟩
 .have hfn : X.fn x = true := by
   rcases hf with z | z
   .exact z
   .rw [z] at hk; cases hk
  obtain ⟨c, hc⟩ := I.ok.has x (.inl hk)
  obtain ⟨w', z⟩ := I.cell x c hc
  refine wpAny_storeName_cell I.ok.kind hk hc z (λh' hc' hs => ?_)
  obtain ⟨oc, hoc, Q6⟩ := id z
  refine h { s with heap := h' } ⟨I.ok, I.os, I.bare, ⟨λb o e n hb hx => ?_, λb o e n hb hx => ?_, I.base.free, λb o e hx => ?_, I.base.tups, I.base.Mn, I.base.Mw⟩, ⟨m, hn.sameBut hs (VI (N0 x c hc)), λj y v' e1 e2 e3 => ?_⟩, λy c' e => ?_, I.free, I.J6, λp hp => ?_, tracked ⟨oc, hoc, I.J6 x c hc⟩ hs, by simpa using I.len, I.tk⟩ ⟨c, hs, .inr hc⟩
  .exact (hs.2 b (Vm (UU (US e) (I.ok.Nm x c hfn hc)))).trans (I.base.keep b o e n hb hx)
  .obtain ⟨sl, e1⟩ := I.base.slot b o e n hb hx
   exact ⟨sl, (hs.2 b (Vm (UU (US e) (I.ok.Nm x c hfn hc)))).trans e1⟩
  .obtain ⟨o', e1⟩ := I.base.there b o e hx
   exact ⟨o', (hs.2 b (Vm (UU (US e) (I.ok.Nm x c hfn hc)))).trans e1⟩
  .by_cases hj : j = i
   .subst hj
    rw [hi] at e1; cases e1
    rw [List.getElem?_set_self Se] at e2
    cases e2
    exact ⟨u, r, .inr ⟨.inl hk, c, hc, hc'⟩⟩
   .rw [Yj (VI hj)] at e2
    obtain ⟨u', r', q⟩ := hl j y v' e1 e2 e3
    refine ⟨u', r', ?_⟩
    rcases q with q | ⟨k, c', e, z'⟩
    .exact .inl q
    .refine .inr ⟨k, c', e, z'.sameBut hs ?_⟩
     rintro rfl
     exact hj (ko hN e1 (I.ok.inj _ _ _ e hc ▸ hi))
  .by_cases hcc : c' = c
   .subst hcc; exact ⟨_, hc'⟩
   .obtain ⟨w2, z2⟩ := I.cell y c' e
    exact ⟨w2, z2.sameBut hs hcc⟩
  .obtain ⟨e, n, ne, nf, d⟩ := I.pin p hp
   refine ⟨(hs.2 p.1 ?_).trans e, n, ne, nf, d⟩
   intro q
   rw [q, hoc] at e
   have q' : oc = p.2 := VY e
   exact d w' (by rw [<- q']; exact Q6)
def ij{M:Model}{A:Around}{E:Vq}{i:Nat}{x:Str}{v:V}{u:Value}{Q:Unit->Shared->Prop}(I:Inv X pins σ H s)(hN:X.N.Nodup)(hi:X.N[i]?=some x)(hx:Bz X.env.scope x)(r:RelV v u)
  (h:∀s',Inv X pins (σ.set i (some v)) H s'->Q () s') (hf:X.fn x=true\/X.env.scope.names.lookup x=some .local:=by walk_at "9"):wpAny M A (storeName X.env x u) Q E s:=
 iZ I hN hi hx r (λs' I' _=>h s' I') hf
def Inv.N1{s':Shared}{ch:List Addr}(I:Inv X pins σ H s)(ho:s'.os=s.os)(u:Un (frs X.stack) ch H H' s.heap s'.heap)(hok:K9 X.prog X.w H' s'.heap)(hg:AllBare s'.gens)(ht:1<=s'.toks)
  (hch:∀b∈ch,(b∈X.ex\/X.s₀.heap.objs.size<=b)/\b≠X.env.locals/\(∀x c,X.env.cells.lookup x=some c->c≠b)/\∀p∈X.pn++pins,p.1≠b):Inv X pins σ H' s':=by
 obtain⟨h',g',d',t',o'⟩:=s'
 have e:o'=s.os:=ho
 subst e
 exact I.call (g':=g') (t':=t') (d':=d') u hok hg hch
end
abbrev XK:=Value->Option Addr->Hp->Prop
abbrev St:=List (Option V)
abbrev VK:=V->Hp->Prop
abbrev TE:=St->Hp->VK->Prop
abbrev TT:=St->Hp->(Bool->Hp->Prop)->Prop
abbrev TA:=St->Hp->(List V->Hp->Prop)->Prop
structure ik where
 nx:St->Hp->Prop
 rt:VK
 bk:St->Hp->Prop:=λ_ _=>False
 ct:St->Hp->Prop:=λ_ _=>False
abbrev TS:=ik->St->Hp->Prop
def EP(X:Cx)(pins:Va)(σ:St)(Q:VK)(u:Value)(s':Shared):Prop:=∃v H',Inv X pins σ H' s'/\RelV v u/\Q v H'
def TP(X:Cx)(pins:Va)(σ:St)(Q:Bool->Hp->Prop)(b:Bool)(s':Shared):Prop:=∃H',Inv X pins σ H' s'/\Q b H'
def AP(X:Cx)(pins:Va)(σ:St)(Q:List V->Hp->Prop)(us:Vv)(s':Shared):Prop:=∃vs H',Inv X pins σ H' s'/\Vals vs us/\Q vs H'
def SP(X:Cx)(pins:Va)(D:ik)(f:Flow)(s':Shared):Prop:=
 match f with
 | .next=>∃σ' H',Inv X pins σ' H' s'/\D.nx σ' H'
 | .brk=>∃σ' H',Inv X pins σ' H' s'/\D.bk σ' H'
 | .cont=>∃σ' H',Inv X pins σ' H' s'/\D.ct σ' H'
 | .ret u=>∃v σ' H',Inv X pins σ' H' s'/\RelV v u/\D.rt v H'
def PE(X:Cx)(e:Expr)(t:TE):Prop:=
 ∀(pins:Va)(s:Shared)(σ:St)(H:Hp)(Q:VK),Inv X pins σ H s->t σ H Q->wpAny (model X.prog X.w) X.A (eval e X.env) (EP X pins σ Q) X.xe s
def PT(X:Cx)(e:Expr)(t:TT):Prop:=
 ∀(pins:Va)(s:Shared)(σ:St)(H:Hp)(Q:Bool->Hp->Prop),Inv X pins σ H s->t σ H Q->wpAny (model X.prog X.w) X.A (isTrue e X.env (eval e X.env)) (TP X pins σ Q) X.xe s
def PW(X:Cx)(e:Expr)(t:TT):Prop:=
 ∀(whole:Sem Value)(pins:Va)(s:Shared)(σ:St)(H:Hp)(Q:Bool->Hp->Prop),Inv X pins σ H s->t σ H Q->wpAny (model X.prog X.w) X.A (isTrue e X.env whole) (TP X pins σ Q) X.xe s
def PW.pt{X:Cx}{e:Expr}{t:TT}(h:PW X e t):PT X e t:=h _
def PA(X:Cx)(es:List Expr)(t:TA):Prop:=
 ∀(pos:Pos)(pins:Va)(s:Shared)(σ:St)(H:Hp)(Q:List V->Hp->Prop),Inv X pins σ H s->t σ H Q->wpAny (model X.prog X.w) X.A (spliced (backTo pos (starEach es X.env))) (AP X pins σ Q) X.xe s
def PS(X:Cx)(st:Stmt)(t:TS):Prop:=
 ∀(pins:Va)(s:Shared)(σ:St)(H:Hp)(D:ik),Inv X pins σ H s->t D σ H->wpAny (model X.prog X.w) X.A (exec st X.env) (SP X pins D) X.xe s
def Mk(X:Cx)(st:List Stmt)(t:TS):Prop:=
 ∀(pins:Va)(s:Shared)(σ:St)(H:Hp)(D:ik),Inv X pins σ H s->t D σ H->wpAny (model X.prog X.w) X.A (execs st X.env) (SP X pins D) X.xe s
def JN{α:Type}{t:Sem α}{Q Q':α->Shared->Prop}{M:Model}{A:Around}{E:Vq}{s:Shared}(h:wpAny M A t Q E s)(hQ:∀a s,Q a s->Q' a s):wpAny M A t Q' E s:=V8 h hQ λ_ _ x=>x
section
variable {X:Cx}
def oV(i:Nat):TE:=λσ H Q=>∃v,σ[i]?=some (some v)/\Q v H
def tC(v:V):TE:=λ_ H Q=>Q v H
def vg{i:Nat}{x:Str}{pos:Pos}(hN:X.N[i]?=some x)(hv:Fk X.env.scope x)(hd:(x == ("__debug__":Str))=false:=by decide)(hcd:(x == ("__classdict__":Str))=false:=by decide):PE X (.Name x pos) (oV i):=by
 walk_at "7"
 obtain⟨v,e,h⟩:=h
 obtain⟨m,hn,hl⟩:=I.loc
 obtain⟨u,r,l⟩:=hl i x v hN e hv
 have fin:EP X pins σ Q u s:=⟨v,H,I,r,h⟩
 rcases l with⟨hk,hm⟩|⟨hk,c,hc,hcell⟩
 .exact wpAny_Name (wpAny_loadName_local I.ok.kind hk hn hm fin) hd
 .rcases hk with hk|hk
  .exact wpAny_Name (wpAny_loadName_cell I.ok.kind hk hc hcell fin) hd
  .exact wpAny_Name (wpAny_loadName_free I.ok.kind hk hc hcell fin hcd) hd
def Cq{i j pos}:PE X (.Constant (.int i) j pos) (tC (.int i)):=λ_ _ _ H _ I h=>wpAny_Constant_int ⟨.int i,H,I.tok _,⟨_,rfl⟩,h⟩
def Fl{b j pos}:PE X (.Constant (.bool b) j pos) (tC (.bl b)):=λ_ _ _ H _ I h=>Constant_bool ⟨.bl b,H,I,rfl,h⟩
def Cr{j pos}:PE X (.Constant .none j pos) (tC .non):=λ_ _ _ H _ I h=>Constant_none ⟨.non,H,I,rfl,h⟩
def Cs{x j pos}:PE X (.Constant (.str x) j pos) (tC (.str x)):=λ_ _ _ H _ I h=>Calls.Constant_str ⟨.str x,H,I.tok _,⟨_,rfl⟩,h⟩
def Gl(X:Cx)(x:Str):Prop:=X.env.kindOf x=some .globalImplicit
def d_{E:Vq}{pins:Va}{s:Shared}{σ:St}{H:Hp}{x:Str}{u:Value}{pos:Pos}{Q:Vq}(I:Inv X pins σ H s)(hg:Gl X x)(hm:X.mg x=some u)(h:Q u s)
  (hd:(x == ("__debug__":Str))=false:=by decide):wpAny (model X.prog X.w) X.A (eval (.Name x pos) X.env) Q E s:=
 Calls.Name_function_global I.ok.kind hg (Calls.loadGlobal_global (by rw[I.ok.glob];exact I.mod.glob.keeps I.bk) hm h) hd
def ef{E:Vq}{pins:Va}{s:Shared}{σ:St}{H:Hp}{x:Str}{u:Value}{pos:Pos}{Q:Vq}(I:Inv X pins σ H s)(hg:Gl X x)(hm:X.mg x=none)(hv:bootBuiltins x=some u)(h:Q u s)
  (hn:x ≠ "__name__":=by decide) (hd:(x == ("__debug__":Str))=false:=by decide):wpAny (model X.prog X.w) X.A (eval (.Name x pos) X.env) Q E s:=by
 obtain⟨mb,h1,h2⟩:=I.mod.blt
 exact Calls.Name_function_global I.ok.kind hg (Calls.loadGlobal_builtin (by rw[I.ok.glob];exact I.mod.glob.keeps I.bk) hm (by rw[I.ok.blt];exact h1.keeps I.bk) ((h2 x hn).trans hv) h) hd
def il{x:Str}{v:V}{u:Value}{pos:Pos}(hg:Gl X x)(hm:X.mg x=some u)(r:RelV v u)(hd:(x == ("__debug__":Str))=false:=by decide):PE X (.Name x pos) (tC v):=
 λ_ _ _ H _ I h=>d_ I hg hm ⟨v,H,I,r,h⟩ hd
def zq{x:Str}{v:V}{u:Value}{pos:Pos}(hg:Gl X x)(hm:X.mg x=none)(hv:bootBuiltins x=some u)(r:RelV v u)(hn:x ≠ "__name__":=by decide)(hd:(x == ("__debug__":Str))=false:=by decide):PE X (.Name x pos) (tC v):=
 λ_ _ _ H _ I h=>ef I hg hm hv ⟨v,H,I,r,h⟩ hn hd
variable {a b:Expr}{ta tb:TE}{pos:Pos}
def tB(t:TE):TT:=λσ H Q=>t σ H λx H1=>∃c,x = .bl c/\Q c H1
def Ct{e:Expr}{t:TE}(h:PE X e t)(he:∀whole,isTrue e X.env whole=(do let v <-whole;standAt e.pos;holding [v] (truthy v)):=by intro _;rfl):PT X e (tB t):=by
 intro pins s σ H Q I hw
 refine isTrue_plain (JN (h pins s σ H _ I hw) λv s1 ⟨x,H1,I1,r1,q1⟩=>?_) (he _)
 obtain⟨d,rfl,q⟩:=q1
 cases r1
 exact WM ⟨H1,I1,q⟩
variable {tA QH:TT}{rest:List Expr}
def Hm(t u:TT):TT:=λσ H Q=>t σ H λc H1=>if c=true then u σ H1 Q else Q false H1
def Jc(t u:TT):TT:=λσ H Q=>t σ H λc H1=>if c=true then Q true H1 else u σ H1 Q
def Hn(t:TT):TT:=λσ H Q=>t σ H λc H1=>Q (!c) H1
def zr(ha:PT X a tA):PW X (.BoolOp .And [a] pos) tA:=by
 intro wh pins s σ H Q I h
 refine isTrue_and (JN (ha pins s σ H Q I h) λc s1 e=>?_)
 cases c with
 |true=>exact isTrue_and_nil e
 |false=>exact e
def Cu(ha:PT X a tA):PW X (.BoolOp .Or [a] pos) tA:=by
 intro wh pins s σ H Q I h
 refine isTrue_or (JN (ha pins s σ H Q I h) λc s1 e=>?_)
 cases c with
 |false=>exact isTrue_or_nil e
 |true=>exact e
def Cv(ha:PT X a tA)(hb:PW X (.BoolOp .And (b::rest) pos) QH):PW X (.BoolOp .And (a::b::rest) pos) (Hm tA QH):=by
 intro wh pins s σ H Q I h
 refine isTrue_and (JN (ha pins s σ H _ I h) λc s1 ⟨H1,I1,q1⟩=>?_)
 cases c with
 |true=>exact hb wh pins s1 σ H1 Q I1 q1
 |false=>exact⟨H1,I1,q1⟩
def Fm(ha:PT X a tA)(hb:PW X (.BoolOp .Or (b::rest) pos) QH):PW X (.BoolOp .Or (a::b::rest) pos) (Jc tA QH):=by
 intro wh pins s σ H Q I h
 refine isTrue_or (JN (ha pins s σ H _ I h) λc s1 ⟨H1,I1,q1⟩=>?_)
 cases c with
 |true=>exact⟨H1,I1,q1⟩
 |false=>exact hb wh pins s1 σ H1 Q I1 q1
def Cw(ha:PT X a tA):PT X (.UnaryOp .Not a pos) (Hn tA):=by
 walk_at "7"
 exact isTrue_not (ha pins s σ H (λc H1=>Q (!c) H1) I h)
def Fn(ta tb:TE):TE:=λσ H Q=>ta σ H λx H1=>∃c,x = .bl c/\if c=true then tb σ H1 Q else Q (.bl false) H1
def Cy{op}{t:TE}(h:PE X a t):PE X (.BoolOp op [a] pos) t:=λpins s σ H Q I hw=>BoolOp_one (h pins s σ H Q I hw)
def Cz(ha:PE X a ta)(hb:PE X (.BoolOp .And (b::rest) pos) tb):PE X (.BoolOp .And (a::b::rest) pos) (Fn ta tb):=by
 walk_at "7"
 refine BoolOp_and (JN (ha pins s σ H _ I h) λv s1 ⟨x,H1,I1,r1,q1⟩=>?_)
 obtain⟨c,rfl,q1⟩:=q1
 cases r1
 refine WM ?_
 cases c with
 |true=>exact hb pins s1 σ H1 Q I1 q1
 |false=>exact⟨.bl false,H1,I1,rfl,q1⟩
def Jd(t:TT)(ta tb:TE):TE:=λσ H Q=>t σ H λc H1=>if c=true then ta σ H1 Q else tb σ H1 Q
def vh{c:Expr}(hc:PT X c tA)(ha:PE X a ta)(hb:PE X b tb):PE X (.IfExp c a b pos) (Jd tA ta tb):=by
 walk_at "7"
 refine wpAny_IfExp (JN (hc pins s σ H _ I h) λd s1 ⟨H1,I1,q1⟩=>?_)
 cases d with
 |true=>exact ha pins s1 σ H1 Q I1 q1
 |false=>exact hb pins s1 σ H1 Q I1 q1
end
def SqL(K:Vo)(H:Hp)(a:Addr)(xs:List V):Prop:=
 Rd H a (.lst xs) \/
  ∃(o:Obj) (its:Vw) (n:Nat),K.lookup a=some o/\o.cls = .type "list"/\o.dict=none/\o.data = .seq its n/\its.size<=sizeLine/\Vals xs its.toList
def SqT(K:Vo)(H:Hp)(a:Addr)(xs:List V):Prop:=
 Rd H a (.tup xs) \/
  ∃(o:Obj) (its:Vw) (n:Nat),K.lookup a=some o/\o.cls = .type "tuple"/\o.dict=none/\o.data = .seq its n/\its.size<=sizeLine/\Vals xs its.toList
noncomputable def Ho:Value->Option V
 | .none=>some .non
 | .bool b=>some (.bl b)
 | .int i _=>some (.int i)
 | .str x _=>some (.str x)
 | .bytes b _=>some (.NV b)
 | .float b _=>some (.QF b)
 | .ref a=>some (.ref a)
 | .type n=>some (.ty n)
 |_=>none
def RelV.abs{x:V}{u:Value}(r:RelV x u):Ho u=some x:=by
 cases x with
 |non=>cases r;rfl
 |bl _=>cases r;rfl
 |int _=>obtain⟨t,rfl⟩:=r;rfl
 |str _=>obtain⟨t,rfl⟩:=r;rfl
 |NV _=>obtain⟨t,rfl⟩:=r;rfl
 |QF _=>obtain⟨t,rfl⟩:=r;rfl
 |ref _=>cases r;rfl
 |ty _=>cases r;rfl
theorem RelV.inj{x y:V}{u:Value}(r:RelV x u)(q:RelV y u):x=y:=VY (r.abs.symm.trans q.abs)
theorem Vals.inj:∀{xs ys:List V}{us:Vv},Vals xs us->Vals ys us->xs=ys
 |_,_,_,.nil,.nil=>rfl
 |_,_,_,.cons r t,.cons r' t'=>by rw[r.inj r',Vals.inj t t']
section
variable {X:Cx}{pins:Va}{σ:St}{H:Hp}{s:Shared}{a:Addr}{xs ys:List V}
def SqL.of{K:Vo}(h:H a=some (.lst xs)):SqL K H a xs:=.inl (.inl h)
def SqT.of{K:Vo}(h:H a=some (.tup xs)):SqT K H a xs:=.inl (.inl h)
def Inv.list(I:Inv X pins σ H s)(h:SqL X.K H a xs):∃its:List Value,Vals xs its/\PlainL s.heap a its.toArray/\xs.length<=sizeLine:=by
 rcases h with h|⟨o,its,n,hk,hc,hd,hs,hz,r⟩
 .obtain⟨z,its,n,r,e⟩:=h.ok I.hok
  exact⟨its,r,⟨_,n,e,rfl,rfl,rfl⟩,z⟩
 .refine⟨its.toList,r,⟨o,n,I.L_ a o hk,hc,hd,by simpa using hs⟩,?_⟩
  have e:=r.length
  simp only[Array.length_toList]at e
  omega
def Inv.tuple(I:Inv X pins σ H s)(h:SqT X.K H a xs):∃its:List Value,Vals xs its/\IsTup s.heap a its.toArray/\xs.length<=sizeLine:=by
 rcases h with h|⟨o,its,n,hk,hc,_,hs,hz,r⟩
 .obtain⟨z,its,r,p⟩:=h.ok I.hok
  exact⟨its,r,p.tup,z⟩
 .refine⟨its.toList,r,⟨o,I.L_ a o hk,hc,n,by simpa using hs⟩,?_⟩
  have e:=r.length
  simp only[Array.length_toList]at e
  omega
def Inv.MI(I:Inv X pins σ H s)(h:SqL X.K H a xs)(h':SqL X.K H a ys):xs=ys:=by
 obtain⟨its,r,⟨o,n,e,_,_,d⟩,_⟩:=I.list h
 obtain⟨its',r',⟨o',n',e',_,_,d'⟩,_⟩:=I.list h'
 rw[e]at e';cases e'
 rw[d]at d'
 injection d' with d1 _
 have:its=its':=by simpa using U4 Array.toList d1
 subst this
 exact r.inj r'
def Inv.Mr(I:Inv X pins σ H s)(h:SqT X.K H a xs)(h':SqT X.K H a ys):xs=ys:=by
 obtain⟨its,r,⟨o,e,_,n,d⟩,_⟩:=I.tuple h
 obtain⟨its',r',⟨o',e',_,n',d'⟩,_⟩:=I.tuple h'
 rw[e]at e';cases e'
 rw[d]at d'
 injection d' with d1 _
 have:its=its':=by simpa using U4 Array.toList d1
 subst this
 exact r.inj r'
end
noncomputable abbrev Cx.wish(X:Cx)(E:Vq):Cx:={ X with xe:=E }
noncomputable abbrev Cx.OR(X:Cx):Cx:=X.wish λ_ _=>False
theorem Cx.Ok.wish{X:Cx}(ok:X.Ok)(E:Vq):(X.wish E).Ok:=
 ⟨ok.mod,ok.kind,ok.glob,ok.blt,ok.above,ok.inj,ok.has,ok.Nm,ok.hd,ok.frames,ok.stk,ok.NZ,ok.bs,ok.MH,ok.LF,ok.LL,ok.KB,ok.M6⟩
def Cx.Ok.KC{X:Cx}{E:Vq}(ok:(X.wish E).Ok):X.Ok:=
 ⟨ok.mod,ok.kind,ok.glob,ok.blt,ok.above,ok.inj,ok.has,ok.Nm,ok.hd,ok.frames,ok.stk,ok.NZ,ok.bs,ok.MH,ok.LF,ok.LL,ok.KB,ok.M6⟩
section
variable {X:Cx}{pins:Va}{σ:St}{H:Hp}{s:Shared}{E:Vq}
theorem Inv.wish(I:Inv X pins σ H s)(E:Vq):Inv (X.wish E) pins σ H s:=⟨I.ok.wish E,I.os,I.bare,I.base,I.loc,I.cell,I.free,I.J6,I.pin,I.hok,I.len,I.tk⟩
theorem Inv.KC(I:Inv (X.wish E) pins σ H s):Inv X pins σ H s:=⟨I.ok.KC,I.os,I.bare,I.base,I.loc,I.cell,I.free,I.J6,I.pin,I.hok,I.len,I.tk⟩
theorem SP.KC{D:ik}{f:Flow}{s':Shared}(h:SP (X.wish E) pins D f s'):SP X pins D f s':=by
 cases f with
 |next=>obtain⟨σ',H',I,q⟩:=h;exact⟨σ',H',I.KC,q⟩
 |brk=>obtain⟨σ',H',I,q⟩:=h;exact⟨σ',H',I.KC,q⟩
 |cont=>obtain⟨σ',H',I,q⟩:=h;exact⟨σ',H',I.KC,q⟩
 |ret u=>obtain⟨v,σ',H',I,r,q⟩:=h;exact⟨v,σ',H',I.KC,r,q⟩
theorem Mk.OR{st:List Stmt}{t:TS}(h:Mk X.OR st t):Mk X st t:=λpins s σ H D I hw=>
 V8 (h pins s σ H D (I.wish _) hw) (λ_ _ q=>q.KC) λ_ _ z=>False.elim z
end
section
variable {X:Cx}{st:Stmt}{rest:List Stmt}{t u:TS}{e:Expr}{te:TE}{pos:Pos}
def Fo:TS:=λD σ H=>D.nx σ H
def Hq(t u:TS):TS:=λD σ H=>t { D with nx:=u D } σ H
def zt:Mk X [] Fo:=λ_ _ σ H _ I h=>Xy ⟨σ,H,I,h⟩
def vi(h1:PS X st t)(h2:Mk X rest u):Mk X (st::rest) (Hq t u):=by
 intro pins s σ H D I h
 refine wpAny_execs_cons (JN (h1 pins s σ H { D with nx:=u D } I h) λf s1 q=>?_)
 cases f with
 |next=>
  obtain⟨σ',H',I',q⟩:=q
  exact h2 pins s1 σ' H' D I' q
 |ret v=>exact q
 |brk=>exact q
 |cont=>exact q
def mR(h1:PS X st t):Mk X [st] t:=by
 intro pins s σ H D I h
 refine wpAny_execs_cons (JN (h1 pins s σ H D I h) λf s1 q=>?_)
 cases f with
 |next=>exact Xy q
 |ret v=>exact q
 |brk=>exact q
 |cont=>exact q
def Inv.quiet{pins:Va}{σ:St}{H:Hp}{s:Shared}(I:Inv X pins σ H s):interactive X.env=false:=by simp[interactive,I.ok.kind]
def Fp(te:TE):TS:=λD σ H=>te σ H λ_ H1=>D.nx σ H1
def zu(he:PE X e te)(hs:swapsWith e none pos.line X.env=pure false:=by rfl):PS X (.Expr e pos) (Fp te):=by
 intro pins s σ H D I h
 exact wpAny_Expr_any (JN (he pins s σ H _ I h) λv s1 ⟨x,H1,I1,r1,q1⟩=>⟨σ,H1,I1,q1⟩) I.quiet hs
def Hr(te:TE):TS:=λD σ H=>te σ H D.rt
def CA(he:PE X e te):PS X (.Return (some e) pos) (Hr te):=by
 intro pins s σ H D I h
 exact wpAny_Return_some (JN (he pins s σ H _ I h) λv s1 ⟨x,H1,I1,r1,q1⟩=>⟨x,σ,H1,I1,r1,q1⟩)
def Hs(c:TT)(t u:TS):TS:=λD σ H=>c σ H λb H1=>if b=true then t D σ H1 else u D σ H1
def Fq{c:Expr}{a b:List Stmt}{tc:TT}(hc:PT X c tc)(ha:Mk X a t)(hb:Mk X b u):PS X (.If c a b pos) (Hs tc t u):=by
 intro pins s σ H D I h
 refine wpAny_If (JN (hc pins s σ H _ I h) λd s1 ⟨H1,I1,q1⟩=>?_)
 cases d with
 |true=>exact ha pins s1 σ H1 D I1 q1
 |false=>exact hb pins s1 σ H1 D I1 q1
end
abbrev TG:=V->St->Hp->(St->Hp->Prop)->Prop
abbrev BA:=List V->St->Hp->(St->Hp->Prop)->Prop
def PG(X:Cx)(target:Expr)(t:TG):Prop:=
 ∀(pins:Va)(s:Shared)(σ:St)(H:Hp)(v:V)(u:Value)(Q:St->Hp->Prop),Inv X pins σ H s->RelV v u->t v σ H Q->
  wpAny (model X.prog X.w) X.A (assign target X.env u) (λ_ s'=>∃σ' H',Inv X pins σ' H' s'/\Q σ' H') X.xe s
def Fr(X:Cx)(ts:List Expr)(t:BA):Prop:=
 ∀(pins:Va)(s:Shared)(σ:St)(H:Hp)(vs:List V)(us:Vv)(Q:St->Hp->Prop),Inv X pins σ H s->Vals vs us->t vs σ H Q->
  wpAny (model X.prog X.w) X.A (assignInOrder ((assignEach ts X.env).map (·.2)) us) (λ_ s'=>∃σ' H',Inv X pins σ' H' s'/\Q σ' H') X.xe s
abbrev CC:=V->V->V->Hp->(Hp->Prop)->Prop
def zv(X:Cx)(t:CC):Prop:=
 ∀(pins:Va)(s:Shared)(σ:St)(H:Hp)(o i v:V)(ov iv u:Value)(Q:Hp->Prop),Inv X pins σ H s->RelV o ov->RelV i iv->RelV v u->t o i v H Q->
  wpAny (model X.prog X.w) X.A (setItem ov iv u) (λ_ s'=>∃H',Inv X pins σ H' s'/\Q H') X.xe s
section
variable {X:Cx}{pos:Pos}
def oX(i:Nat):TG:=λv σ H Q=>Q (σ.set i (some v)) H
def zw{i:Nat}{x:Str}(hN:X.N.Nodup)(hi:X.N[i]?=some x)(hx:Bz X.env.scope x)(hf:X.fn x=true\/X.env.scope.names.lookup x=some .local:=by walk_at "9"):PG X (.Name x pos) (oX i):=by
 intro pins s σ H v u Q I r h
 exact wpAny_assign_Name (ij I hN hi hx r (λs' I'=>⟨_,H,I',h⟩) hf)
noncomputable def Fs:BA:=λvs σ H Q=>vs=[]/\Q σ H
noncomputable def BB(t:TG)(u:BA):BA:=λvs σ H Q=>∃v r,vs=v::r/\t v σ H λσ' H'=>u r σ' H' Q
def rV:Fr X [] Fs:=by
 intro pins s σ H vs us Q I r h
 obtain⟨e,h⟩:=h
 subst e
 cases r
 exact assignInOrder_nil ⟨σ,H,I,h⟩
def kr{e:Expr}{es:List Expr}{t:TG}{u:BA}(h1:PG X e t)(h2:Fr X es u)
  (hs:(assignEach (e::es) X.env).map (·.2)=assign e X.env::(assignEach es X.env).map (·.2):=by rfl):Fr X (e::es) (BB t u):=by
 intro pins s σ H vs us Q I r h
 obtain⟨v,vr,e1,h⟩:=h
 subst e1
 cases r with
 |cons r rr=>
  rw[hs]
  refine assignInOrder_cons (JN (h1 pins s σ H _ _ _ I r h) λ_ s1 ⟨σ1,H1,I1,q1⟩=>?_)
  exact h2 pins s1 σ1 H1 _ _ Q I1 rr q1
def Ft(K:Vo)(n:Nat)(t:BA):TG:=λv σ H Q=>∃a xs,v = .ref a/\SqT K H a xs/\xs.length=n/\t xs σ H Q
def vj{es:List Expr}{k:Nat}{t:BA}{n:Nat}(hc:X.calm=true)(h:Fr X es t)
  (hn:(assignEach es X.env).length=n:=by rfl) (hst:(assignEach es X.env).findIdx? (·.1)=none:=by rfl):PG X (.Tuple es k pos) (Ft X.K n t):=by
 intro pins s σ H v u Q I r hw
 obtain⟨a,xs,e1,hq,hl,hw⟩:=hw
 subst e1
 cases r
 obtain⟨its,rv,ht,hz⟩:=I.tuple hq
 refine assign_Tuple_tuple (I.ok.hd hc) ht (by simp[hn,<-hl,rv.length]) hst λh' hx=>?_
 have I1:Inv X pins σ H { s with heap:=h' }:=I.kept (t':=s.toks) λb o e=>hx b o (Vm (US e)) e
 exact h pins _ σ H xs _ Q I1 (by simpa using rv) hw
def Ht(to ti:TE)(t:CC):TG:=λv σ H Q=>to σ H λo H1=>ti σ H1 λi H2=>t o i v H2 λH3=>Q σ H3
def qu{o i:Expr}{to ti:TE}{t:CC}(ho:PE X o to)(hi:PE X i ti)(hs:zv X t)
  (ha:∀v,assign (.Subscript o i pos) X.env v=(do
   let ov <-holding [v] (eval o X.env)
   let iv <-holding [v,ov] (eval i X.env)
   standAt pos
   holding [v,ov,iv] (setItem ov iv v)
   release [v,ov,iv] []):=by intro _;rfl):PG X (.Subscript o i pos) (Ht to ti t):=by
 intro pins s σ H v u Q I r h
 rw[ha]
 refine UD (We (JN (ho pins s σ H _ I h) λov s1 ⟨x,H1,I1,r1,q1⟩=>?_))
 refine UD (We (JN (hi pins s1 σ H1 _ I1 q1) λiv s2 ⟨y,H2,I2,r2,q2⟩=>?_))
 refine UD (WQ (UD (We (JN (hs pins s2 σ H2 x y v ov iv u _ I2 r1 r2 r q2) λ_ s3 ⟨H3,I3,q3⟩=>?_))))
 exact wpAny_release ⟨σ,H3,I3,q3⟩
def zx(te:TE)(g:TG):TS:=λD σ H=>te σ H λx H1=>g x σ H1 D.nx
def vk{tg e:Expr}{te:TE}{g:TG}(he:PE X e te)(hg:PG X tg g)(hs:swapsWithSole [tg] e pos.line X.env=pure false:=by rfl)(hw:swappedStores [tg] e X.env=pure none:=by rfl)
  (h1:(assignEach [tg] X.env).map (·.2)=[assign tg X.env]:=by rfl):PS X (.Assign [tg] e pos) (zx te g):=by
 intro pins s σ H D I h
 refine wpAny_Assign_stores (JN (he pins s σ H _ I h) λv s1 ⟨x,H1,I1,r1,q1⟩=>?_) hs hw
 rw[h1]
 exact JN (hg pins s1 σ H1 x v _ I1 r1 q1) λ_ s2 q=>q
def CD{i:Nat}{x:Str}{e:Expr}{te:TE}{pos':Pos}(hN:X.N.Nodup)(hi:X.N[i]?=some x)(hx:Bz X.env.scope x)(he:PE X e te)(hs:swapsWith e (some (.Name x pos')) pos.line X.env=pure false:=by rfl)(hf:X.fn x=true\/X.env.scope.names.lookup x=some .local:=by walk_at "9") :
  PS X (.Assign [.Name x pos'] e pos) (zx te (oX i)):=by
 intro pins s σ H D I h
 refine wpAny_Assign_Name (JN (he pins s σ H _ I h) λv s1 ⟨y,H1,I1,r1,q1⟩=>?_) hs
 exact ij I1 hN hi hx r1 (λs2 I2=>⟨_,H1,I2,q1⟩) hf
def Hu(i j:Nat)(ta:TA):TS:=λD σ H=>ta σ H λvs H1=>∃v w,vs=[v,w]/\D.nx ((σ.set i (some v)).set j (some w)) H1
def CF{i j:Nat}{x y:Str}{a b:Expr}{ta:TA}{px py pt:Pos}{kt k2 O_}(hc:X.calm=true)(hN:X.N.Nodup)(hi:X.N[i]?=some x)(hj:X.N[j]?=some y)(hij:i≠j)
  (hx:X.env.scope.names.lookup x=some .local) (hy:X.env.scope.names.lookup y=some .local) (ha:PA X [a,b] ta)
  (hw:swappedStores [.Tuple [.Name x px,.Name y py] kt pt] (.Tuple [a,b] k2 O_) X.env=pure (some [x,y]))
  (hs:swapsWithSole [.Tuple [.Name x px,.Name y py] kt pt] (.Tuple [a,b] k2 O_) pos.line X.env=pure false:=by rfl) :
  PS X (.Assign [.Tuple [.Name x px,.Name y py] kt pt] (.Tuple [a,b] k2 O_) pos) (Hu i j ta):=by
 intro pins s σ H D I h
 rw[exec_Assign_arm]
 refine UD (WQ ?_)
 rw[hs]
 refine UD (UL ?_)
 rw[if_neg (by decide)]
 refine UD (Tuple_ (JN (ha _ pins s σ H _ I h) λus s1 ⟨vs,H1,I1,r1,q1⟩=>?_))
 obtain⟨v,w,e1,q1⟩:=q1
 subst e1
 obtain⟨u1,u2,rfl,rv,rw'⟩:∃u1 u2,us=[u1,u2]/\RelV v u1/\RelV w u2:=by
  cases r1 with
  |cons p q=>
   cases q with
   |cons p' q'=>
    cases q'
    exact⟨_,_,rfl,p,p'⟩
 refine Wa ?_ (by show 2<=sizeLine;decide)
 have I2:Inv X pins σ H1 { s1 with heap:=s1.heap.push { cls:=.type "tuple",data:=.seq [u1,u2].toArray } }:=I1.kept (t':=s1.toks) λb o e=>UG _ e
 rw[hw]
 refine UD (UL ?_)
 show wpAny (model X.prog X.w) X.A (do rule "assign.swapped-stores"; let items <-unpackItems (.ref s1.heap.objs.size) 2 none;assignInOrder [λv=>bindName X.env y v,λv=>bindName X.env x v] items.reverse;pure Flow.next) _ _ _
 refine UD (Yb (UD (unpackItems_tuple (items:=#[u1,u2]) (I.ok.hd hc) (IsTup.new s1.heap _) λh' hx'=>?_)))
 have I3:=I2.kept (h':=h') (t':=s1.toks) λb o e=>hx' b o (Vm (US e)) e
 show wpAny _ _ (assignInOrder [λv=>bindName X.env y v,λv=>bindName X.env x v] [u2,u1] >>= λ_=>pure Flow.next) _ _ _
 refine UD (assignInOrder_cons (wpAny_bindName (ij I3 hN hj (.inl hy) rw' (λs2 I4=>?_) (.inr hy))))
 refine assignInOrder_cons (wpAny_bindName (ij I4 hN hi (.inl hx) rv (λs3 I5=>assignInOrder_nil (UL ?_)) (.inr hx)))
 rw[List.set_comm _ _ (VI hij)]at I5
 exact⟨_,H1,I5,q1⟩
end
section
variable {X:Cx}{pos:Pos}
def CG(c:TT)(tb:TS):TS:=λD σ H=>∃W:Nat->St->Hp->Prop,(∃m,W m σ H)/\∀m σ H,W m σ H->
 c σ H λb H1=>if b=true then ∃N:St->Hp->Prop,(∀σ' H',N σ' H'->∃m',m' < m/\W m' σ' H')/\tb { D with nx:=N,ct:=N,bk:=D.nx } σ H1 else D.nx σ H1
def vm{c:Expr}{body:List Stmt}{tc:TT}{tb:TS}(hp:PassesOwn (model X.prog X.w) X.A X.env X.xe)(hc:PT X c tc)(hb:Mk X body tb):PS X (.While c body [] pos) (CG tc tb):=by
 intro pins s σ H D I h
 obtain⟨W,⟨m0,w0⟩,turn⟩:=h
 refine wpAny_While (codeAny_whileLoop (λn s'=>∃σ' H',Inv X pins σ' H' s'/\W n σ' H') ?_ m0 ⟨σ,H,I,w0⟩)
 rintro n s1 ⟨σ1,H1,I1,w1⟩
 refine WI hp (JN (hc pins s1 σ1 H1 _ I1 (turn n σ1 H1 w1)) λb s2 ⟨H2,I2,q2⟩=>?_)
 cases b with
 |true=>
  obtain⟨N,hN,q2⟩:=q2
  rw[if_pos rfl]
  refine WI hp (JN (hb pins s2 σ1 H2 _ I2 q2) λf s3 q3=>?_)
  cases f with
  |next=>
   obtain⟨σ3,H3,I3,n3⟩:=q3
   obtain⟨m',hm,w3⟩:=hN σ3 H3 n3
   exact⟨m',hm,σ3,H3,I3,w3⟩
  |cont=>
   obtain⟨σ3,H3,I3,n3⟩:=q3
   obtain⟨m',hm,w3⟩:=hN σ3 H3 n3
   exact⟨m',hm,σ3,H3,I3,w3⟩
  |brk=>exact q3
  |ret v=>exact q3
 |false=>
  rw[if_neg Vk]
  exact Xy ⟨σ1,H2,I2,q2⟩
end
structure It where
 go:Nat->Hp->Prop
 QI:Nat->Hp->V->Hp->Prop
 stop:Nat->Hp->Prop
def JV(X:Cx)(pins:Va)(H:Hp)(b:Addr):Prop:=
 H b=none/\b≠X.env.locals/\b ∉ X.fs/\(b∈X.ex\/X.s₀.heap.objs.size<=b)/\(∀x c,X.env.cells.lookup x=some c->c≠b)/\∀p∈X.pn++pins,p.1≠b
def Inv.Lb{X:Cx}{pins:Va}{σ:St}{H H':Hp}{s:Shared}{b:Addr}(I:Inv X pins σ H s)(hb:s.heap.objs.size<=b)(hn:H' b=none):JV X pins H' b:=by
 refine⟨hn,WA (UU I.lt hb),I.PX hb,.inr (UN I.sz hb),λx c e z=>?_,λp hp z=>?_⟩
 .obtain⟨v,q⟩:=I.cell x c e
  exact absurd (UU q.lt (by rw[z];exact hb)) (Wc _)
 .exact absurd (UU (US (I.pin p hp).1) (by rw[z];exact hb)) (Wc _)
structure mS(P:Program)(w:World)(K:Vo)(tg:Expr)(J:It)(fp:List Addr)(it:Addr)(tn:Nat->Heap->Prop):Prop where
 mem:it∈fp
 obj:∀i h,tn i h->∀b∈fp,∃o,h.get? b=some o/\∀v,o.data ≠ .cell v
 keep:∀i h h',tn i h->(∀b∈fp,∀o,h.get? b=some o->h'.get? b=some o)->tn i h'
 item:∀(X:Cx),X.prog=P->X.w=w->X.K=K->X.calm=true->∀(i:Nat)(pins:Va)(s:Shared)(σ:St)(H:Hp)(E:Vq),Inv X pins σ H s->(∀b∈fp,JV X pins H b)->tn i s.heap->J.go i H->
  wpAny (model P w) X.A (pyNext (.ref it)) (λr s1=>∃u,r=some u/\
   wpAny (model P w) X.A (letOwnedTupleGo tg (.ref it) u) (λ_ s2=>∃x H',Inv X pins σ H' s2/\RelV x u/\J.QI i H x H'/\tn (i+1) s2.heap/\∀b∈fp,H' b=none) E s1) E s
 done:∀(X:Cx),X.prog=P->X.w=w->X.K=K->X.calm=true->∀(i:Nat)(pins:Va)(s:Shared)(σ:St)(H:Hp)(E:Vq),Inv X pins σ H s->(∀b∈fp,JV X pins H b)->tn i s.heap->J.stop i H->
  wpAny (model P w) X.A (pyNext (.ref it)) (λr s1=>r=none/\Inv X pins σ H s1) E s
 self:∀(A:Around)(i:Nat)(s:Shared)(Q:Vq)(E:Vq),tn i s.heap->Q (.ref it) s->wpAny (model P w) A (pyIter (.ref it)) Q E s
abbrev TI:=St->Hp->(It->Hp->Prop)->Prop
def G3(X:Cx)(pins:Va)(σ:St)(tg:Expr)(R:It->Hp->Prop)(itv:Value)(s2:Shared):Prop:=
 ∃(it:Addr) (fp:List Addr) (tn:Nat->Heap->Prop) (J:It) (H':Hp),itv = .ref it/\Inv X pins σ H' s2/\mS X.prog X.w X.K tg J fp it tn/\tn 0 s2.heap/\(∀b∈fp,JV X pins H' b)/\R J H'
def PI(X:Cx)(tg iter:Expr)(wi:TI):Prop:=
 ∀(pins:Va)(s:Shared)(σ:St)(H:Hp)(R:It->Hp->Prop),Inv X pins σ H s->wi σ H R->
  wpAny (model X.prog X.w) X.A (eval iter X.env) (λv s1=>wpAny (model X.prog X.w) X.A (pyIter v) (G3 X pins σ tg R) X.xe s1) X.xe s
def oY{M : Model}{A : Around}{E : Value -> Shared -> Prop}{s : Shared}{tg : Expr}{it : Addr}{u : Value}{o : Obj}{n : String}{vs : Array Value}{Q : Unit -> Shared -> Prop}(ho : s.heap.get? it = some o)(hc : o.cls = .type n)(hd : o.data = .fields vs)
    (hn : ["enumerate", "zip", "dict_itemiterator", "dict_reverseitemiterator", "odict_iterator", "itertools.zip_longest", "itertools.pairwise"].contains n = false) (hQ : Q () s) : wpAny M A (letOwnedTupleGo tg (.ref it) u) Q E s := by
  unfold letOwnedTupleGo
  cases tg <;> first
    | exact UL hQ
    | (cases u <;> first
        | exact UL hQ
        | (refine UD (wpAny_load ho ?_)
           rw [hc, hd]
           show wpAny M A (if (["enumerate", "zip", "dict_itemiterator", "dict_reverseitemiterator", "odict_iterator", "itertools.zip_longest", "itertools.pairwise"].contains n && vs[0]? == some (rawInt _)) = true then _ else _) Q E s
           rw [if_neg (by intro h; rw [hn, Bool.false_and] at h; cases h)]
           exact UL hQ))
noncomputable def G4(K:Vo)(a:Addr):It:=
 ⟨λi H=>∃xs x,SqL K H a xs/\xs[i]?=some x,λi H x H'=>H'=H/\∀xs,SqL K H a xs->xs[i]?=some x,λi H=>∃xs,SqL K H a xs/\xs.length<=i⟩
noncomputable def Hv(K:Vo)(a:Addr):It:=
 ⟨λi H=>∃xs x,SqT K H a xs/\xs[i]?=some x,λi H x H'=>H'=H/\∀xs,SqT K H a xs->xs[i]?=some x,λi H=>∃xs,SqT K H a xs/\xs.length<=i⟩
noncomputable def Fu(lo:Int)(n:Nat):It:=⟨λi _=>i < n,λi H x H'=>H'=H/\x = .int (lo+i),λi _=>n<=i⟩
def tR{P:Program}{w:World}{K:Vo}{tg:Expr}(a it:Addr):mS P w K tg (G4 K a) [it] it (λi h=>h.IsListIter it a i) where
 mem:=by simp
 obj:=λi h st b hb=>by
  have e:b=it:=by simpa using hb
  subst e
  obtain⟨o,e,c,d⟩:=st
  exact⟨o,e,λv z=>by rw[d]at z;cases z⟩
 keep:=λi h h' st k=>st.at λo e=>k it (by simp) o e
 item:=by
  walk_at "4"
  subst hP hw hK
  obtain⟨xs,x,hq,hx⟩:=hg
  obtain⟨its,rv,p,hz⟩:=I.list hq
  obtain⟨u,hu,ru⟩:=rv.get hx
  walk_at "6"
  refine wpAny_pyNext_list_item st p.isList (x:=u) (by simpa using hu) λh' st' sb=>?_
  have I1:Inv X pins σ H { s with heap:=h' }:=I.turned (t':=s.toks) (λb o hb e=>(sb.2 b hb).trans e) f0 f1 f3 f4 f5
  obtain⟨o,e,c,d⟩:=id st'
  exact⟨u,rfl,oY (s:={ s with heap:=h' }) e c d (by decide) ⟨x,H,I1,ru,⟨rfl,λys hy=>by rw[I.MI hy hq];exact hx⟩,st',λb hb=>(hf b hb).1⟩⟩
 done:=by
  walk_at "4"
  subst hP hw hK
  obtain⟨xs,hq,hx⟩:=hg
  obtain⟨its,rv,p,hz⟩:=I.list hq
  walk_at "6"
  have hl:=rv.length
  exact wpAny_pyNext_list_end (I.ok.hd hc) st p.isList (by simp;omega) λh' eb=>⟨rfl,I.turned (t':=s.toks) (λb o hb e=>eb b o hb e) f0 f1 f3 f4 f5⟩
 self:=λ_ _ _ _ _ st h=>wpAny_pyIter_listiter st h
def qv{P:Program}{w:World}{K:Vo}{tg:Expr}(a it:Addr):mS P w K tg (Hv K a) [it] it (λi h=>h.IsTupleIter it a i) where
 mem:=by simp
 obj:=λi h st b hb=>by
  have e:b=it:=by simpa using hb
  subst e
  obtain⟨o,e,c,d⟩:=st
  exact⟨o,e,λv z=>by rw[d]at z;cases z⟩
 keep:=λi h h' st k=>st.at λo e=>k it (by simp) o e
 item:=by
  walk_at "4"
  subst hP hw hK
  obtain⟨xs,x,hq,hx⟩:=hg
  obtain⟨its,rv,p,hz⟩:=I.tuple hq
  obtain⟨u,hu,ru⟩:=rv.get hx
  walk_at "6"
  refine wpAny_pyNext_tuple_item st (show s.heap.IsTuple a its.toArray from p) (x:=u) (by simpa using hu) λh' st' sb=>?_
  have I1:Inv X pins σ H { s with heap:=h' }:=I.turned (t':=s.toks) (λb o hb e=>(sb.2 b hb).trans e) f0 f1 f3 f4 f5
  obtain⟨o,e,c,d⟩:=id st'
  exact⟨u,rfl,oY (s:={ s with heap:=h' }) e c d (by decide) ⟨x,H,I1,ru,⟨rfl,λys hy=>by rw[I.Mr hy hq];exact hx⟩,st',λb hb=>(hf b hb).1⟩⟩
 done:=by
  walk_at "4"
  subst hP hw hK
  obtain⟨xs,hq,hx⟩:=hg
  obtain⟨its,rv,p,hz⟩:=I.tuple hq
  walk_at "6"
  have hl:=rv.length
  exact wpAny_pyNext_tuple_end (I.ok.hd hc) st (show s.heap.IsTuple a its.toArray from p) (by simp;omega) λh' eb=>⟨rfl,I.turned (t':=s.toks) (λb o hb e=>eb b o hb e) f0 f1 f3 f4 f5⟩
 self:=λ_ _ _ _ _ st h=>wpAny_pyIter_tupleiter st h
def qw{P:Program}{w:World}{K:Vo}{tg:Expr}(it:Addr)(lo:Int)(n:Nat):mS P w K tg (Fu lo n) [it] it (λi h=>IsRangeIter h it (lo+(i:Nat) * 1) ((n:Int) - (i:Nat)) 1) where
 mem:=by simp
 obj:=λi h st b hb=>by
  have e:b=it:=by simpa using hb
  subst e
  exact⟨_,st,λv z=>by
   have z':Data.fields _=Data.cell v:=z
   cases z'⟩
 keep:=λi h h' st k=>k it (by simp) _ st
 item:=by
  walk_at "4"
  subst hP hw hK
  walk_at "6"
  have W:=Walks.range (prog:=X.prog) (w:=X.w) (I.ok.hd hc) it lo 1 n
  refine Vg I.tk (W.item i s _ _ hg st λv h' tk hv st' kk ht=>?_)
  obtain⟨t,rfl⟩:=hv
  have I1:Inv X pins σ H { s with heap:=h',toks:=tk }:=I.turned (λb o hb e=>kk b o (by simpa using hb) e) f0 f1 f3 f4 f5
  refine⟨_,rfl,oY (s:={ s with heap:=h',toks:=tk }) (n:="range_iterator") st' rfl rfl (by decide) ⟨.int (lo+i),H,I1,⟨t,?_⟩,⟨rfl,rfl⟩,st',λb hb=>(hf b hb).1⟩⟩
  rw[Int.mul_one]
 done:=by
  walk_at "4"
  subst hP hw hK
  walk_at "6"
  exact wpAny_pyNext_range_end (I.ok.hd hc) st (by have:n<=i:=hg;omega) λh' eb=>⟨rfl,I.turned (t':=s.toks) (λb o hb e=>eb b o hb e) f0 f1 f3 f4 f5⟩
 self:=λ_ _ _ _ _ st h=>wpAny_pyIter_rangeiter st h
section
variable {X:Cx}{tg:Expr}
def oZ{pins:Va}{σ:St}{H:Hp}{s:Shared}{R:It->Hp->Prop}{E:Vq}{lo hi:Int}{t u v:Tok}{tk:Nat}(I:Inv X pins σ H s)(ht:1<=tk)(h1:-(2 ^ 62)<=lo)(h2:lo < 2 ^ 62)(h3:-(2 ^ 62)<=hi)(h4:hi < 2 ^ 62)
  (q:R (Fu lo (hi - lo).toNat) H):wpAny (model X.prog X.w) X.A (pyIter (.ref s.heap.objs.size)) (G3 X pins σ tg R) E { s with heap:=s.heap.push { cls:=.type "range",data:=.fields #[.int lo t,.int hi u,.int 1 v] },toks:=tk }:=by
 refine wpAny_pyIter_range (IsRange.new ..) (small_one h1 h2 h3 h4) ?_
 have I1:Inv X pins σ H { s with heap:=s.heap.push { cls:=.type "range",data:=.fields #[.int lo t,.int hi u,.int 1 v] },toks:=tk }:=I.kept λb o e=>UG _ e
 refine⟨(s.heap.push { cls:=.type "range",data:=.fields #[.int lo t,.int hi u,.int 1 v] }).objs.size,[(s.heap.push { cls:=.type "range",data:=.fields #[.int lo t,.int hi u,.int 1 v] }).objs.size],_,_,H,rfl,
  I1.kept (t':=tk) λb o e=>UG _ e,qw _ lo (hi - lo).toNat,?_,λb hb=>?_,q⟩
 .have e1:lo+((0:Nat):Int) * 1=lo:=by simp
  have e2:(((hi - lo).toNat:Nat):Int) - ((0:Nat):Int)=Builtin.Range.rangeSize lo hi 1:=by rw[rangeSize_one];split<;>omega
  show IsRangeIter _ _ (lo+((0:Nat):Int) * 1) ((((hi - lo).toNat:Nat):Int) - ((0:Nat):Int)) 1
  rw[e1,e2]
  exact U0 _ rfl
 .have e:b=(s.heap.push { cls:=.type "range",data:=.fields #[.int lo t,.int hi u,.int 1 v] }).objs.size:=by simpa using hb
  subst e
  exact I1.Lb (UH _) (I1.hok.fresh (UH _))
def Fv(ta:TA):TI:=λσ H R=>ta σ H λvs H1=>∃j:Int,vs=[.int j]/\-(2 ^ 62)<=j/\j < 2 ^ 62/\R (Fu 0 j.toNat) H1
def Fw(ta:TA):TI:=λσ H R=>ta σ H λvs H1=>∃i j:Int,vs=[.int i,.int j]/\(-(2 ^ 62)<=i/\i < 2 ^ 62/\-(2 ^ 62)<=j/\j < 2 ^ 62)/\R (Fu i (j - i).toNat) H1
def tS{a:Expr}{ta:TA}{p pos:Pos}(hg:Gl X "range")(hm:X.mg "range" = none)(ha:PA X [a] ta)(hs:starEach [a] X.env=[(false,eval a X.env)]:=by rfl):PI X tg (.Call (.Name "range" p) [a] [] pos) (Fv ta):=by
 intro pins s σ H R I h
 refine Call_ (ef I hg hm boot_range (VO (JN (ha pos pins s σ H _ I h) λus s1 ⟨vs,H1,I1,r1,q1⟩=>?_) hs rfl))
 obtain⟨j,e,q1,q2,q⟩:=q1
 subst e
 cases r1 with
 |cons r rr=>
  cases rr
  obtain⟨t,rfl⟩:=r
  exact call_range_1 (oZ I1 (by walk_at "t") (by omega) (by omega) q1 q2 (by simpa using q))
def tT{a b:Expr}{ta:TA}{p pos:Pos}(hg:Gl X "range")(hm:X.mg "range" = none)(ha:PA X [a,b] ta)(hs:starEach [a,b] X.env=[(false,eval a X.env),(false,eval b X.env)]:=by rfl)(hs2:starEach [b] X.env=[(false,eval b X.env)]:=by rfl) :
  PI X tg (.Call (.Name "range" p) [a,b] [] pos) (Fw ta):=by
 intro pins s σ H R I h
 refine Call_ (ef I hg hm boot_range (VO (JN (ha pos pins s σ H _ I h) λus s1 ⟨vs,H1,I1,r1,q1⟩=>?_) (by rw[hs,hs2]) (by rw[hs2];rfl)))
 obtain⟨i,j,e,⟨q1,q2,q3,q4⟩,q⟩:=q1
 subst e
 cases r1 with
 |cons r rr=>
  cases rr with
  |cons r' rr=>
   cases rr
   obtain⟨t,rfl⟩:=r
   obtain⟨t',rfl⟩:=r'
   exact call_range_2 (oZ I1 (by walk_at "t") q1 q2 q3 q4 q)
def Hw(wi:TI)(g:TG)(tb:TS):TS:=λD σ H=>wi σ H λJ H1=>∃W:Nat->Nat->St->Hp->Prop,(∃m,W 0 m σ H1)/\∀i m σ H,W i m σ H->
 (J.stop i H/\D.nx σ H)\/(J.go i H/\∃N:St->Hp->Prop,(∀σ' H',N σ' H'->∃m',m' < m/\W (i+1) m' σ' H')/\∀x H',J.QI i H x H'->g x σ H' λσ2 H2=>tb { D with nx:=N,ct:=N,bk:=D.nx } σ2 H2)
noncomputable def ku(fp:List Addr)(h:Heap):List (Addr×Obj):=fp.filterMap λb=>(h.get? b).map λo=>(b,o)
def gT{fp:List Addr}{h:Heap}{b:Addr}{o:Obj}(hb:b∈fp)(e:h.get? b=some o):(b,o)∈ku fp h:=List.mem_filterMap.mpr ⟨b,hb,by rw[e];rfl⟩
def tU{fp:List Addr}{h:Heap}{p:Addr×Obj}(hp:p∈ku fp h):p.1∈fp/\h.get? p.1=some p.2:=by
 obtain⟨b,hb,e⟩:=List.mem_filterMap.mp hp
 cases q:h.get? b with
 |none=>rw[q]at e;cases e
 |some o=>
  rw[q]at e
  have e':(b,o)=p:=VY e
  subst e'
  exact⟨hb,q⟩
def Inv.pinned{pins:Va}{σ:St}{H:Hp}{s:Shared}{fp:List Addr}(I:Inv X pins σ H s)(hf:∀b∈fp,JV X pins H b)(ho:∀b∈fp,∃o,s.heap.get? b=some o/\∀v,o.data ≠ .cell v):Inv X (pins++ku fp s.heap) σ H s:=
 I.Ma λp hp=>(UT.mp hp).elim (λz=>I.pin p (Vh _ z)) λz=>by
  obtain⟨hb,e⟩:=tU z
  obtain⟨f0,f1,f2,_⟩:=hf p.1 hb
  obtain⟨o,e',d⟩:=ho p.1 hb
  rw[e]at e';cases e'
  exact⟨e,f0,f1,f2,d⟩
def Inv.LG{pins pl:Va}{σ:St}{H:Hp}{s:Shared}(I:Inv X (pins++pl) σ H s):Inv X pins σ H s:=I.Ma λp hp=>I.pin p (Vh _ (VA _ hp))
def CH{iter:Expr}{body:List Stmt}{wi:TI}{g:TG}{tb:TS}{pos:Pos}(hp:PassesOwn (model X.prog X.w) X.A X.env X.xe)(hc:X.calm=true)(hi:PI X tg iter wi)(hg:PG X tg g)(hb:Mk X body tb)
  (hs:∀x,foldedSetIterable iter X.env x=pure x:=by intro _;rfl):PS X (.For tg iter body [] pos) (Hw wi g tb):=by
 intro pins s σ H D I h
 refine wpAny_For (JN (hi pins s σ H _ I h) λv s1 h1=>JN h1 λitv s2 h2=>?_) hs
 obtain⟨it,fp,tn,J,H2,e,I2,T,st2,f2,W,⟨m0,w0⟩,turn⟩:=h2
 subst e
 -- what stays true of the iterator's objects through the loop
 have stat:∀{H':Hp},(∀b∈fp,H' b=none)->∀b∈fp,JV X pins H' b:=λhn b hb=>⟨hn b hb,(f2 b hb).2⟩
 refine codeAny_forLoop_any (λn s'=>∃i σ' H',Inv X pins σ' H' s'/\tn i s'.heap/\(∀b∈fp,H' b=none)/\W i n σ' H') ?_ m0 ⟨0,σ,H2,I2,st2,λb hb=>(f2 b hb).1,w0⟩
 rintro n s3 ⟨i,σ3,H3,I3,st3,Sf,w3⟩
 rcases turn i n σ3 H3 w3 with⟨stop,qn⟩|⟨go,N,hN,step⟩
 .refine WI hp (JN (T.done X rfl rfl rfl hc i pins s3 σ3 H3 X.xe I3 (stat Sf) st3 stop) λr s4 ⟨hr,I4⟩=>?_)
  subst hr
  exact Xy ⟨σ3,H3,I4,qn⟩
 .refine WI hp (JN (T.item X rfl rfl rfl hc i pins s3 σ3 H3 X.xe I3 (stat Sf) st3 go) λr s4 ⟨u,hr,h4⟩=>?_)
  subst hr
  refine WI hp (JN h4 λ_ s5 ⟨x,H5,I5,r5,y5,Oy,Q7⟩=>?_)
  have Q8:=I5.pinned (stat Q7) (T.obj _ _ Oy)
  refine WI hp (JN (hg _ s5 σ3 H5 x u _ Q8 r5 (step x H5 y5)) λ_ s6 ⟨σ6,H6,I6,q6⟩=>?_)
  refine WI hp (JN (hb _ s6 σ6 H6 _ I6 q6) λf s7 q7=>?_)
  have again:∀{σ7:St} {H7:Hp},Inv X (pins++ku fp s5.heap) σ7 H7 s7->N σ7 H7->∃m,m < n/\∃i σ' H',Inv X pins σ' H' s7/\tn i s7.heap/\(∀b∈fp,H' b=none)/\W i m σ' H':=λ{σ7 H7} I7 n7=>by
   obtain⟨m',hm,w7⟩:=hN σ7 H7 n7
   refine⟨m',hm,i+1,σ7,H7,I7.LG,T.keep _ _ _ Oy λb hb o e=>(I7.pin (b,o) (Vh _ (Vh _ (gT hb e)))).1,λb hb=>?_,w7⟩
   obtain⟨o,e,d⟩:=T.obj _ _ Oy b hb
   exact(I7.pin (b,o) (Vh _ (Vh _ (gT hb e)))).2.1
  cases f with
  |next=>obtain⟨σ7,H7,I7,n7⟩:=q7;exact again I7 n7
  |cont=>obtain⟨σ7,H7,I7,n7⟩:=q7;exact again I7 n7
  |brk=>obtain⟨σ7,H7,I7,q7⟩:=q7;exact⟨σ7,H7,I7.LG,q7⟩
  |ret v=>obtain⟨x7,σ7,H7,I7,r7,q7⟩:=q7;exact⟨x7,σ7,H7,I7.LG,r7,q7⟩
end
abbrev R2:=V->V->Hp->VK->Prop
def gi(X:Cx)(f:Value->Value->Sem Value)(r:R2):Prop:=
 ∀(pins:Va)(s:Shared)(σ:St)(H:Hp)(x y:V)(v u:Value)(Q:VK),Inv X pins σ H s->RelV x v->RelV y u->r x y H Q->
  wpAny (model X.prog X.w) X.A (f v u) (EP X pins σ Q) X.xe s
def G5(X:Cx)(f:Value->Sem Value)(r:V->Hp->VK->Prop):Prop:=
 ∀(pins:Va)(s:Shared)(σ:St)(H:Hp)(x:V)(v:Value)(Q:VK),Inv X pins σ H s->RelV x v->r x H Q->
  wpAny (model X.prog X.w) X.A (f v) (EP X pins σ Q) X.xe s
def dg(X:Cx)(f:Value)(r:List V->Hp->VK->Prop):Prop:=
 ∀(pins:Va)(s:Shared)(σ:St)(H:Hp)(xs:List V)(us:Vv)(Q:VK),Inv X pins σ H s->Vals xs us->r xs H Q->
  wpAny (model X.prog X.w) X.A (call f us) (EP X pins σ Q) X.xe s
def Fx(r:R2)(ta tb:TE):TE:=λσ H Q=>ta σ H λx H1=>tb σ H1 λy H2=>r x y H2 Q
def Je(r:V->Hp->VK->Prop)(ta:TE):TE:=λσ H Q=>ta σ H λx H1=>r x H1 Q
def rI(C:Int->Int->Prop)(g:Int->Int->V):R2:=λx y H Q=>∃i j,x = .int i/\y = .int j/\C i j/\Q (g i j) H
def zy(g:Int->Int->V):R2:=λx y H Q=>∃i j,x = .int i/\y = .int j/\Q (g i j) H
noncomputable def rU(g:Int->V):V->Hp->VK->Prop:=λx H Q=>∃i,x = .int i/\Q (g i) H
section
variable {X:Cx}{a b c:Expr}{ta tb tc:TE}{pos:Pos}
def CI(ha:PE X a ta)(hb:PE X b tb){pins:Va}{s:Shared}{σ:St}{H:Hp}{R:V->V->Hp->Prop}(I:Inv X pins σ H s)
  (h:ta σ H λx H1=>tb σ H1 λy H2=>R x y H2) {Q:Vq} {f:Value->Value->Sem Value}
  (hf:∀v u s2 x y H2,Inv X pins σ H2 s2->RelV x v->RelV y u->R x y H2->wpAny (model X.prog X.w) X.A (f v u) Q X.xe s2) :
  wpAny (model X.prog X.w) X.A (eval a X.env) (λv s₁=>wpAny (model X.prog X.w) X.A (eval b X.env) (λu s₂=>wpAny (model X.prog X.w) X.A (f v u) Q X.xe s₂) X.xe s₁) X.xe s:=by
 refine JN (ha pins s σ H _ I h) λv s1 ⟨x,H1,I1,r1,q1⟩=>?_
 refine JN (hb pins s1 σ H1 _ I1 q1) λu s2 ⟨y,H2,I2,r2,q2⟩=>?_
 exact hf v u s2 x y H2 I2 r1 r2 q2
def Fy{op:Operator}{r:R2}(ho:gi X (binaryOp op) r)(ha:PE X a ta)(hb:PE X b tb):PE X (.BinOp a op b pos) (Fx r ta tb):=by
 walk_at "7"
 exact wpAny_BinOp (CI ha hb I h λv u s2 x y H2 I2 rx ry q=>ho pins s2 σ H2 x y v u Q I2 rx ry q)
def Fz{op:UnaryOp}{r:V->Hp->VK->Prop}(ho:G5 X (unaryOp op) r)(ha:PE X a ta):PE X (.UnaryOp op a pos) (Je r ta):=by
 walk_at "7"
 exact UnaryOp_ (JN (ha pins s σ H _ I h) λv s1 ⟨x,H1,I1,r1,q1⟩=>ho pins s1 σ H1 x v Q I1 r1 q1)
def G6{f:Value->Value->Sem Value}{C:Int->Int->Prop}{g:Int->Int->Int}
  (rule:∀(i j:Int)(t u:Tok)(s:Shared)(Q:Vq)(E:Vq),C i j->Q (.int (g i j) s.toks) { s with toks:=s.toks+1 }->wpAny (model X.prog X.w) X.A (f (.int i t) (.int j u)) Q E s) :
  gi X f (rI C λi j=>.int (g i j)):=by
 walk_at "3"
 obtain⟨i,j,rfl,rfl,hc,q⟩:=h
 obtain⟨t,rfl⟩:=rx
 obtain⟨t',rfl⟩:=ry
 exact rule i j t t' s _ _ hc ⟨.int (g i j),H,I.tok _,⟨_,rfl⟩,q⟩
def FA{f:Value->Value->Sem Value}{g:Int->Int->Int}
  (rule:∀(i j:Int)(t u:Tok)(s:Shared)(Q:Vq)(E:Vq),Q (.int (g i j) s.toks) { s with toks:=s.toks+1 }->wpAny (model X.prog X.w) X.A (f (.int i t) (.int j u)) Q E s) :
  gi X f (zy λi j=>.int (g i j)):=by
 walk_at "3"
 obtain⟨i,j,rfl,rfl,q⟩:=h
 obtain⟨t,rfl⟩:=rx
 obtain⟨t',rfl⟩:=ry
 exact rule i j t t' s _ _ ⟨.int (g i j),H,I.tok _,⟨_,rfl⟩,q⟩
def CJ{f:Value->Value->Sem Value}{g:Int->Int->Bool}
  (rule:∀(i j:Int)(t u:Tok)(s:Shared)(Q:Vq)(E:Vq),Q (.bool (g i j)) s->wpAny (model X.prog X.w) X.A (f (.int i t) (.int j u)) Q E s) :
  gi X f (zy λi j=>.bl (g i j)):=by
 walk_at "3"
 obtain⟨i,j,rfl,rfl,q⟩:=h
 obtain⟨t,rfl⟩:=rx
 obtain⟨t',rfl⟩:=ry
 exact rule i j t t' s _ _ ⟨.bl (g i j),H,I,rfl,q⟩
def zA(i j:Int):Prop:=0<=j/\j<=1000000/\i.natAbs < 2 ^ 64
def Oz(i j:Int):Prop:=(-(2 ^ 64) < i/\i < 2 ^ 64)\/(-(2 ^ 64) < j/\j < 2 ^ 64)
def Oz.ok{i j:Int}(h:Oz i j):IntMulOk i j:=by
 rcases h with⟨h1,h2⟩|⟨h1,h2⟩
 .exact .of_left (intBits_le_64 h1 h2)
 .exact .of_right (intBits_le_64 h1 h2)
def CK:gi X (binaryOp .Add) (zy λi j=>.int (i+j)):=FA λ_ _ _ _ _ _ _ q=>add_int q
def CL:gi X (binaryOp .Sub) (zy λi j=>.int (i - j)):=FA λ_ _ _ _ _ _ _ q=>sub_int q
def zB:gi X (binaryOp .Mod) (rI (λ_ j=>j≠0) λi j=>.int (i.fmod j)):=G6 λ_ _ _ _ _ _ _ hc q=>mod_int' hc q
def CM:gi X (binaryOp .Pow) (rI zA λi j=>.int (i ^ j.toNat)):=G6 λ_ _ _ _ _ _ _ hc q=>pow_int_small hc.1 hc.2.1 hc.2.2 q
def Jf{f:Value->Sem Value}{g:Int->Int}
  (rule:∀(i:Int)(t:Tok)(s:Shared)(Q:Vq)(E:Vq),Q (.int (g i) s.toks) { s with toks:=s.toks+1 }->wpAny (model X.prog X.w) X.A (f (.int i t)) Q E s) :
  G5 X f (rU λi=>.int (g i)):=by
 intro pins s σ H x v Q I rx h
 obtain⟨i,rfl,q⟩:=h
 obtain⟨t,rfl⟩:=rx
 exact rule i t s _ _ ⟨.int (g i),H,I.tok _,⟨_,rfl⟩,q⟩
def CN:G5 X (unaryOp .USub) (rU λi=>.int (-i)):=Jf λ_ _ _ _ _ q=>neg_int q
end
noncomputable def FB:V->V->Bool
 | .non,.non=>true | .non,.int _=>true | .int _,.non=>true | .non,.bl _=>true | .bl _,.non=>true | .non,.str _=>true | .str _,.non=>true
 | .int _,.int _=>true | .bl _,.bl _=>true | .str _,.str _=>true | .NV _,.NV _=>true
 | .int _,.str _=>true | .str _,.int _=>true | .bl _,.str _=>true | .str _,.bl _=>true
 |_,_=>false
def Jg:R2:=λx y H Q=>FB x y=true/\Q (.bl (decide (x=y))) H
def Jh:R2:=λx y H Q=>FB x y=true/\Q (.bl (!decide (x=y))) H
def rW{i j:Int}:decide (V.int i=V.int j)=(i == j):=by
 rw[WJ]
 simp
def vn{i j:Bool}:decide (V.bl i=V.bl j)=(i == j):=by
 rw[WJ]
 simp
def rX{i j:Str}:decide (V.str i=V.str j)=(i == j):=by
 rw[WJ]
 simp
def rY{i j:Array UInt8}:decide (V.NV i=V.NV j)=(i.toList == j.toList):=by
 rw[WJ]
 cases i
 cases j
 simp
section
variable {X:Cx}{a b c:Expr}{ta tb tc:TE}{pos:Pos}
def aM{pins:Va}{σ:St}{H:Hp}{s:Shared}{Q:VK}{k k':Bool}(I:Inv X pins σ H s)(q:Q (.bl k) H)(e:k=k'):EP X pins σ Q (.bool k') s:=by
 subst e
 exact⟨.bl k,H,I,rfl,q⟩
def vo:gi X (compareOp .Eq) Jg:=by
 walk_at "3"
 obtain⟨hs,q⟩:=h
 cases x with
 |non=>
  cases rx
  cases y with
  |non=>cases ry;exact PySem.EqNone.eq_none_none (aM I q (by simp))
  |bl j=>cases ry;exact PySem.EqNone.eq_none_bool (aM I q (by simp))
  |int j=>obtain⟨t',rfl⟩:=ry;exact PySem.EqNone.eq_none_int (aM I q (by simp))
  |str j=>obtain⟨t',rfl⟩:=ry;exact PySem.EqNone.eq_none_str (aM I q (by simp))
  |_=>exact absurd (show false=true from hs) Vk
 |bl i=>
  cases rx
  cases y with
  |non=>cases ry;exact PySem.EqNone.eq_bool_none (aM I q (by simp))
  |bl j=>cases ry;exact eq_bool (aM I q vn)
  |str j=>obtain⟨t',rfl⟩:=ry;exact PySem.EqMixed.eq_bool_str (aM I q (by simp))
  |_=>exact absurd (show false=true from hs) Vk
 |int i=>
  obtain⟨t,rfl⟩:=rx
  cases y with
  |non=>cases ry;exact PySem.EqNone.eq_int_none (aM I q (by simp))
  |int j=>obtain⟨t',rfl⟩:=ry;exact eq_int (aM I q rW)
  |str j=>obtain⟨t',rfl⟩:=ry;exact PySem.EqMixed.eq_int_str (aM I q (by simp))
  |_=>exact absurd (show false=true from hs) Vk
 |str i=>
  obtain⟨t,rfl⟩:=rx
  cases y with
  |non=>cases ry;exact PySem.EqNone.eq_str_none (aM I q (by simp))
  |bl j=>cases ry;exact PySem.EqMixed.eq_str_bool (aM I q (by simp))
  |int j=>obtain⟨t',rfl⟩:=ry;exact PySem.EqMixed.eq_str_int (aM I q (by simp))
  |str j=>obtain⟨t',rfl⟩:=ry;exact eq_str (aM I q rX)
  |_=>exact absurd (show false=true from hs) Vk
 |NV i=>
  obtain⟨t,rfl⟩:=rx
  cases y with
  |NV j=>obtain⟨t',rfl⟩:=ry;exact PySem.W.eq_bytes (aM I q rY)
  |_=>exact absurd (show false=true from hs) Vk
 |_=>cases y<;>exact absurd (show false=true from hs) Vk
def vp:gi X (compareOp .NotEq) Jh:=by
 walk_at "3"
 obtain⟨hs,q⟩:=h
 cases x with
 |non=>
  cases rx
  cases y with
  |non=>cases ry;exact PySem.EqNone.ne_none_none (aM I q (by simp))
  |bl j=>cases ry;exact PySem.EqNone.ne_none_bool (aM I q (by simp))
  |int j=>obtain⟨t',rfl⟩:=ry;exact PySem.EqNone.ne_none_int (aM I q (by simp))
  |str j=>obtain⟨t',rfl⟩:=ry;exact PySem.EqNone.ne_none_str (aM I q (by simp))
  |_=>exact absurd (show false=true from hs) Vk
 |bl i=>
  cases rx
  cases y with
  |non=>cases ry;exact PySem.EqNone.ne_bool_none (aM I q (by simp))
  |bl j=>cases ry;exact ne_bool (aM I q (U4 not vn))
  |str j=>obtain⟨t',rfl⟩:=ry;exact PySem.EqMixed.ne_bool_str (aM I q (by simp))
  |_=>exact absurd (show false=true from hs) Vk
 |int i=>
  obtain⟨t,rfl⟩:=rx
  cases y with
  |non=>cases ry;exact PySem.EqNone.ne_int_none (aM I q (by simp))
  |int j=>obtain⟨t',rfl⟩:=ry;exact ne_int (aM I q (U4 not rW))
  |str j=>obtain⟨t',rfl⟩:=ry;exact PySem.EqMixed.ne_int_str (aM I q (by simp))
  |_=>exact absurd (show false=true from hs) Vk
 |str i=>
  obtain⟨t,rfl⟩:=rx
  cases y with
  |non=>cases ry;exact PySem.EqNone.ne_str_none (aM I q (by simp))
  |bl j=>cases ry;exact PySem.EqMixed.ne_str_bool (aM I q (by simp))
  |int j=>obtain⟨t',rfl⟩:=ry;exact PySem.EqMixed.ne_str_int (aM I q (by simp))
  |str j=>obtain⟨t',rfl⟩:=ry;exact ne_str (aM I q (U4 not rX))
  |_=>exact absurd (show false=true from hs) Vk
 |NV i=>
  obtain⟨t,rfl⟩:=rx
  cases y with
  |NV j=>obtain⟨t',rfl⟩:=ry;exact PySem.W.ne_bytes (aM I q (U4 not rY))
  |_=>exact absurd (show false=true from hs) Vk
 |_=>cases y<;>exact absurd (show false=true from hs) Vk
def FC:gi X (compareOp .Lt) (zy λi j=>.bl (decide (i < j))):=CJ λ_ _ _ _ _ _ _ q=>lt_int q
def FD:gi X (compareOp .Gt) (zy λi j=>.bl (decide (j < i))):=CJ λ_ _ _ _ _ _ _ q=>gt_int q
def FE:gi X (compareOp .GtE) (zy λi j=>.bl (decide (j<=i))):=CJ λ_ _ _ _ _ _ _ q=>ge_int q
def tV:gi X (compareOp .In) (λx y H Q=>∃i j,x = .str i/\y = .str j/\Q (.bl (!(Builtin.Str.occurrences j i 0 j.length 1).isEmpty)) H):=by
 walk_at "3"
 obtain⟨i,j,rfl,rfl,q⟩:=h
 obtain⟨t,rfl⟩:=rx
 obtain⟨t',rfl⟩:=ry
 exact in_str (aM I q rfl)
def CO:gi X (compareOp .Is) (λx y H Q=>y = .non/\Q (.bl (decide (x = .non))) H):=by
 walk_at "3"
 obtain⟨rfl,q⟩:=h
 cases ry
 refine is_none_gen (aM I q ?_)
 cases x<;>first
  |(cases rx;rfl)
  |(obtain⟨t,rfl⟩:=rx;rfl)
def zC:gi X (compareOp .IsNot) (λx y H Q=>y = .non/\Q (.bl (!decide (x = .non))) H):=by
 walk_at "3"
 obtain⟨rfl,q⟩:=h
 cases ry
 refine isnot_none_gen (aM I q ?_)
 cases x<;>first
  |(cases rx;rfl)
  |(obtain⟨t,rfl⟩:=rx;rfl)
def aQ(b:Expr){op:CmpOp}(h:op ≠ .In:=by decide)(h2:op ≠ .NotIn:=by decide):behindInMarks op b=false:=by
 have e1:(op == CmpOp.In)=false:=by cases op<;>first|rfl|exact absurd rfl h
 have e2:(op == CmpOp.NotIn)=false:=by cases op<;>first|rfl|exact absurd rfl h2
 cases b<;>simp[behindInMarks,e1,e2]
def zD{op:CmpOp}{r:R2}(ho:gi X (compareOp op) r)(ha:PE X a ta)(hb:PE X b tb)(hm:behindInMarks op b=false):PE X (.Compare a [op] [b] pos) (Fx r ta tb):=by
 walk_at "7"
 exact wpAny_Compare1 (CI ha hb I h λv u s2 x y H2 I2 rx ry q=>ho pins s2 σ H2 x y v u Q I2 rx ry q) hm
def BC(t:TE):TT:=λσ H Q=>t σ H λx H'=>∃k,x = .bl k/\Q k H'
def rZ{op:CmpOp}{r:R2}(ho:gi X (compareOp op) r)(ha:PE X a ta)(hb:PE X b tb)(hm:behindInMarks op b=false):PT X (.Compare a [op] [b] pos) (BC (Fx r ta tb)):=by
 walk_at "7"
 refine wpAny_isTrue_Compare1 (JN (ha pins s σ H _ I h) λv s1 ⟨x,H1,I1,r1,q1⟩=>JN (hb pins s1 σ H1 _ I1 q1) λu s2 ⟨y,H2,I2,r2,q2⟩=>
  JN (ho pins s2 σ H2 x y v u _ I2 r1 r2 q2) λc s3 ⟨z,H3,I3,r3,k,e,q3⟩=>?_) hm
 subst e
 cases r3
 exact WM ⟨H3,I3,q3⟩
def vq(r r':R2)(ta tb tc:TE):TE:=λσ H Q=>ta σ H λx H1=>tb σ H1 λy H2=>r x y H2 λz H3=>∃k,z = .bl k/\
 (if k=true then tc σ H3 λw' H4=>r' y w' H4 Q else Q (.bl false) H3)
def vt{op op':CmpOp}{r r':R2}(ho:gi X (compareOp op) r)(ho':gi X (compareOp op') r')(ha:PE X a ta)(hb:PE X b tb)(hc:PE X c tc)
  (hm:lastMarks [op,op'] [b,c]=false:=by with_unfolding_all rfl):PT X (.Compare a [op,op'] [b,c] pos) (BC (vq r r' ta tb tc)):=by
 walk_at "7"
 refine isTrue_chain (JN (ha pins s σ H _ I h) λv s1 ⟨x,H1,I1,r1,q1⟩=>test_link (JN (hb pins s1 σ H1 _ I1 q1) λu s2 ⟨y,H2,I2,r2,q2⟩=>
  JN (ho pins s2 σ H2 x y v u _ I2 r1 r2 q2) λd s3 ⟨z,H3,I3,r3,k,e,q3⟩=>?_)) hm
 subst e
 cases r3
 refine WM ?_
 cases k with
 |false=>
  obtain⟨k',e',q'⟩:=q3
  cases e'
  exact ite_ff ⟨H3,I3,q'⟩
 |true=>
  refine ite_tt (test_last (JN (hc pins s3 σ H3 _ I3 q3) λw' s4 ⟨z',H4,I4,r4,q4⟩=>JN (ho' pins s4 σ H4 y z' u w' _ I4 r2 r4 q4) λd' s5 ⟨z2,H5,I5,r5,k2,e2,q5⟩=>?_))
  subst e2
  cases r5
  exact WM ⟨H5,I5,q5⟩
def i0:(sizeLine:Nat) < 2 ^ 63:=by rw[sizeLine_eq];decide
def qx:gi X (binaryOp .Add) (λx y H Q=>∃i j,x = .str i/\y = .str j/\i.length+j.length<=sizeLine/\Q (.str (i++j)) H):=by
 walk_at "3"
 obtain⟨i,j,rfl,rfl,hz,q⟩:=h
 obtain⟨t,rfl⟩:=rx
 obtain⟨t',rfl⟩:=ry
 exact Vg I.tk (add_str (λt' tk ht=>⟨.str (i++j),H,I.tok _,⟨_,rfl⟩,q⟩) hz)
def dh{x:V}{us:Vv}(r:Vals [x] us):∃u,us=[u]/\RelV x u:=by
 cases r with
 |cons r1 r2=>cases r2;exact⟨_,rfl,r1⟩
def BD{x y:V}{us:Vv}(r:Vals [x,y] us):∃u w',us=[u,w']/\RelV x u/\RelV y w':=by
 cases r with
 |cons r1 r2=>
  cases r2 with
  |cons r3 r4=>cases r4;exact⟨_,_,rfl,r1,r3⟩
def vv:dg X (.builtin "abs") (λxs H Q=>∃i,xs=[.int i]/\Q (.int (if i < 0 then -i else i)) H):=by
 intro pins s σ H xs us Q I r h
 obtain⟨i,rfl,q⟩:=h
 obtain⟨u,rfl,t,rfl⟩:=dh r
 exact Vg I.tk (call_abs_int λu tk ht=>⟨.int (if i < 0 then -i else i),H,I.tok _,⟨_,rfl⟩,q⟩)
def tW(hc:X.calm=true):dg X (.builtin "max") (λxs H Q=>∃i j,xs=[.int i,.int j]/\Q (.int (if j > i then j else i)) H):=by
 intro pins s σ H xs us Q I r h
 obtain⟨i,j,rfl,q⟩:=h
 obtain⟨u,w',rfl,⟨t,rfl⟩,⟨t',rfl⟩⟩:=BD r
 refine Vg I.tk (max_two_ints (I.ok.hd hc) λh' tk k ht=>⟨_,H,I.kept k,?_,q⟩)
 by_cases hj:j > i
 .rw[if_pos hj,if_pos hj];exact⟨_,rfl⟩
 .rw[if_neg hj,if_neg hj];exact⟨_,rfl⟩
def l8:dg X (.type "int") (λxs H Q=>(∃i,xs=[.int i]/\Q (.int i) H)\/∃k,xs=[.bl k]/\Q (.int (if k then 1 else 0)) H):=by
 intro pins s σ H xs us Q I r h
 rcases h with⟨i,rfl,q⟩|⟨k,rfl,q⟩
 .obtain⟨u,rfl,t,rfl⟩:=dh r
  exact call_int_int ⟨.int i,H,I,⟨_,rfl⟩,q⟩
 .obtain⟨u,rfl,r1⟩:=dh r
  cases r1
  exact call_int_bool ⟨.int (if k then 1 else 0),H,I.tok _,⟨_,rfl⟩,q⟩
def mT:dg X (.type "str") (λxs H Q=>∃i,xs=[.int i]/\i.natAbs.log2 < 1920/\Q (.str (toString i)) H):=by
 intro pins s σ H xs us Q I r h
 obtain⟨i,rfl,hz,q⟩:=h
 obtain⟨u,rfl,t,rfl⟩:=dh r
 exact PySem.P.str_of_int hz ⟨.str _,H,I.tok _,⟨_,rfl⟩,q⟩
end
def tX{h:Heap}{dx:Addr}{mA:Vr}(n:h.Ns1 dx mA):∃od,h.get? dx=some od/\∀name,PySem.W.lookIn name od=some (mA name):=by
 obtain⟨o,es,ep,ho,hd,hk,_,hm⟩:=n
 refine⟨o,ho,λname=>?_⟩
 have e:=hm name
 unfold nsFind findBy at e
 rw[<-Array.find?_toList]at e
 unfold PySem.W.lookIn
 rw[hd]
 dsimp only
 split
 .rename_i y q
  rw[q]at e
  exact U4 some e
 .rename_i q
  rw[q]at e
  have a:es.toList.any (·.refKey)=false:=by
   rw[List.any_eq_false]
   intro y hy
   obtain⟨z,t,hkey⟩:=hk y (Array.mem_toList_iff.mp hy)
   simp[DictEntry.refKey,hkey]
  have a':¬es.toList.any (·.refKey)=true:=by rw[a];exact Vk
  rw[if_neg a']
  exact U4 some e
def Ly.some_of{v:V}{o:Option Value}(r:Ly (some v) o):∃u,o=some u/\RelV v u:=by
 cases o with
 |none=>exact(show False from r).elim
 |some u=>exact⟨u,rfl,r⟩
def tY{v:V}{u:Value}(r:RelV v u):PySem.W.handedIn u=true:=by
 cases v with
 |non=>cases (show u=Value.none from r);rfl
 |bl b=>cases (show u=Value.bool b from r);rfl
 |int i=>obtain⟨t,e⟩:=(show ∃t,u=Value.int i t from r);cases e;rfl
 |str x=>obtain⟨t,e⟩:=(show ∃t,u=Value.str x t from r);cases e;rfl
 |NV b=>obtain⟨t,e⟩:=(show ∃t,u=Value.bytes b t from r);cases e;rfl
 |QF b=>obtain⟨t,e⟩:=(show ∃t,u=Value.float b t from r);cases e;rfl
 |ref a=>cases (show u=Value.ref a from r);rfl
 |ty n=>cases (show u=Value.type n from r);rfl
def NoAttr(K:Vo)(C:Addr)(f:Str):Prop:=PySem.W.findIn K (.ref C) f=some none
def NoAttr.P0{K:Vo}{C:Addr}{f:Str}(n:NoAttr K C f):PySem.W.takerIn K C f=some none:=by
 unfold PySem.W.takerIn
 rw[show PySem.W.findIn K (.ref C) f=some none from n]
 rfl
section
variable {X:Cx}{pins:Va}{σ:St}{H:Hp}{s:Shared}{a C dx:Addr}{fs:List (Str×V)}{f:Str}{v:V}{A:Around}{E:Vq}
def zE{prog:Program}{w:World}{env:Env}{e:Expr}{f:Str}{pos:Pos}{s:Shared}{Q:Vq}(hb:attributeBase e f env (eval e env)=eval e env)
  (h:wpAny (model prog w) A (eval e env) (λo s₁=>wpAny (model prog w) A (getAttr o f true) Q E s₁) E s):wpAny (model prog w) A (eval (.Attribute e f pos) env) Q E s:=
 Attribute_any_ h (by rw[arm_eval_Attribute,hb])
end
structure RoomG(cm:Bool)(k:Nat)(A:Around):Prop where
 hd:cm=true->A.handled=none
 dp:A.depth+3 * k+5 < recursionLimit
 un:A.units+16 * k+200 < cLine
 gd:A.guards=some []
abbrev gB:=RoomG true
abbrev vx:=RoomG false
section
variable {cm:Bool}
def RoomG.mono{j k:Nat}{A:Around}(r:RoomG cm k A)(h:j<=k):RoomG cm j A:=⟨r.hd,by have:=r.dp;omega,by have:=r.un;omega,r.gd⟩
theorem RoomG.deeper{k:Nat}{A:Around}(r:RoomG cm (k+1) A)(env:Env):RoomG cm k (A.deeper env):=
 ⟨r.hd,by have:=r.dp;show A.depth+1+3 * k+5 < _;omega,by have:=r.un;show A.units+3+16 * k+200 < _;omega,r.gd⟩
def qy{A:Around}{C:Addr}{us:Vv}{kw:List (Str×Value)}:(A.under (.builtin "type.__call__" ⟨.ref C::us,kw⟩)).depth=A.depth+1:=by
 first|rfl|simp[Around.under,Code.weight,Code.isCreation,Code.isGuard,Code.isCaller,Code.frames,Code.isFrame,guardIds]
def qz{A:Around}{C:Addr}{us:Vv}{kw:List (Str×Value)}:(A.under (.builtin "type.__call__" ⟨.ref C::us,kw⟩)).units=A.units+1:=by
 first|rfl|simp[Around.under,Code.cUnits,Code.frames,Code.isFrame]
def o6{A:Around}{C:Addr}{us:Vv}{kw:List (Str×Value)}:(A.under (.builtin "type.__call__" ⟨.ref C::us,kw⟩)).guards=A.guards:=by
 first|rfl|(cases h:A.guards<;>simp[Around.under,Code.guards,Code.isGuard,guardIds,pushGuards,h])
def RoomG.make{k:Nat}{A:Around}(r:RoomG cm (k+1) A)(C:Addr)(us:Vv)(kw:List (Str×Value)):RoomG cm k (A.under (.builtin "type.__call__" ⟨.ref C::us,kw⟩)):=
 ⟨r.hd,by have:=r.dp;rw[qy];omega,by have:=r.un;rw[qz];omega,by rw[o6];exact r.gd⟩
theorem RoomG.depth{k:Nat}{A:Around}(r:RoomG cm k A):A.depth < recursionLimit:=by have:=r.dp;omega
end
def CP:TA:=λ_ H Q=>Q [] H
def BE(ta:TE)(tr:TA):TA:=λσ H Q=>ta σ H λx H1=>tr σ H1 λxs H2=>Q (x::xs) H2
section
variable {X:Cx}{e:Expr}{es:List Expr}{te:TE}{t:TA}{pos:Pos}
def CQ:PA X [] CP:=λ_ _ _ _ H Q I h=>XJ ⟨[],H,I,.nil,h⟩
def zF(ha:PE X e te)(hr:PA X es t)(hs:starEach (e::es) X.env=(false,eval e X.env)::starEach es X.env:=by rfl):PA X (e::es) (BE te t):=by
 intro pos pins s σ H Q I h
 rw[hs]
 show wpAny _ _ (spliced ((false,eval e X.env)::backTo pos (starEach es X.env))) _ _ s
 refine W3 (JN (ha pins s σ H _ I h) λu s1 ⟨x,H1,I1,r1,q1⟩=>?_)
 exact JN (hr pos pins s1 σ H1 _ I1 q1) λus s2 ⟨xs,H2,I2,r2,q2⟩=>⟨x::xs,H2,I2,.cons r1 r2,q2⟩
def Hx(t:TA):TE:=λσ H Q=>t σ H λxs H1=>xs.length<=sizeLine/\∀p,H1 p=none->Q (.ref p) (upd H1 p (.tup xs))
def Hy(t:TA):TE:=λσ H Q=>t σ H λxs H1=>xs.length<=sizeLine/\∀p,H1 p=none->Q (.ref p) (upd H1 p (.lst xs))
def CS{x1}(h:PA X es t):PE X (.Tuple es x1 pos) (Hx t):=by
 intro pins s σ H Q I hq
 refine wpAny_Tuple_spliced (JN (h pos pins s σ H _ I hq) λus s1 ⟨xs,H1,I1,r,z,q⟩=>⟨by rw[<-r.length];exact z,?_⟩)
 have hf:H1 s1.heap.objs.size=none:=I1.hok.fresh (UH _)
 refine⟨.ref s1.heap.objs.size,upd H1 s1.heap.objs.size (.tup xs),I1.laid (t':=s1.toks) (λb u e=>UG _ e) (UH _) ?_,rfl,q _ hf⟩
 exact⟨z,us,r,⟨_,U0 _ rfl,rfl,rfl,_,rfl⟩⟩
def CT(h:PA X es t):PE X (.List es pos) (Hy t):=by
 intro pins s σ H Q I hq
 refine wpAny_List_spliced (JN (h pos pins s σ H _ I hq) λus s1 ⟨xs,H1,I1,r,z,q⟩=>⟨by rw[<-r.length];exact z,?_⟩)
 have hf:H1 s1.heap.objs.size=none:=I1.hok.fresh (UH _)
 refine⟨.ref s1.heap.objs.size,upd H1 s1.heap.objs.size (.lst xs),I1.laid (t':=s1.toks) (λb u e=>UG _ e) (UH _) ?_,rfl,q _ hf⟩
 exact⟨z,us,0,r,U0 _ rfl⟩
end
abbrev Sp:=List V->Hp->VK->XK->Prop
abbrev vy:=List Env->Hp->Shared->XK->Value->Shared->Prop
structure M_(P:Program)(w:World)(K:Vo)(mg:Vr)(base:Heap)(A:Around)(outer:List Env)(s:Shared)(H:Hp):Prop where
 frames:A.frames=some outer
 mod:Mod K mg base
 bs:∀b o,base.get? b=some o->s.heap.get? b=some o/\H b=none
 MH:base.objs.size<=s.heap.objs.size
 KB:s.heap.FunFrames base outer
 M6:∀b∈frs outer,H b=none
 hok:K9 P w H s.heap
 bare:AllBare s.gens
def CE(outer:List Env)(P:Program)(w:World)(H:Hp)(s:Shared)(Q:VK)(u:Value)(s':Shared):Prop:=
 ∃v H',s'.os=s.os/\AllBare s'.gens/\Un (frs outer) [] H H' s.heap s'.heap/\K9 P w H' s'.heap/\RelV v u/\Q v H'
def CR(CX:vy)(outer:List Env)(P:Program)(w:World)(H:Hp)(s:Shared)(Q:VK)(E:XK)(r:Result)(s':Shared):Prop:=
 match r with
 | .ok (.ret u)=>CE outer P w H s Q u s'
 | .ok _=>False
 | .error e=>CX outer H s E e s'
noncomputable def FL(fd:FuncData):List Str->Prop
 |n::_=>fd.scope.names.lookup n=some .local
 |[]=>False
structure gG(cm:Bool)(P:Program)(w:World)(K:Vo)(mg:Vr)(base:Heap)(CX:vy)(k:Nat)(f:Addr)(fd:FuncData)(ps:Vs)(sp:Sp):Prop where
 len:∀vs H Q E,sp vs H Q E->vs.length=ps.length
 run:∀(A:Around)(outer:List Env)(s:Shared)(H:Hp)(args:Args)(us:Vv)(vs:List V)(Q:VK)(E:XK),RoomG cm k A->(1<=s.toks\/FL fd ps)->M_ P w K mg base A outer s H->BindsTo s fd args (ps.zip us)->Vals vs us->sp vs H Q E->
  codeAny (model P w) A (.call (.ref f) args) (CR CX outer P w H s Q E) s
abbrev lQ:=gG true
abbrev BF:=gG false
def M_.make{P:Program}{w:World}{K:Vo}{mg:Vr}{base:Heap}{A:Around}{outer:List Env}{s:Shared}{H:Hp}(e:M_ P w K mg base A outer s H)(C:Addr)(us:Vv)(kw:List (Str×Value)) :
  M_ P w K mg base (A.under (.builtin "type.__call__" ⟨.ref C::us,kw⟩)) outer s H:=⟨by first|exact e.frames|(simpa [Around.under,Code.envs,Code.isFrame,pushEnvs]using e.frames),e.mod,e.bs,e.MH,e.KB,e.M6,e.hok,e.bare⟩
section
variable {X:Cx}{pins:Va}{σ:St}{H:Hp}{s s':Shared}
def Inv.Pa(I:Inv X pins σ H s):M_ X.prog X.w X.K X.mg X.base X.A X.stack s H:=
 ⟨I.ok.frames,I.ok.mod,I.bs,UN I.ok.MH I.sz,I.stack,I.Mx,I.hok,I.bare⟩
def Inv.after{Q:VK}{u:Value}(I:Inv X pins σ H s)(ht:1<=s'.toks)(h:CE X.stack X.prog X.w H s Q u s'):EP X pins σ Q u s':=by
 obtain⟨v,H',os,bare,un,hok,r,q⟩:=h
 obtain⟨hh,g,d,t,os'⟩:=s'
 obtain rfl:os'=s.os:=os
 exact⟨v,H',I.call (h':=hh) (g':=g) (d':=d) (t':=t) (ch:=[]) un hok bare (λb z=>absurd z (by simp)),r,q⟩
end
def BG(sp:Sp)(dvs:List V)(E:XK)(t:TA):TE:=λσ H Q=>t σ H λvs H1=>sp (vs++dvs) H1 Q E
def Binds(K:Vo)(fd:FuncData)(ps:Vs)(ds:Vv):Prop:=
 ∀(s:Shared)(us:Vv),K.In s.heap->(us++ds).length=ps.length->BindsTo s fd ⟨us,[]⟩ (ps.zip (us++ds))
def Binds.all{K:Vo}{fd:FuncData}{ps:Vs}(h:∀us:List Value,us.length=ps.length->bindArgs fd ⟨us,[]⟩=pure (ps.zip us)):Binds K fd ps []:=λs us _ hl=>by
 rw[Vp]at hl ⊢
 exact .of_eq (h us hl)
def mU(CX:vy)(X:Cx)(E:XK):Prop:=∀(pins:Va)(σ:St)(H:Hp)(s:Shared)(e:Value)(s':Shared),Inv X pins σ H s->1<=s'.toks->CX X.stack H s E e s'->X.xe e s'
section
variable {X:Cx}{CX:vy}{k:Nat}{f C:Addr}{fd:FuncData}{ps:Vs}{sp:Sp}{dvs:List V}{ds:Vv}{E:XK}{x m:Str}{p pos apos:Pos}{e o:Expr}{es:List Expr}{ta:TE}{t:TA}
def vA{cm:Bool}{pins:Va}{σ:St}{H:Hp}{s:Shared}{Q:VK}{us:Vv}{vs:List V}(F:gG cm X.prog X.w X.K X.mg X.base CX k f fd ps sp)(hr:RoomG cm k X.A)(hb:Binds X.K fd ps ds)(hd:Vals dvs ds)(hx:mU CX X E)
  (I:Inv X pins σ H s) (r:Vals vs us) (h:sp (vs++dvs) H Q E):wpAny (model X.prog X.w) X.A (call (.ref f) us) (EP X pins σ Q) X.xe s:=by
 have r2:Vals (vs++dvs) (us++ds):=r.append hd
 have hl:(us++ds).length=ps.length:=by rw[<-r2.length];exact F.len _ _ _ _ h
 refine Yw (Xj (codeAny_toks_of (Inv.tk ‹_›) (F.run X.A X.stack s H ⟨us,[]⟩ (us++ds) (vs++dvs) Q E hr (.inl I.tk) I.Pa (hb s us I.L_ hl) r2 h)) λr s' ⟨ht,hq⟩=>?_)
 cases r with
 |error e=>exact hx pins σ H s e s' I ht hq
 |ok fl=>
  cases fl with
  |ret u=>exact I.after ht hq
  |next=>exact False.elim hq
  |brk=>exact False.elim hq
  |cont=>exact False.elim hq
def zG{cm:Bool}(F:gG cm X.prog X.w X.K X.mg X.base CX k f fd ps sp)(hr:RoomG cm k X.A)(hg:Gl X x)(hm:X.mg x=some (.ref f))(hk:PySem.W.keepIn X.K (.ref f)=true)(hb:Binds X.K fd ps ds)(hd:Vals dvs ds)(hx:mU CX X E)
  (ha:PA X (e::es) t) (hdb:(x == ("__debug__":Str))=false:=by decide) (he:starEach (e::es) X.env=(false,eval e X.env)::starEach es X.env:=by rfl) (hpl:(backTo pos (starEach es X.env)).any (·.1)=false:=by rfl) :
  PE X (.Call (.Name x p) (e::es) [] pos) (BG sp dvs E t):=by
 walk_at "7"
 refine Wg (d_ I hg hm ?_ hdb)
 refine Yx (h₀:=X.base) I.ok.mod.PU hk (JN (ha pos pins s σ H _ I h) λus s1 ⟨vs,H1,I1,r,q⟩=>⟨I1.L_,?_⟩) he hpl
 exact vA F hr hb hd hx I1 r q
def vB(F:lQ X.prog X.w X.K X.mg X.base CX k f fd ps sp)(hr:gB k X.A)(hg:Gl X x)(hm:X.mg x=some (.ref f))(hk:PySem.W.keepIn X.K (.ref f)=true)(hb:Binds X.K fd ps ds)(hd:Vals dvs ds)(hx:mU CX X E)
  (hdb:(x == ("__debug__":Str))=false:=by decide):PE X (.Call (.Name x p) [] [] pos) (BG sp dvs E CP):=by
 walk_at "7"
 refine Wg (d_ I hg hm ?_ hdb)
 exact PySem.W.callWith_K0 I.L_ hk (vA (us:=[]) F hr hb hd hx I .nil h)
end
structure b5(N P:Vs)(sc:Scope):Prop where
 kind:sc.kind = .function
 co:sc.isCoroutine=false
 gen:sc.isGenerator=false
 nd:N.Nodup
 pre:N.take P.length=P
 par:∀x∈P,sc.names.lookup x=some .local\/sc.names.lookup x=some .cell
 Pb:∀y∈sc.names,y.2 ≠ .free
theorem l9{kindOf:Str->Option NameKind}{x:Str}:∀{binds:List (Str×Value)}{m:Vr},(∀v,(x,v) ∉ binds)->bindL kindOf binds m x=m x
 |[],_,_=>rfl
 |(n,v)::r,m,h=>by
  unfold bindL
  rw[l9 λw hw=>h w (UP _ hw)]
  split
  .have:x≠n:=by rintro rfl;exact h v Vj
   simp[this]
  .rfl
theorem l_{kindOf:Str->Option NameKind}{x:Str}:∀{binds:List (Str×Value)}{m:Vr},(∀v,(x,v) ∉ binds)->bindC kindOf binds m x=m x
 |[],_,_=>rfl
 |(n,v)::r,m,h=>by
  unfold bindC
  rw[l_ λw hw=>h w (UP _ hw)]
  split
  .rfl
  .have:x≠n:=by rintro rfl;exact h v Vj
   simp[this]
theorem ma{kindOf:Str->Option NameKind}{x:Str}{v:Value}:∀{P:Vs}{vs:Vv}{i:Nat}{m:Vr},P.Nodup->P[i]?=some x->vs[i]?=some v->kindOf x=some .local->
  bindL kindOf (P.zip vs) m x=some v
 |[],_,_,_,_,h,_,_=>by simp at h
 |_::_,[],_,_,_,_,h,_=>by simp at h
 |p::P,w::vs,0,m,nd,h1,h2,hk=>by
  simp at h1 h2;subst h1;subst h2
  show bindL kindOf ((p,w)::P.zip vs) m p=_
  unfold bindL
  rw[l9 λv hv=>(Vz.mp nd).1 (List.of_mem_zip hv).1,if_pos hk]
  simp
 |p::P,w::vs,i+1,m,nd,h1,h2,hk=>by
  show bindL kindOf ((p,w)::P.zip vs) m x=_
  unfold bindL
  exact ma (i:=i) (Vz.mp nd).2 (by simpa using h1) (by simpa using h2) hk
theorem md{kindOf:Str->Option NameKind}{x:Str}{v:Value}:∀{P:Vs}{vs:Vv}{i:Nat}{m:Vr},P.Nodup->P[i]?=some x->vs[i]?=some v->kindOf x≠some .local->
  bindC kindOf (P.zip vs) m x=some v
 |[],_,_,_,_,h,_,_=>by simp at h
 |_::_,[],_,_,_,_,h,_=>by simp at h
 |p::P,w::vs,0,m,nd,h1,h2,hk=>by
  simp at h1 h2;subst h1;subst h2
  show bindC kindOf ((p,w)::P.zip vs) m p=_
  unfold bindC
  rw[l_ λv hv=>(Vz.mp nd).1 (List.of_mem_zip hv).1,if_neg hk]
  simp
 |p::P,w::vs,i+1,m,nd,h1,h2,hk=>by
  show bindC kindOf ((p,w)::P.zip vs) m x=_
  unfold bindC
  exact md (i:=i) (Vz.mp nd).2 (by simpa using h1) (by simpa using h2) hk
noncomputable def fh(N:Vs)(vs:List V):St:=vs.map some++List.replicate (N.length - vs.length) none
noncomputable def gH(cm:Bool)(CX:vy)(P:Program)(w:World)(K:Vo)(mg:Vr)(base:Heap)(N:Vs)(qual:Str)(scope:Scope)(f:Addr)(cd:Value)(A:Around)(outer:List Env)(s:Shared)(H:Hp)(E:XK):Cx where
 prog:=P
 w:=w
 K:=K
 mg:=mg
 base:=base
 A:=A.deeper (envOfC qual scope s.heap.objs.size f cd)
 N:=N
 s₀:=s
 H₀:=H
 env:=envOfC qual scope s.heap.objs.size f cd
 outer:=outer
 stack:=envOfC qual scope s.heap.objs.size f cd::outer
 ex:=[]
 calm:=cm
 fn:=λ_=>true
 pn:=[]
 xe:=λe s'=>wpAny (model P w) (A.deeper (envOfC qual scope s.heap.objs.size f cd)) (leaving (envOfC qual scope s.heap.objs.size f cd) e) (λ_ s''=>CX outer H s E e s'') (λe' s''=>CX outer H s E e' s'') s'
noncomputable abbrev qA:=gH true
noncomputable abbrev FF:=gH false
def o7{sc:Scope}{n:Nat}{x:Str}(h:sc.names.lookup x=some .cell):∃c,(cellsFrom n sc.names []).lookup x=some c:=by
 have q:=PySem.W.cellsFrom_some sc.names n [] (.inl h)
 exact Option.isSome_iff_exists.mp q
def tZ{cm:Bool}{CX:vy}{P:Program}{w:World}{K:Vo}{mg:Vr}{base:Heap}{N ps:Vs}{qual:Str}{scope:Scope}{f:Addr}{cd:Value}{A:Around}{outer:List Env}{s s1:Shared}{H:Hp}{E:XK}{us:Vv}{vs:List V}(ht:1<=s1.toks)
  (S:b5 N ps scope) (hd:cm=true->A.handled=none) (e0:M_ P w K mg base A outer s H) (hl:vs.length=ps.length) (r:Vals vs us)
  (x:InCallC s s.heap.objs.size (bindL (envOfC qual scope s.heap.objs.size f cd).kindOf (ps.zip us) λ_=>none) (cellsFrom (s.heap.objs.size+1) scope.names []) (bindC (envOfC qual scope s.heap.objs.size f cd).kindOf (ps.zip us) λ_=>none) s1) :
  Inv (gH cm CX P w K mg base N qual scope f cd A outer s H E) [] (fh N vs) H s1:=by
 have hpl:ps.length<=N.length:=by have:=U4 List.length S.pre;rw[VH]at this;omega
 obtain⟨h1,tk,rfl,hk⟩:=x.done
 have P1:∀b:Addr,b ∉ (gH cm CX P w K mg base N qual scope f cd A outer s H E).ex:=λb z=>absurd (show b∈([]:List Addr)from z) (by simp)
 refine⟨⟨e0.mod,S.kind,rfl,rfl,UH _,λy z c h1 h2=>?_,λy hy=>?_,λy c _ h=>?_,hd,Around.frames_deeper e0.frames,.inr ⟨rfl,rfl⟩,λb z=>absurd z (P1 b),e0.bs,e0.MH,λb _ _=>P1 b,λb z=>absurd z (P1 b),e0.KB,e0.M6⟩,
  rfl,e0.bare,Un.kept hk,⟨_,x.toInCall.ns,λi y v h1 h2 h3=>?_⟩,λy c h=>⟨_,x.cell y c h⟩,e0.hok.fresh (UH _),λy c h=>?_,λp hp=>absurd (show p∈([]:Va)from hp) (by simp),e0.hok.kept hk,?_,ht⟩
 .exact name_of_addr x.apart (Wn h1) (Wn h2)
 .have hy:scope.names.lookup y=some .cell\/scope.names.lookup y=some .free:=hy
  rcases hy with hy|hy
  .exact o7 hy
  .exact absurd rfl (S.Pb _ (Wn hy))
 .exact Xi (x.above y c (Wn h))
 .have hi:i < vs.length:=by
   unfold fh at h2
   by_cases hi:i < vs.length
   .exact hi
   .rw[Wj (by simpa using hi)]at h2
    rw[Wx]at h2
    split at h2<;>cases h2
  have ha:vs[i]?=some v:=by
   unfold fh at h2
   rw[V6 (by simpa using hi),U7]at h2
   cases e:vs[i]? with
   |none=>rw[e]at h2;cases h2
   |some a=>rw[e]at h2;cases h2;rfl
  obtain⟨u,hu,rv⟩:=r.get ha
  have hp:ps[i]?=some y:=by
   rw[<-S.pre,List.getElem?_take_of_lt (by omega)];exact h1
  have Sg:ps.Nodup:=by rw[<-S.pre];exact S.nd.sublist (Yz _ _)
  refine⟨u,rv,?_⟩
  rcases S.par y (VC hp)with k|k
  .exact .inl ⟨k,ma Sg hp hu k⟩
  .obtain⟨c,e⟩:=o7 (n:=s.heap.objs.size+1) k
   refine .inr ⟨.inl k,c,e,?_⟩
   have q:=x.cell y c e
   rw[md Sg hp hu (by show scope.names.lookup y≠_;rw[k];decide)]at q
   exact q
 .exact e0.hok.fresh (Xi (x.above y c (Wn h)))
 .unfold fh
  show _=N.length
  rw[UK,UJ,Wb]
  omega
def vC{fd:FuncData}{ps:Vs}{us:Vv}(h:FL fd ps)(hl:us.length=ps.length):∃n v r,ps.zip us=(n,v)::r/\fd.scope.names.lookup n=some .local:=by
 cases ps with
 |nil=>exact h.elim
 |cons n r=>cases us with
  |nil=>cases hl
  |cons v us=>exact⟨n,v,_,rfl,h⟩
def Hz{M:Model}{A:Around}{E:Vq}{s₀ s:Shared}{m cm:Vr}{env:Env}{n:Str}{v:Value}{Q:Unit->Shared->Prop}(x:InCallC s₀ env.locals m env.cells cm s)(hk:env.scope.kind = .function)(hl:env.kindOf n=some .local)
  (h:∀s',InCallC s₀ env.locals (λy=>if y=n then some v else m y) env.cells cm s'->1<=s'.toks->Q () s'):wpAny M A (storeName env n v) Q E s:=by
 refine wpAny_storeName_local hl x.toInCall.ns (λh' hn' hs'=>h _ ⟨⟨?_,hn',λb o e=>?_,x.toInCall.fresh⟩,λk c hc=>?_,x.apart,x.above⟩ (V0 (UZ _))) (by rw[hk];rfl)
 .obtain⟨h₁,tk,rfl⟩:=x.toInCall.same
  exact⟨h',_,rfl⟩
 .exact hs'.extBut b o (Vm (UU (US e) x.toInCall.fresh)) (x.toInCall.keep b o e)
 .exact(x.cell k c hc).sameBut hs' (WA (x.above k c (mem_of_lookup hc)))
def vD{M:Model}{A:Around}{E:Vq}{s:Shared}{scope:Scope}{globals:Addr}{binds:List (Str×Value)}{qual:Str}{func:Option Addr}{code:Value}{builtins:Addr}{Q:Env->Shared->Prop}
  (ht:1<=s.toks\/∃n v r,binds=(n,v)::r/\scope.names.lookup n=some .local) (hk:scope.kind = .function)
  (hkind:∀x∈binds,scope.names.lookup x.1=some .local\/(scope.names.lookup x.1=some .cell/\((cellsFrom (s.heap.objs.size+1) scope.names []).lookup x.1).isSome=true))
  (hQ:∀env,env=newEnv scope s.heap.objs.size globals (cellsFrom (s.heap.objs.size+1) scope.names []) qual func code none builtins->
   ∀s',InCallC s env.locals (bindL env.kindOf binds λ_=>none) env.cells (bindC env.kindOf binds λ_=>none) s'->1<=s'.toks->Q env s') :
  wpAny M A (newFunctionEnv scope globals [] binds qual func code none builtins) Q E s:=by
 rcases ht with ht|⟨n,v,r,rfl,hl⟩
 .exact Vg ht (wpAny_newFunctionEnv_cells hk hkind λenv he s' x ht=>hQ env he s' x ht)
 .simp only[newFunctionEnv,Option.isSome_none,UR,Vx]
  refine UD (wpAny_alloc ?_)
  refine UD (wpAny_layCells _ (λname kind cells=>by cases hkc:kind == NameKind.cell<;>simp[hkc]) _ _ _ _ ?_)
  have ok:=cellsFrom_ok scope.names (s.heap.push { cls:=.type "frame",data:=.dict #[] }) (s.heap.objs.size+1) [] ⟨λ_ _ hm=>(nomatch hm),List.Pairwise.nil⟩ (by rw[Wk];exact UH _)
  rw[Wk]at ok
  rw[show({ s with heap:=s.heap.push { cls:=.type "frame",data:=.dict #[] } }:Shared).heap.objs.size=s.heap.objs.size+1 from Wk ..]
  rw[Xz]
  refine UD (UD (UD (Hz (s₀:=s) (env:=newEnv scope s.heap.objs.size globals (cellsFrom (s.heap.objs.size+1) scope.names []) qual func code none builtins)
   ⟨⟨⟨_,_,rfl⟩,(Heap.Ns.new s.heap (.type "frame")).keeps (pushCells_keeps _ _),λb o e=>pushCells_keeps _ _ b o (UG _ e),UH _⟩,
   λn c hc=>(ok.empty n c (mem_of_lookup hc)).1,ok.apart,λn c hm=>(ok.empty n c hm).2⟩ hk hl λs' x' ht=>UL ?_)))
  refine Vg ht (wpAny_bindParams (s₀:=s) (env:=newEnv scope s.heap.objs.size globals (cellsFrom (s.heap.objs.size+1) scope.names []) qual func code none builtins) _ (λ_ _ _=>rfl) hk r _ _ s' _ x' (λy hy=>hkind y (UP _ hy)) λs'' x'' ht=>UL (hQ _ rfl s'' ?_ ht))
  have hl':(newEnv scope s.heap.objs.size globals (cellsFrom (s.heap.objs.size+1) scope.names []) qual func code none builtins).kindOf n=some .local:=hl
  unfold bindL bindC
  rw[if_pos hl',if_pos hl']
  exact x''
def BH{cm:Bool}{CX:vy}{P:Program}{w:World}{K:Vo}{mg:Vr}{base:Heap}{k:Nat}{f:Addr}{name qual:Str}{params:Arguments}{body:List Stmt}{scope:Scope}{dV kV doc pm cdv ct oc:Value}{an od:Option Addr}
  {osl:Array (Option Value)} {N ps:Vs} {sp:Sp} (lk:K.lookup f=some ⟨oc,od,.func (PySem.W.fnOf name qual params body scope dV kV doc pm an cdv ct),osl⟩) (hcd:PySem.W.codeIn K cdv qual=true) (S:b5 N ps scope)
  (len:∀vs H Q E,sp vs H Q E->vs.length=ps.length)
  (hbody:∀(A:Around)(outer:List Env)(s:Shared)(H:Hp)(vs:List V)(Q:VK)(E:XK),RoomG cm k (A.deeper (envOfC qual scope s.heap.objs.size f cdv))->sp vs H Q E->
   ∃t,Mk (gH cm CX P w K mg base N qual scope f cdv A outer s H E) body t/\t { nx:=λ_ H'=>Q .non H',rt:=Q } (fh N vs) H) :
  gG cm P w K mg base CX (k+1) f (PySem.W.fnOf name qual params body scope dV kV doc pm an cdv ct) ps sp:=by
 refine⟨len,λA outer s H args us vs Q E hr ht0 e0 hb r NW=>?_⟩
 have hl:=len _ _ _ _ NW
 have KX:K.In s.heap:=e0.mod.PU.keeps λb o e=>(e0.bs b o e).1
 have lim:s.heap.NoLimit:=e0.mod.nolimit.keeps λb o e=>(e0.bs b o e).1
 have hkind:∀y∈ps.zip us,scope.names.lookup y.1=some .local\/(scope.names.lookup y.1=some .cell/\((cellsFrom (s.heap.objs.size+1) scope.names []).lookup y.1).isSome=true):=λ⟨n,v⟩ hy=>by
  rcases S.par n (List.of_mem_zip hy).1 with q|q
  .exact .inl q
  .exact .inr ⟨q,PySem.W.cellsFrom_some _ _ _ (.inl q)⟩
 refine codeAny_call_function hr.depth (KX _ _ lk) rfl S.co S.gen rfl (PySem.W.codeRec_of KX hcd) (hb _ _ _ _ ?_)
 refine vD (ht0.imp id λz=>vC z (by rw[<-r.length,hl])) S.kind hkind λenv he s1 x htk=>?_
 subst he
 refine⟨lim.keeps x.toInCall.keep,codeAny_func ?_⟩
 obtain⟨t,ht,hq⟩:=hbody A outer s H vs Q E (hr.deeper _) NW
 have I:Inv (gH cm CX P w K mg base N qual scope f cdv A outer s H E) [] (fh N vs) H s1:=tZ htk S hr.hd e0 hl r x
 refine V8 (ht [] s1 (fh N vs) H _ I hq) (λfl s' hs=>?_) λe s' hs=>hs
 have fin:∀{σ':St} {H':Hp} {v:V} {u:Value},Inv (gH cm CX P w K mg base N qual scope f cdv A outer s H E) [] σ' H' s'->RelV v u->Q v H'->CE outer P w H s Q u s':=
  λ{σ' H' v u} J rv q=>⟨v,H',J.os,J.bare,J.base,J.hok,rv,q⟩
 cases fl with
 |ret u=>
  obtain⟨v,σ',H',J,rv,q⟩:=hs
  exact fin J rv q
 |next=>
  obtain⟨σ',H',J,q⟩:=hs
  exact fin (v:=V.non) (u:=Value.none) J rfl q
 |brk=>
  obtain⟨_,_,_,q⟩:=hs
  exact False.elim q
 |cont=>
  obtain⟨_,_,_,q⟩:=hs
  exact False.elim q
section
variable {X:Cx}{x:Str}{p pos:Pos}{e:Expr}{es:List Expr}{t:TA}{id T:String}{r:List V->Hp->VK->Prop}
def IP(r:List V->Hp->VK->Prop)(t:TA):TE:=λσ H Q=>t σ H λvs H1=>r vs H1 Q
def vE(hc:dg X (.builtin id) r)(hg:Gl X x)(hm:X.mg x=none)(hv:bootBuiltins x=some (.builtin id))(ha:PA X (e::es) t)(hn:x ≠ "__name__":=by decide)(hdb:(x == ("__debug__":Str))=false:=by decide)
  (he:starEach (e::es) X.env=(false,eval e X.env)::starEach es X.env:=by rfl) (hpl:(backTo pos (starEach es X.env)).any (·.1)=false:=by rfl):PE X (.Call (.Name x p) (e::es) [] pos) (IP r t):=by
 walk_at "7"
 refine Wg (ef I hg hm hv ?_ hn hdb)
 exact PyProof.Rows.callWith_builtin1 (JN (ha pos pins s σ H _ I h) λus s1 ⟨vs,H1,I1,r1,q1⟩=>hc pins s1 σ H1 vs us Q I1 r1 q1) he hpl
def t0(hc:dg X (.type T) r)(hg:Gl X x)(hm:X.mg x=none)(hv:bootBuiltins x=some (.type T))(ha:PA X (e::es) t)(hn:x ≠ "__name__":=by decide)(hdb:(x == ("__debug__":Str))=false:=by decide)
  (he:starEach (e::es) X.env=(false,eval e X.env)::starEach es X.env:=by rfl) (hpl:(backTo pos (starEach es X.env)).any (·.1)=false:=by rfl):PE X (.Call (.Name x p) (e::es) [] pos) (IP r t):=by
 walk_at "7"
 refine Wg (ef I hg hm hv ?_ hn hdb)
 exact VO (JN (ha pos pins s σ H _ I h) λus s1 ⟨vs,H1,I1,r1,q1⟩=>hc pins s1 σ H1 vs us Q I1 r1 q1) he hpl
end
end L2
namespace HT
open PySem PyProof.Rows
section
open PySem.SeqAt
open PySem.AutoSeq1 (wpAny_loadPart')
open PySem.MeetsSeq PySem.MeetsSeq2 PySem.MeetsSeq3
end
section
variable {prog:Program}{w:World}{A:Around}{E:Vq}{s:Shared}
def zH{t b:Addr}{vs ws:Vv}{Q:Vq}(ht:IsTup s.heap t vs.toArray)(hb:IsTup s.heap b ws.toArray)(hv:vs≠[])
  (h1:ws=[]->Q (.ref t) s) (h2:ws≠[]->Q (.ref s.heap.objs.size) { s with heap:=s.heap.push { cls:=.type "tuple",data:=.seq (vs++ws).toArray } })
  (hsz:vs.length+ws.length<=sizeLine):wpAny (model prog w) A (binaryOp .Add (.ref t) (.ref b)) Q E s:=by
 obtain⟨⟨cls,dd,data,sl⟩,ho,hc,n,hd⟩:=id ht
 obtain⟨⟨Q9,dd2,data2,sl2⟩,ho2,hc2,n2,hd2⟩:=id hb
 simp only at hc hd hc2 hd2
 subst hc hd hc2 hd2
 have e:vs.toArray++ws.toArray=(vs++ws).toArray:=by simp
 by_cases hw:ws=[]
 .exact concat_meets ⟨_,ho,rfl⟩ ⟨_,ho2,rfl⟩ noFill_tuple_add seq_tuple_add XM XH (Xv _ _)
   (tuple_addW1 t b vs.toArray ws.toArray n n2 dd dd2 sl sl2 (by simpa using hv) (by simp[hw])) ⟨ho,ho2,h1 hw⟩
 .refine concat_meets ⟨_,ho,rfl⟩ ⟨_,ho2,rfl⟩ noFill_tuple_add seq_tuple_add XM XH (Xv _ _)
   (tuple_addW2 t b vs.toArray ws.toArray n n2 dd dd2 sl sl2 (by simpa using hv) (by simpa using hw) (by rw[UX,UX];exact hsz)) ⟨ho,ho2,?_⟩
  rw[e]
  exact h2 hw
noncomputable def JY(n d:Nat):Option Int->Nat
 |none=>d
 |some v=>if v < 0 then (v+(n:Int)).toNat else min v.toNat n
def kz(n d:Nat):JY n d none=d:=rfl
def im(n d k:Nat):JY n d (some (k:Int))=min k n:=by
 show(if (k:Int) < 0 then ((k:Int)+(n:Int)).toNat else min (k:Int).toNat n)=min k n
 rw[if_neg (by omega),XN]
def CU(n d:Nat)(hd:d<=n)(o:Option Int):JY n d o<=n:=by
 cases o with
 |none=>exact hd
 |some v=>
  show(if v < 0 then (v+(n:Int)).toNat else min v.toNat n)<=n
  by_cases hv:v < 0
  .rw[if_pos hv];omega
  .rw[if_neg hv];exact Yc _ _
def r9(v:Int)(n d:Nat):(if v < 0 then max (v+(n:Int)) 0 else min v (n:Int))=((JY n d (some v):Nat):Int):=by
 show(if v < 0 then max (v+(n:Int)) 0 else min v (n:Int))=(((if v < 0 then (v+(n:Int)).toNat else min v.toNat n):Nat):Int)
 by_cases hv:v < 0
 .simp only[if_pos hv];omega
 .simp only[if_neg hv];omega
def qD(lo hi:Option Int)(n:Nat):Builtin.Slice.sliceAdjust lo hi 1 (n:Int)=(((JY n 0 lo:Nat):Int),((JY n n hi:Nat):Int)):=by
 have h1:¬((1:Int) < 0):=by omega
 unfold Builtin.Slice.sliceAdjust
 simp only[h1,Vx]
 refine Prod.ext ?_ ?_
 .cases lo with
  |none=>rfl
  |some v=>exact r9 v n 0
 .cases hi with
  |none=>rfl
  |some v=>exact r9 v n n
def qE(i j:Nat):Builtin.Slice.slicePlaces (i:Int) (j:Int) 1=j - i:=by
 unfold Builtin.Slice.slicePlaces
 have h1:(1:Int) > 0:=by omega
 simp only[h1,VL,Int.ediv_one]
 split<;>omega
def kA{v:Value}{o:Option Int}{Q:Option Int->Shared->Prop}(p:IsPart v o)(h:Q o s):wpAny (model prog w) A (Builtin.Slice.slicePartIndex v) Q E s:=by
 cases p with
 |none=>exact slicePart_none h
 |int i t=>exact slicePart_int h
def dZ{sl:Addr}{vl vu:Value}{lo hi:Option Int}{n:Nat}{Q:Int×Int×Nat->Shared->Prop}(hs:s.heap.IsSliceOf sl vl vu .none)(pl:IsPart vl lo)(pu:IsPart vu hi)
  (h:Q (((JY n 0 lo:Nat):Int),1,JY n n hi - JY n 0 lo) s):wpAny (model prog w) A (Builtin.Slice.sliceApplied (.ref sl) (pure (n:Int))) Q E s:=by
 obtain⟨os,hos,hcs,hds⟩:=id hs
 unfold Builtin.Slice.sliceApplied Builtin.Slice.sliceFields
 refine UD (UD (Vt hos hds (x:=vl) rfl (UD (Vt hos hds (x:=vu) rfl (UD (Vt hos hds (x:=.none) rfl (UL ?_)))))))
 refine UD (slicePart_none ?_)
 show wpAny _ _ (if ((1:Int) == 0)=true then _ else _) _ _ s
 rw[if_neg (by decide)]
 refine UD (kA pl (UD (kA pu (UD (UL ?_)))))
 show wpAny _ _ (match Builtin.Slice.sliceAdjust lo hi 1 (n:Int)with|(lo,hi)=>pure (lo,(1:Int),Builtin.Slice.slicePlaces lo hi 1)) _ _ s
 rw[qD lo hi n]
 show wpAny _ _ (pure (((JY n 0 lo:Nat):Int),(1:Int),Builtin.Slice.slicePlaces ((JY n 0 lo:Nat):Int) ((JY n n hi:Nat):Int) 1)) _ _ s
 rw[qE]
 exact UL h
def vF(xs:Vw)(i k:Nat):((List.range k).filterMap λ(m:Nat)=>xs[((i:Int)+(m:Int) * 1).toNat]?).toArray=((xs.toList.drop i).take k).toArray:=by
 have e:(λ(m:Nat)=>xs[((i:Int)+(m:Int) * 1).toNat]?)=λm=>xs[i+m]?:=by
  funext m
  have:((i:Int)+(m:Int) * 1).toNat=i+m:=by omega
  rw[this]
 rw[e]
 have:=pick_run xs i k
 rw[List.filterMap_map]at this
 have e2:((λx=>xs[x]?) ∘ λx=>i+x)=λm=>xs[i+m]?:=rfl
 rw[e2]at this
 rw[this]
def io{t sl:Addr}{items:Vw}{vl vu:Value}{lo hi:Option Int}{Q:Vq}(ht:IsTup s.heap t items)(hs:s.heap.IsSliceOf sl vl vu .none)(pl:IsPart vl lo)(pu:IsPart vu hi)
  (hw:¬(JY items.size 0 lo=0/\JY items.size items.size hi=items.size))
  (h:Q (.ref s.heap.objs.size) { s with heap:=s.heap.push { cls:=.type "tuple",data:=.seq ((items.toList.drop (JY items.size 0 lo)).take (JY items.size items.size hi - JY items.size 0 lo)).toArray } })
  (hsz:items.size<=sizeLine):wpAny (model prog w) A (getItem (.ref t) (.ref sl)) Q E s:=by
 have Nn:sizeOk (.seq ((items.toList.drop (JY items.size 0 lo)).take (JY items.size items.size hi - JY items.size 0 lo)).toArray):=by
  show((items.toList.drop (JY items.size 0 lo)).take (JY items.size items.size hi - JY items.size 0 lo)).toArray.size<=sizeLine
  rw[UX,VH,Wt,Xr]
  omega
 have hj:JY items.size items.size hi<=items.size:=CU _ _ (UH _) hi
 obtain⟨os,hos,hcs,hds⟩:=id hs
 have Q_:s.TypeIs (.ref sl) "slice":=⟨os,hos,hcs⟩
 unfold getItem
 try with_reducible refine We ?_
 first|refine UD (UL ?_)|skip
 refine UD (wpAny_sequenceKey ht.typeIs (by decide) ?_)
 refine UD (Wi (name:=Str.ofString "__getitem__") ht.typeIs VP
  (WW VP ht.typeIs entry_tuple_getitem ?_ (args_tuple_getitem _ _)))
 show wpAny _ _ (Builtin.Tuple.tupleItemsOf (.ref t) >>= _) _ _ s
 refine UD (tupleItemsOf_ ht ?_)
 refine UD (wpAny_typeOf Q_ ?_)
 rw[if_pos (by decide)]
 refine UD (dZ hs pl pu ?_)
 have hno:¬((((JY items.size 0 lo:Nat):Int) == 0&&(1:Int) == 1&&(JY items.size items.size hi - JY items.size 0 lo) == items.size)=true):=by
  intro q
  rw[Vl,Vl]at q
  have q1:((JY items.size 0 lo:Nat):Int)=0:=eq_of_beq q.1.1
  have q2:JY items.size items.size hi - JY items.size 0 lo=items.size:=eq_of_beq q.2
  exact hw ⟨by omega,by omega⟩
 show wpAny _ _ (if (((JY items.size 0 lo:Nat):Int) == 0&&(1:Int) == 1&&(JY items.size items.size hi - JY items.size 0 lo) == items.size)=true then _ else _) _ _ s
 rw[if_neg hno,vF]
 first
  |exact UD (m:=Builtin.Tuple.tupleExact _) (Wa (UL ⟨_,rfl,UL h⟩) Nn)
  |exact UD (m:=Builtin.Tuple.tupleExact _) (Wa (UD (UL (UL ⟨_,rfl,UL h⟩))) Nn)
  |exact UD (UD (m:=Builtin.Tuple.tupleExact _) (Wa (UL (UL ⟨_,rfl,UL h⟩)) Nn))
  |exact UD (UD (m:=Builtin.Tuple.tupleExact _) (Wa (UL ⟨_,rfl,UL h⟩) Nn))
end
end HT
namespace L2
open PySem PySem.Spec PyProof.Rows
abbrev TO:=St->Hp->(Option Int->Hp->Prop)->Prop
def PO(X:Cx)(e:Option Expr)(t:TO):Prop:=
 ∀(pins:Va)(s:Shared)(σ:St)(H:Hp)(Q:Option Int->Hp->Prop),Inv X pins σ H s->t σ H Q->
  wpAny (model X.prog X.w) X.A (evalPart e X.env) (λu s'=>∃o H',Inv X pins σ H' s'/\IsPart u o/\Q o H') X.xe s
noncomputable def zI:TO:=λ_ H Q=>Q none H
noncomputable def FG(t:TE):TO:=λσ H Q=>t σ H λx H1=>∃i,x = .int i/\Q (some i) H1
section
variable {X:Cx}{e:Expr}{te:TE}{lo hi:Option Expr}{tl th:TO}{pos p2:Pos}
def zJ:PO X none zI:=by
 walk_at "7"
 rw[evalPart_none]
 exact UL ⟨none,H,I,.none,h⟩
def zK(h:PE X e te):PO X (some e) (FG te):=by
 intro pins s σ H Q I hw
 rw[evalPart_some]
 refine JN (h pins s σ H _ I hw) λu s1 ⟨x,H1,I1,r1,q1⟩=>?_
 obtain⟨i,rfl,q⟩:=q1
 obtain⟨t,rfl⟩:=r1
 exact⟨some i,H1,I1,.int i t,q⟩
def E7(X:Cx)(r:V->Option Int->Option Int->Hp->VK->Prop):Prop:=
 ∀(pins:Va)(s:Shared)(σ:St)(H:Hp)(x:V)(v vl vu:Value)(lo hi:Option Int)(sl:Addr)(Q:VK),Inv X pins σ H s->RelV x v->s.heap.IsSliceOf sl vl vu .none->IsPart vl lo->IsPart vu hi->r x lo hi H Q->
  ∃T id,typeLookup (.type T) "__getitem__" = pure (some (.builtin id))/\s.TypeIs v T/\wpAny (model X.prog X.w) X.A (getItem v (.ref sl)) (EP X pins σ Q) X.xe s
def Ji(r:V->Option Int->Option Int->Hp->VK->Prop)(te:TE)(tl th:TO):TE:=λσ H Q=>te σ H λx H1=>tl σ H1 λl H2=>th σ H2 λu H3=>r x l u H3 Q
def vG{r:V->Option Int->Option Int->Hp->VK->Prop}(hr:E7 X r)(he:PE X e te)(hl:PO X lo tl)(hu:PO X hi th):PE X (.Subscript e (.Slice lo hi none p2) pos) (Ji r te tl th):=by
 walk_at "7"
 refine Subscript_ (JN (he pins s σ H _ I h) λv s1 ⟨x,H1,I1,r1,q1⟩=>?_)
 refine wpAny_Slice (JN (hl pins s1 σ H1 _ I1 q1) λvl s2 ⟨l,H2,I2,pl,q2⟩=>JN (hu pins s2 σ H2 _ I2 q2) λvu s3 ⟨u,H3,I3,pu,q3⟩=>?_)
 rw[evalPart_none]
 refine UL ?_
 have I4:Inv X pins σ H3 { s3 with heap:=s3.heap.push { cls:=.type "slice",data:=.fields #[vl,vu,.none] } }:=I3.kept (t':=s3.toks) λb ob q=>UG _ q
 obtain⟨T,id,hT,ht,hg⟩:=hr pins { s3 with heap:=s3.heap.push { cls:=.type "slice",data:=.fields #[vl,vu,.none] } } σ H3 x v vl vu l u s3.heap.objs.size Q I4 r1 (Heap.IsSliceOf.new ..) pl pu q3
 show wpAny (model X.prog X.w) X.A (subscriptTail e (.Slice lo hi none p2) v (.ref s3.heap.objs.size)) (EP X pins σ Q) X.xe { s3 with heap:=s3.heap.push { cls:=.type "slice",data:=.fields #[vl,vu,.none] } }
 exact tail_any (ops:=[.ref s3.heap.objs.size,v]) ht hT hg (by with_unfolding_all rfl)
noncomputable def kB(xs:List V)(lo hi:Option Int):List V:=(xs.drop (HT.JY xs.length 0 lo)).take (HT.JY xs.length xs.length hi - HT.JY xs.length 0 lo)
def jA(xs:List V)(lo hi:Option Int):(kB xs lo hi).length<=xs.length:=by
 unfold kB
 rw[VH,Wt]
 omega
noncomputable def HA(K:Vo):V->Option Int->Option Int->Hp->VK->Prop:=λx lo hi H Q=>∃a xs,x = .ref a/\SqT K H a xs/\
 ¬(HT.JY xs.length 0 lo=0/\HT.JY xs.length xs.length hi=xs.length)/\∀p,H p=none->Q (.ref p) (upd H p (.tup (kB xs lo hi)))
def CV:E7 X (HA X.K):=by
 intro pins s σ H x v vl vu lo hi sl Q I rx hs pl pu h
 obtain⟨a,xs,rfl,hx,hw,q⟩:=h
 cases rx
 obtain⟨its,r,ht,hz⟩:=I.tuple hx
 have hlen:its.toArray.size=xs.length:=by rw[UX];exact r.length.symm
 refine⟨"tuple",_,VP.lookup,ht.typeIs,?_⟩
 refine HT.io ht hs pl pu (by rw[hlen];exact hw) ?_ (by rw[hlen];exact hz)
 rw[hlen]
 refine⟨.ref s.heap.objs.size,_,I.laid (t':=s.toks) (o:=.tup (kB xs lo hi)) (λb ob q=>UG _ q) (UH _) ?_,rfl,q _ (I.hok.fresh (UH _))⟩
 exact⟨UN (jA xs lo hi) hz,_,(r.drop (HT.JY xs.length 0 lo)).take (HT.JY xs.length xs.length hi - HT.JY xs.length 0 lo),KA.new _ _⟩
def FH(K:Vo):R2:=λx y H Q=>∃a b xs ys,x = .ref a/\y = .ref b/\SqT K H a xs/\SqT K H b ys/\xs≠[]/\xs.length+ys.length<=sizeLine/\
 (ys=[]->Q (.ref a) H)/\(ys≠[]->∀p,H p=none->Q (.ref p) (upd H p (.tup (xs++ys))))
def Vals.My{xs:List V}{us:Vv}(r:Vals xs us):us=[]↔xs=[]:=by
 cases r with
 |nil=>simp
 |cons _ _=>simp
def zL:gi X (binaryOp .Add) (FH X.K):=by
 walk_at "3"
 obtain⟨a,b,xs,ys,rfl,rfl,ha,hb,hx,hz,q1,q2⟩:=h
 cases rx
 cases ry
 obtain⟨its,r1,p1,_⟩:=I.tuple ha
 obtain⟨its2,r2,p2,_⟩:=I.tuple hb
 refine HT.zH p1 p2 (λz=>hx (r1.My.mp z)) (λz=>⟨.ref a,H,I,rfl,q1 (r2.My.mp z)⟩) (λz=>?_) (by rw[<-r1.length,<-r2.length];exact hz)
 refine⟨.ref s.heap.objs.size,_,I.laid (t':=s.toks) (o:=.tup (xs++ys)) (λb ob q=>UG _ q) (UH _) ?_,rfl,q2 (λw=>z (r2.My.mpr w)) _ (I.hok.fresh (UH _))⟩
 exact⟨by rw[UK];exact hz,_,r1.append r2,KA.new _ _⟩
end
noncomputable def r_(n:Nat)(i:Int):Option Nat:=if 0<=i then (if i < n then some i.toNat else none) else if -(n:Int)<=i then some (i+n).toNat else none
noncomputable def Kn{α:Type}(xs:List α)(i:Int):Option α:=(r_ xs.length i).bind λj=>xs[j]?
def sd{n:Nat}{i:Int}{j:Nat}(h:r_ n i=some j):seqIndex? i n=some j/\j < n/\-(n:Int)<=i/\i < n:=by
 unfold r_ at h
 by_cases h0:0<=i
 .rw[if_pos h0]at h
  by_cases h1:i < n
  .rw[if_pos h1]at h
   have e:i.toNat=j:=VY h
   exact⟨by rw[seqIndex_of h0 h1,e],by omega,by omega,h1⟩
  .rw[if_neg h1]at h;cases h
 .rw[if_neg h0]at h
  by_cases h1:-(n:Int)<=i
  .rw[if_pos h1]at h
   have e:(i+n).toNat=j:=VY h
   exact⟨by rw[seqIndex_neg (by omega) h1,e],by omega,h1,by omega⟩
  .rw[if_neg h1]at h;cases h
def mV{α:Type}{xs:List α}{i:Int}{v:α}(h:Kn xs i=some v):∃j,seqIndex? i xs.length=some j/\xs[j]?=some v/\j < xs.length/\-(xs.length:Int)<=i/\i < xs.length:=by
 unfold Kn at h
 cases e:r_ xs.length i with
 |none=>rw[e]at h;cases h
 |some j=>
  rw[e]at h
  obtain⟨h1,h2,h3,h4⟩:=sd e
  exact⟨j,h1,h,h2,h3,h4⟩
def b6{α:Type}{xs:List α}{j:Nat}{v:α}(h:xs[j]?=some v):Kn xs (j:Int)=some v:=by
 have hj:j < xs.length:=(U3.mp h).1
 have e:r_ xs.length (j:Int)=some j:=by
  unfold r_
  rw[if_pos (by omega),if_pos (by omega)];simp
 unfold Kn;rw[e];exact h
def vH{α:Type}(xs:List α)(v:α):Kn (xs++[v]) (-1)=some v:=by
 have hl:(xs++[v]).length=xs.length+1:=by simp
 have e:r_ (xs++[v]).length (-1)=some xs.length:=by
  unfold r_
  rw[hl,if_neg (by decide),if_pos (by omega)]
  congr 1
  omega
 unfold Kn
 rw[e]
 show(xs++[v])[xs.length]?=some v
 simp
def ip(b:Expr):Prop:=∀o i,subscripted b false o i=operate [o,i] (getItem o i)
def CW(X:Cx)(r:R2):Prop:=
 ∀(value slice:Expr)(pins:Va)(s:Shared)(σ:St)(H:Hp)(x y:V)(v u:Value)(Q:VK),Inv X pins σ H s->RelV x v->RelV y u->r x y H Q->
  subscripted slice false v u=operate [v,u] (getItem v u)->wpAny (model X.prog X.w) X.A (subscriptTail value slice v u) (EP X pins σ Q) X.xe s
def CZ(X:Cx)(id:String)(r:V->List V->Hp->VK->Prop):Prop:=
 ∀(pins:Va)(s:Shared)(σ:St)(H:Hp)(x:V)(xs:List V)(v:Value)(us:Vv)(Q:VK),Inv X pins σ H s->RelV x v->Vals xs us->r x xs H Q->
  wpAny (model X.prog X.w) X.A (call (.builtin id) (v::us)) (EP X pins σ Q) X.xe s
section
variable {X:Cx}{a b:Expr}{ta tb:TE}{pos:Pos}
def BI{r:R2}(hr:CW X r)(ha:PE X a ta)(hb:PE X b tb)(hs:ip b):PE X (.Subscript a b pos) (Fx r ta tb):=by
 walk_at "7"
 exact Subscript_ (CI ha hb I h λv u s2 x y H2 I2 rx ry q=>hr a b pins s2 σ H2 x y v u Q I2 rx ry q (hs _ _))
def HB(K:Vo):R2:=λx y H Q=>∃p xs i v,x = .ref p/\y = .int i/\SqL K H p xs/\Kn xs i=some v/\Q v H
def HC(K:Vo):R2:=λx y H Q=>∃p xs i v,x = .ref p/\y = .int i/\SqT K H p xs/\Kn xs i=some v/\Q v H
def HD:R2:=λx y H Q=>∃z i c,x = .str z/\y = .int i/\z.length<=sizeLine/\Kn z.cps.toList i=some c/\Q (.str ⟨#[c]⟩) H
def sf:CW X (HB X.K):=by
 intro value slice pins s σ H x y v u Q I rx ry h hs
 obtain⟨p,xs,i,z,rfl,rfl,hq,he,q⟩:=h
 cases rx
 obtain⟨t,rfl⟩:=ry
 obtain⟨its,r,pl,hz⟩:=I.list hq
 obtain⟨j,h1,h2,h3,h4,h5⟩:=mV he
 obtain⟨w,ew,rw'⟩:=r.get h2
 have hl:=r.length
 have hn:=i0
 have fin:EP X pins σ Q w s:=⟨z,H,I,rw',q⟩
 by_cases h0:0<=i
 .have hj:i.toNat=j:=by
   rw[seqIndex_of h0 h5]at h1
   exact VY h1
  exact item_listR pl.isList h0 (by omega) (by rw[hj];simpa using ew) fin hs
 .have hj:(i+(its.toArray.size:Int)).toNat=j:=by
   rw[seqIndex_neg (by omega) h4]at h1
   rw[UX,<-hl]
   exact VY h1
  exact subscriptTail_builtinR (x:=w) pl.isList.typeIs slot_list_getitem.lookup
   (wpAny_getItem_list_neg (Q:=λr s'=>r=w/\EP X pins σ Q r s') pl.isList (by omega) (by rw[UX]<;>omega) (by omega) (by rw[hj];simpa using ew) ⟨rfl,fin⟩) hs
def C0:CW X (HC X.K):=by
 intro value slice pins s σ H x y v u Q I rx ry h hs
 obtain⟨p,xs,i,z,rfl,rfl,hq,he,q⟩:=h
 cases rx
 obtain⟨t,rfl⟩:=ry
 obtain⟨its,r,pl,hz⟩:=I.tuple hq
 obtain⟨j,h1,h2,h3,h4,h5⟩:=mV he
 obtain⟨w,ew,rw'⟩:=r.get h2
 have hl:=r.length
 have hn:=i0
 have fin:EP X pins σ Q w s:=⟨z,H,I,rw',q⟩
 exact subscriptTail_builtinR (x:=w) pl.typeIs slot_tuple_getitem.lookup
  (getItem_tuple (j:=j) (Q:=λr s'=>r=w/\EP X pins σ Q r s') pl (by omega) (by omega) (by rw[UX,<-hl];exact h1) (by simpa using ew) ⟨rfl,fin⟩) hs
def C1:CW X HD:=by
 intro value slice pins s σ H x y v u Q I rx ry h hs
 obtain⟨z,i,c,rfl,rfl,hz,he,q⟩:=h
 obtain⟨t,rfl⟩:=rx
 obtain⟨t',rfl⟩:=ry
 obtain⟨j,h1,h2,h3,h4,h5⟩:=mV he
 have hl:z.cps.toList.length=z.length:=by simp[Str.length]
 rw[hl]at h1 h4 h5
 have hn:=i0
 exact tail_any (XA s z t) slot_str_getitem.lookup (getItem_str (c:=c) (by
  have e1:decide (i < -(2 ^ 63:Int))=false:=UO (by omega)
  have e2:decide (i>=2 ^ 63)=false:=UO (by omega)
  rw[e1,e2,Bool.or_false]) (by rw[h1];simpa using h2) ⟨.str ⟨#[c]⟩,H,I.tok _,⟨_,rfl⟩,q⟩) hs
def qF(its:Vv)(n j:Nat)(u:Value):Obj.mapSeq (·.setIfInBounds j u) { cls:=.type "list",data:=.seq its.toArray n }={ cls:=.type "list",data:=.seq (its.set j u).toArray n }:=by
 simp[Obj.mapSeq]
theorem Inv.lst{pins:Va}{σ:St}{H:Hp}{s:Shared}{p:Addr}{xs:List V}(I:Inv X pins σ H s)(h:H p=some (.lst xs)) :
  ∃(its:Vv) (n:Nat),Vals xs its/\s.heap.get? p=some { cls:=.type "list",data:=.seq its.toArray n }/\xs.length<=sizeLine:=by
 obtain⟨z,its,n,r,e⟩:=I.hok p _ h
 exact⟨its,n,r,e,z⟩
def Inv.Pc{pins:Va}{σ:St}{H:Hp}{s:Shared}{p:Addr}{xs ys:List V}{its its':Vv}{n n':Nat}{f:Obj->Obj}(I:Inv X pins σ H s)(h:H p=some (.lst xs))
  (ho:s.heap.get? p=some { cls:=.type "list",data:=.seq its.toArray n }) (hf:f { cls:=.type "list",data:=.seq its.toArray n }={ cls:=.type "list",data:=.seq its'.toArray n' }) (r:Vals ys its') (hz:ys.length<=sizeLine) (t:Nat) (ht:1<=t:=by walk_at "t") :
  Inv X pins σ (upd H p (.lst ys)) { s with heap:=s.heap.update p f,toks:=t }:=by
 have e:(s.heap.update p f).get? p=some { cls:=.type "list",data:=.seq its'.toArray n' }:=by
  rw[V1 f ho (by rw[hf]<;>rfl),hf]
 refine I.write (x:=p) (e:=p) (by rw[h];trivial) (.inl rfl) (λb u hb q=>(Vc _ _ (VI hb)).trans q) ⟨_,e⟩ ?_
 exact⟨hz,its',n',r,e⟩
noncomputable def FI:V->V->V->Hp->(Hp->Prop)->Prop:=λo i v H Q=>∃p xs k j,o = .ref p/\i = .int k/\H p=some (.lst xs)/\r_ xs.length k=some j/\Q (upd H p (.lst (xs.set j v)))
def vI:zv X FI:=by
 intro pins s σ H o i v ov iv u Q I ro ri rv h
 obtain⟨p,xs,k,j,rfl,rfl,hp,hj,q⟩:=h
 cases ro
 obtain⟨t,rfl⟩:=ri
 obtain⟨its,n,r,ho,hz⟩:=I.lst hp
 obtain⟨h1,h2,h3,h4⟩:=sd hj
 have hl:=r.length
 have hn:=i0
 have I':Inv X pins σ (upd H p (.lst (xs.set j v))) { s with heap:=s.heap.update p (Obj.mapSeq (·.setIfInBounds j u)) }:=
  I.Pc hp ho (qF its n j u) (r.set rv j) (by rw[Wq];exact hz) s.toks
 by_cases h0:0<=k
 .have hk:k.toNat=j:=by
   rw[seqIndex_of h0 h4]at h1
   exact VY h1
  exact PySem.W.ki_setAt ho h0 (by omega) (by rw[UX,<-hl];exact h4) (by rw[hk];exact⟨_,I',q⟩)
 .have hk:(k+(its.toArray.size:Int)).toNat=j:=by
   rw[seqIndex_neg (by omega) h3]at h1
   rw[UX,<-hl]
   exact VY h1
  exact PySem.W.ki_setBack ho (by omega) (by rw[UX,<-hl];exact h3) (by omega) (by rw[hk];exact⟨_,I',q⟩)
def mW(lo hi:Option Int)(n:Nat):(sliceBounds lo hi none n).1=((HT.JY n 0 lo:Nat):Int)/\(sliceBounds lo hi none n).2.1=((HT.JY n n hi:Nat):Int)/\(sliceBounds lo hi none n).2.2=1:=by
 refine⟨?_,?_,rfl⟩
 .cases lo with
  |none=>simp[sliceBounds,HT.JY]
  |some i=>
   simp only[sliceBounds,HT.JY,Option.getD_none,show(1:Int) > 0 by decide,VL]
   by_cases h:i < 0
   .simp only[h,VL]<;>omega
   .simp only[h,Vx]<;>omega
 .cases hi with
  |none=>simp[sliceBounds,HT.JY]
  |some i=>
   simp only[sliceBounds,HT.JY,Option.getD_none,show(1:Int) > 0 by decide,VL]
   by_cases h:i < 0
   .simp only[h,VL]<;>omega
   .simp only[h,Vx]<;>omega
def lR(its:Vv)(lo hi:Option Int):slicePick its.toArray lo hi none=((its.drop (HT.JY its.length 0 lo)).take (HT.JY its.length its.length hi - HT.JY its.length 0 lo)).toArray:=by
 obtain⟨h1,h2,h3⟩:=mW lo hi its.toArray.size
 unfold slicePick
 rw[h1,h2,h3]
 simp only[sliceRange_one,pick_run,UX]<;>rfl
noncomputable def HE(K:Vo):V->Option Int->Option Int->Hp->VK->Prop:=λx lo hi H Q=>∃a xs,x = .ref a/\SqL K H a xs/\∀p,H p=none->Q (.ref p) (upd H p (.lst (kB xs lo hi)))
def sh:E7 X (HE X.K):=by
 intro pins s σ H x v vl vu lo hi sl Q I rx hs pl pu h
 obtain⟨a,xs,rfl,hx,q⟩:=h
 cases rx
 obtain⟨its,r,ht,hz⟩:=I.list hx
 have hlen:=r.length
 refine⟨"list",_,slot_list_getitem.lookup,ht.isList.typeIs,?_⟩
 refine wpAny_getItem_list_slice ht.isList hs pl pu .none (by simp) ?_ (by rw[UX]<;>omega)
 rw[lR,<-hlen]
 refine⟨.ref s.heap.objs.size,_,I.laid (t':=s.toks) (o:=.lst (kB xs lo hi)) (λb ob q=>UG _ q) (UH _) ?_,rfl,q _ (I.hok.fresh (UH _))⟩
 exact⟨UN (jA xs lo hi) hz,_,0,(r.drop (HT.JY xs.length 0 lo)).take (HT.JY xs.length xs.length hi - HT.JY xs.length 0 lo),U0 _ rfl⟩
def mX:gi X (compareOp .NotIn) (λx y H Q=>∃i j,x = .str i/\y = .str j/\Q (.bl (!(!(Builtin.Str.occurrences j i 0 j.length 1).isEmpty))) H):=by
 walk_at "3"
 obtain⟨i,j,rfl,rfl,q⟩:=h
 obtain⟨t,rfl⟩:=rx
 obtain⟨t',rfl⟩:=ry
 exact notIn_str ⟨.bl _,H,I,rfl,q⟩
def eg:dg X (.builtin "len") (λxs H Q=>∃p ys,xs=[.ref p]/\(SqL X.K H p ys\/SqT X.K H p ys)/\Q (.int ys.length) H):=by
 intro pins s σ H xs us Q I r h
 obtain⟨p,ys,rfl,hq,q⟩:=h
 obtain⟨u,rfl,rx⟩:=dh r
 cases rx
 have hn:=i0
 rcases hq with hq|hq
 .obtain⟨its,r',pl,hz⟩:=I.list hq
  have hlen:=r'.length
  exact Calls.call_len_list pl.isList (by simp only[UX]<;>omega) ⟨.int ys.length,H,I.tok _,⟨s.toks+1,by rw[UX,hlen]⟩,q⟩
 .obtain⟨its,r',pl,hz⟩:=I.tuple hq
  have hlen:=r'.length
  exact len_tuple pl (by simp only[UX]<;>omega) ⟨.int ys.length,H,I.tok _,⟨s.toks+1,by rw[UX,hlen]⟩,q⟩
def mY:dg X (.builtin "len") (λxs H Q=>∃z,xs=[.str z]/\z.length<=sizeLine/\Q (.int z.length) H):=by
 intro pins s σ H xs us Q I r h
 obtain⟨z,rfl,hz,q⟩:=h
 obtain⟨u,rfl,t,rfl⟩:=dh r
 have hn:=i0
 exact len_str (by omega) ⟨.int z.length,H,I.tok _,⟨_,rfl⟩,q⟩
def mZ:dg X (.type "list") (λxs H Q=>∃p ys,xs=[.ref p]/\(SqL X.K H p ys\/SqT X.K H p ys)/\∀l,H l=none->Q (.ref l) (upd H l (.lst ys))):=by
 intro pins s σ H xs us Q I r h
 obtain⟨p,ys,rfl,hq,q⟩:=h
 obtain⟨u,rfl,rx⟩:=dh r
 cases rx
 have fin:∀(its:Vv),Vals ys its->ys.length<=sizeLine->∀(h':Heap) (c':Nat),(∀b o',s.heap.get? b=some o'->h'.get? b=some o')->
   h'.get? s.heap.objs.size=some { cls:=.type "list",dict:=none,data:=.seq its.toArray c',slots:=#[] }->EP X pins σ Q (.ref s.heap.objs.size) { s with heap:=h' }:=λits r' hz h' c' kp e=>
  ⟨.ref s.heap.objs.size,_,I.laid (t':=s.toks) kp (UH _) (show JS X.prog X.w _ h' _ (.lst ys)from ⟨hz,its,c',r',e⟩),rfl,q _ (I.hok.fresh (UH _))⟩
 rcases hq with hq|hq
 .obtain⟨its,r',pl,hz⟩:=I.list hq
  have hlen:=r'.length
  obtain⟨o,ho,hc,n,hd⟩:=pl.isList
  exact call_list_seq p (.inl rfl) ho hc hd (λh' c' kp e=>fin its r' hz h' c' kp e) (by simp only[UX]<;>omega)
 .obtain⟨its,r',pl,hz⟩:=I.tuple hq
  have hlen:=r'.length
  obtain⟨o,ho,hc,n,hd⟩:=pl
  exact call_list_seq p (.inr rfl) ho hc hd (λh' c' kp e=>fin its r' hz h' c' kp e) (by simp only[UX]<;>omega)
def gJ:dg X (.type "tuple") (λxs H Q=>∃p ys,xs=[.ref p]/\((SqL X.K H p ys/\∀l,H l=none->Q (.ref l) (upd H l (.tup ys)))\/(SqT X.K H p ys/\Q (.ref p) H))):=by
 intro pins s σ H xs us Q I r h
 obtain⟨p,ys,rfl,h⟩:=h
 obtain⟨u,rfl,rx⟩:=dh r
 cases rx
 rcases h with⟨hq,q⟩|⟨hq,q⟩
 .obtain⟨its,r',pl,hz⟩:=I.list hq
  have hlen:=r'.length
  refine call_tuple_list pl.isList (λh' kp=>?_) (by simp only[UX]<;>omega)
  have I1:Inv X pins σ H { s with heap:=h' }:=I.kept (t':=s.toks) kp
  have I2:Inv X pins σ (upd H h'.objs.size (.tup ys)) { s with heap:=h'.push { cls:=.type "tuple",data:=.seq its.toArray } }:=
   I1.laid (t':=s.toks) (λb o e=>UG _ e) (UH _) (show JS X.prog X.w _ _ _ (.tup ys)from ⟨hz,its,r',KA.new _ _⟩)
  exact⟨.ref h'.objs.size,_,I2,rfl,q _ (I1.hok.fresh (UH _))⟩
 .obtain⟨its,r',pl,hz⟩:=I.tuple hq
  exact call_tuple_same pl ⟨.ref p,H,I,rfl,q⟩
def G7(K:Vo)(T:String)(x:V)(H:Hp):Prop:=match x with
 | .str _=>T = "str"
 | .int _=>T = "int"
 | .ref p=>(T = "list"/\∃xs,SqL K H p xs)\/(T = "tuple"/\∃o,K.lookup p=some o/\o.cls = .type "tuple"/\o.dict=none) \/
   (T = "dict"/\((∃kvs,H p=some (.dK kvs))\/∃kvs,H p=some (.dT kvs)))\/(T = "set"/\∃S n,H p=some (.set S n))
 |_=>False
def qG{pins:Va}{σ:St}{H:Hp}{s:Shared}{T:String}{x:V}{v:Value}(I:Inv X pins σ H s)(r:RelV x v)(ty:G7 X.K T x H) :
  s.TypeIs v T/\∀a,v = .ref a->∃ob,s.heap.get? a=some ob/\ob.dict=none:=by
 cases x with
 |str z=>
  obtain⟨t,rfl⟩:=r
  cases (show T = "str" from ty)
  exact⟨XA s z t,λ_ e=>nomatch e⟩
 |int i=>
  obtain⟨t,rfl⟩:=r
  cases (show T = "int" from ty)
  exact⟨typeIs_int s i t,λ_ e=>nomatch e⟩
 |ref p=>
  cases r
  rcases ty with⟨rfl,xs,hq⟩|⟨rfl,o,hk,hc,hd⟩|⟨rfl,hk⟩|⟨rfl,S,n,hk⟩
  .obtain⟨its,_,pl,_⟩:=I.list hq
   refine⟨pl.isList.typeIs,λa e=>?_⟩
   cases e
   obtain⟨o,n,e,c,hd,_⟩:=pl
   exact⟨o,e,hd⟩
  .refine⟨⟨o,I.L_ p o hk,hc⟩,λa e=>?_⟩
   cases e
   exact⟨o,I.L_ _ o hk,hd⟩
  .have z:∃o,s.heap.get? p=some o/\o.ExactDict:=by
    rcases hk with⟨kvs,hk⟩|⟨kvs,hk⟩
    .obtain⟨_,_,_,_,o,_,_,e,ex,_⟩:=I.hok p _ hk
     exact⟨o,e,ex⟩
    .obtain⟨_,_,_,_,o,_,_,e,ex,_⟩:=I.hok p _ hk
     exact⟨o,e,ex⟩
   obtain⟨o,e,ex⟩:=z
   refine⟨⟨o,e,ex.1⟩,λa e2=>?_⟩
   cases e2
   exact⟨o,e,ex.2.1⟩
  .obtain⟨o,_,_,_,e,ex,_⟩:=I.hok p _ hk
   refine⟨⟨o,e,ex.1⟩,λa e2=>?_⟩
   cases e2
   exact⟨o,e,ex.2.1⟩
 |_=>exact False.elim ty
def HF(K:Vo)(T:String)(r:V->List V->Hp->VK->Prop)(to:TE):TE:=λσ H Q=>to σ H λx H1=>G7 K T x H1/\r x [] H1 Q
def Jj(K:Vo)(T:String)(r:V->List V->Hp->VK->Prop)(to:TE)(t:TA):TE:=λσ H Q=>to σ H λx H1=>G7 K T x H1/\t σ H1 λxs H2=>r x xs H2 Q
variable {o e:Expr}{es:List Expr}{to:TE}{t:TA}{name:Str}{apos cpos:Pos}{T id:String}{r:V->List V->Hp->VK->Prop}
def C3(pa:PlainAttrs T)(slot:Slot T name id)(hty:typeOf (.builtin id)=pure (.type "method_descriptor"))(hm:CZ X id r)(ho:PE X o to)
  (hbase:attributeBase o name X.env (eval o X.env)=eval o X.env:=by rfl) (hline:(apos.endLine == cpos.line)=true:=by rfl):PE X (.Call (.Attribute o name apos) [] [] cpos) (HF X.K T r to):=by
 walk_at "7"
 refine wpAny_Call_method0_late hbase hline (JN (ho pins s σ H _ I h) λv s1 ⟨x,H1,I1,r1,ty,q1⟩=>?_)
 obtain⟨h1,h2⟩:=qG I1 r1 ty
 exact⟨T,id,pa,slot,hty,h1,h2,XQ rfl (PySem.evalArgs_none (hm pins s1 σ H1 x [] v [] Q I1 r1 .nil q1))⟩
def FJ(pa:PlainAttrs T)(slot:Slot T name id)(hty:typeOf (.builtin id)=pure (.type "method_descriptor"))(hm:CZ X id r)(ho:PE X o to)(ha:PA X (e::es) t)
  (hbase:attributeBase o name X.env (eval o X.env)=eval o X.env:=by rfl)
  (hfew:((backTo cpos (starEach (e::es) X.env)).all (λx=>!x.1)&&(backToKw cpos (keywordEach [] X.env)).all (λx=>x.1.isSome)
   && decide ((e::es).length+([]:List Keyword).length+(if ([]:List Keyword).isEmpty then 0 else 1) < 30))=true:=by rfl)
  (hline:(apos.endLine == cpos.line)=true:=by rfl) (hs:starEach (e::es) X.env=(false,eval e X.env)::starEach es X.env:=by rfl) (hplain:(backTo cpos (starEach es X.env)).any (·.1)=false:=by rfl) :
  PE X (.Call (.Attribute o name apos) (e::es) [] cpos) (Jj X.K T r to t):=by
 walk_at "7"
 refine wpAny_Call_method_late hbase hfew hline rfl (JN (ho pins s σ H _ I h) λv s1 ⟨x,H1,I1,r1,ty,q1⟩=>?_)
 obtain⟨h1,h2⟩:=qG I1 r1 ty
 refine⟨T,id,pa,slot,hty,h1,h2,?_⟩
 have hA:=ha cpos pins s1 σ H1 _ I1 q1
 rw[hs]at hA ⊢
 refine XQ (by show(false || (backTo cpos (starEach es X.env)).any (·.1))=false;rw[hplain]<;>rfl) (Calls.evalArgs_plain ?_)
 exact JN hA λus s2 ⟨vs,H2,I2,r2,q2⟩=>hm pins s2 σ H2 x vs v us Q I2 r1 r2 q2
end
def G8(X:Cx)(id:String)(r:V->List V->Hp->VK->Prop):Prop:=
 ∀(pins:Va)(s:Shared)(σ:St)(H:Hp)(x:V)(xs:List V)(v:Value)(us:Vv)(Q:VK),Inv X pins σ H s->RelV x v->Vals xs us->r x xs H Q->
  wpAny (model X.prog X.w) X.A (call (.builtin id) (v::us)) (EP X pins σ Q) X.xe s
theorem Vals.one:∀{x:V}{us:Vv},Vals [x] us->∃u,us=[u]/\RelV x u
 |_,_,.cons r .nil=>⟨_,rfl,r⟩
theorem Vals.zero:∀{us:Vv},Vals [] us->us=[]
 |_,.nil=>rfl
theorem Vals.dropLast{xs:List V}{us:Vv}(h:Vals xs us):Vals xs.dropLast us.dropLast:=by
 induction h with
 |nil=>exact .nil
 |cons r t ih=>
  cases t with
  |nil=>exact .nil
  |cons q t'=>exact .cons r ih
theorem Vals.eraseIdx:∀{xs:List V}{us:Vv}(i:Nat),Vals xs us->Vals (xs.eraseIdx i) (us.eraseIdx i)
 |_,_,_,.nil=>.nil
 |_,_,0,.cons _ t=>t
 |_,_,i+1,.cons r t=>.cons r (Vals.eraseIdx i t)
theorem Vals.reverse{xs:List V}{us:Vv}(h:Vals xs us):Vals xs.reverse us.reverse:=by
 induction h with
 |nil=>exact .nil
 |cons r t ih=>rw[Wy,Wy];exact Vals.append ih (.cons r .nil)
theorem Vals.rep{xs:List V}{us:Vv}(h:Vals xs us):∀k:Nat,Vals (List.replicate k xs).flatten (List.replicate k us).flatten
 |0=>.nil
 |k+1=>by
  rw[V9,V9,WN,WN]
  exact Vals.append h (Vals.rep h k)
def qH{α:Type}(l:List α):l.eraseIdx (l.length - 1)=l.dropLast:=by
 induction l with
 |nil=>rfl
 |cons a r ih=>
  cases r with
  |nil=>rfl
  |cons b r=>
   have e:(a::b::r).length - 1=((b::r).length - 1)+1:=by
    have h1:(a::b::r).length=r.length+2:=rfl
    have h2:(b::r).length=r.length+1:=rfl
    omega
   rw[e,List.eraseIdx_cons_succ,ih]
   all_goals rfl
theorem me{α:Type}:∀(l:List α)(i:Nat),(l.eraseIdx i).length<=l.length
 |[],_=>UH _
 |_::_,0=>YA _
 |_::r,i+1=>V0 (me r i)
theorem mf(its:Vv):∀(k:Nat)(acc:Vv),
  List.foldl (λx1 x2=>x1++x2) acc.toArray (List.replicate k its.toArray)=(acc++(List.replicate k its).flatten).toArray
 |0,acc=>by simp
 |k+1,acc=>by
  have e:acc.toArray++its.toArray=(acc++its).toArray:=by simp
  have e2:(acc++its)++(List.replicate k its).flatten=acc++(List.replicate (k+1) its).flatten:=by
   rw[V9,WN,U8]
  rw[<-e2,<-mf its k (acc++its),<-e,V9,List.foldl_cons]
section
variable {X:Cx}{pins:Va}{σ:St}{H:Hp}{s:Shared}{l b:Addr}{xs ys zs:List V}
def Inv.Pd{its its':Vv}{n:Nat}{f:Array Value->Array Value}{t':Nat}(I:Inv X pins σ H s)(hH:H l=some (.lst xs))
  (e:s.heap.get? l=some { cls:=.type "list",data:=.seq its.toArray n }) (hf:f its.toArray=its'.toArray) (hv:Vals ys its') (hz:ys.length<=sizeLine) (ht:1<=t':=by walk_at "t") :
  Inv X pins σ (upd H l (.lst ys)) { s with heap:=s.heap.update l (Obj.mapSeq f),toks:=t' }:=by
 have q:=PySem.IsL.update e f
 rw[hf]at q
 refine I.write (x:=l) (e:=l) (by rw[hH];exact trivial) (.inl rfl) (λb' u hb hu=>(Vc s.heap (Obj.mapSeq f) (VI hb)).trans hu) ⟨_,q⟩ ?_
 exact⟨hz,its',_,hv,q⟩
def Inv.P2{its:Vv}{t':Nat}(I:Inv X pins σ H s)(hv:Vals ys its)(hz:ys.length<=sizeLine)(ht:1<=t':=by walk_at "t") :
  Inv X pins σ (upd H s.heap.objs.size (.lst ys)) { s with heap:=s.heap.push { cls:=.type "list",data:=.seq its.toArray },toks:=t' }:=
 I.laid (λ_ _ q=>UG _ q) (UH _) ⟨hz,its,0,hv,U0 _ rfl⟩
theorem Inv.fresh(I:Inv X pins σ H s):H s.heap.objs.size=none:=I.hok.fresh (UH _)
def Inv.NC(I:Inv X pins σ H s)(hH:H l=some (.lst xs)):xs.length<=sizeLine/\∃(its:Vv)(n:Nat),Vals xs its/\xs.length=its.length/\s.heap.get? l=some { cls:=.type "list",data:=.seq its.toArray n }:=by
 obtain⟨z,its,n,r,e⟩:=I.hok l _ hH
 exact⟨z,its,n,r,r.length,e⟩
def vJ{n:Nat}(h:n<=sizeLine):Builtin.List.listTooLong n=false:=by
 unfold Builtin.List.listTooLong
 exact UO (by omega)
end
section
variable {X:Cx}
noncomputable def zM:V->List V->Hp->VK->Prop:=λx vs H Q=>∃l xs y,x = .ref l/\vs=[y]/\H l=some (.lst xs)/\xs.length < sizeLine/\Q .non (upd H l (.lst (xs++[y])))
def t6:G8 X "list.append" zM:=by
 intro pins s σ H x vs v us Q I rx rv h
 obtain⟨l,xs,y,rfl,rfl,hH,hz,q⟩:=h
 cases rx
 obtain⟨u,rfl,ru⟩:=rv.one
 obtain⟨z,its,n,r,hl,e⟩:=I.NC hH
 refine Xf F.slot_list_append ⟨_,e,rfl⟩ F.entry_list_append (F.args_list_append_2 _ _) (PySem.list_append l its.toArray n u (by rw[UX];omega)) ⟨e,?_⟩
 refine⟨.non,_,I.Pd (its':=its++[u]) hH e (by simp) (r.append (.cons ru .nil)) ?_,rfl,q⟩
 rw[UK,V2]
 omega
noncomputable def HG:V->List V->Hp->VK->Prop:=λx vs H Q=>∃l xs y,x = .ref l/\vs=[]/\H l=some (.lst xs)/\xs[xs.length - 1]?=some y/\Q y (upd H l (.lst xs.dropLast))
def C4:G8 X "list.pop" HG:=by
 intro pins s σ H x vs v us Q I rx rv h
 obtain⟨l,xs,y,rfl,rfl,hH,hy,q⟩:=h
 cases rx
 have S_:=rv.zero
 subst S_
 obtain⟨z,its,n,r,hl,e⟩:=I.NC hH
 obtain⟨u,hu,ru⟩:=r.get hy
 have hy':its.toArray[its.toArray.size - 1]?=some u:=by
  show its.toArray[its.length - 1]?=some u
  rw[<-XZ,<-hl]
  exact hu
 refine Xf F.slot_list_pop ⟨_,e,rfl⟩ F.entry_list_pop (F.args_list_pop_1 _) (MeetsSeq.list_pop_last l its.toArray n u hy' (by rw[UX];omega)) ⟨e,?_⟩
 refine⟨y,_,I.Pd (its':=its.dropLast) hH e ?_ r.dropLast ?_,ru,q⟩
 .show its.toArray.eraseIdxIfInBounds (its.toArray.size - 1)=its.dropLast.toArray
  rw[UX,XY,qH]
 .rw[List.length_dropLast]
  omega
noncomputable def C5:V->List V->Hp->VK->Prop:=λx vs H Q=>∃l xs i k y,x = .ref l/\vs=[.int i]/\H l=some (.lst xs)/\-(2 ^ 63)<=i/\i < 2 ^ 63/\seqIndex? i xs.length=some k/\xs[k]?=some y/\Q y (upd H l (.lst (xs.eraseIdx k)))
def vK:G8 X "list.pop" C5:=by
 intro pins s σ H x vs v us Q I rx rv h
 obtain⟨l,xs,i,k,y,rfl,rfl,hH,h1,h2,hk,hy,q⟩:=h
 cases rx
 obtain⟨u,rfl,ru⟩:=rv.one
 obtain⟨t,rfl⟩:=ru
 obtain⟨z,its,n,r,hl,e⟩:=I.NC hH
 obtain⟨w,hw,rw'⟩:=r.get hy
 refine Xf F.slot_list_pop ⟨_,e,rfl⟩ F.entry_list_pop (F.args_list_pop_2 _ _)
  (MeetsSeq.list_pop_at l its.toArray n i t k w (fitsIndex_both h1 h2) (by rw[UX,<-hl];exact hk) (by rw[<-XZ];exact hw) (by rw[UX];omega)) ⟨e,?_⟩
 refine⟨y,_,I.Pd (its':=its.eraseIdx k) hH e ?_ (r.eraseIdx k) ?_,rw',q⟩
 .show its.toArray.eraseIdxIfInBounds k=(its.eraseIdx k).toArray
  rw[XY]
 .have:=me xs k
  omega
def HH:R2:=λx y H Q=>∃l b xs zs,x = .ref l/\y = .ref b/\H l=some (.lst xs)/\H b=some (.lst zs)/\xs.length+zs.length<=sizeLine/\∀p,H p=none->Q (.ref p) (upd H p (.lst (xs++zs)))
def C6:gi X (binaryOp .Add) HH:=by
 walk_at "3"
 obtain⟨l,b,xs,zs,rfl,rfl,hH,hB,hz,q⟩:=h
 cases rx
 cases ry
 obtain⟨z,its,n,r,hl,e⟩:=I.NC hH
 obtain⟨z2,its2,n2,r2,hl2,e2⟩:=I.NC hB
 refine PySem.P.add_list e e2 ?_ (by rw[UX,UX];omega)
 have ea:its.toArray++its2.toArray=(its++its2).toArray:=by simp
 rw[ea]
 exact⟨.ref _,_,I.P2 (t':=s.toks) (r.append r2) (by rw[UK];omega),rfl,q _ I.fresh⟩
def HI:R2:=λx y H Q=>∃l k xs,x = .ref l/\y = .int k/\H l=some (.lst xs)/\-(2 ^ 63)<=k/\k < 2 ^ 63/\xs.length * k.toNat<=sizeLine/\
 ∀p,H p=none->Q (.ref p) (upd H p (.lst (List.replicate k.toNat xs).flatten))
def zN{α:Type}(xs:List α)(k:Nat):(List.replicate k xs).flatten.length=k * xs.length:=by
 induction k with
 |zero=>simp
 |succ k ih=>rw[V9,WN,UK,ih,YG,Nat.add_comm]
def C7:gi X (binaryOp .Mult) HI:=by
 walk_at "3"
 obtain⟨l,k,xs,rfl,rfl,hH,h1,h2,hz,q⟩:=h
 cases rx
 obtain⟨t,rfl⟩:=ry
 obtain⟨z,its,n,r,hl,e⟩:=I.NC hH
 have hlen:its.toArray.size * k.toNat<=sizeLine:=by rw[UX,<-hl];exact hz
 have hcap:¬its.toArray.size * k.toNat > (2 ^ 63 - 1) / 8:=by
  have:(sizeLine:Nat)<=(2 ^ 63 - 1) / 8:=by decide
  omega
 have hfit:¬(!Builtin.List.listFitsIndex k)=true:=by
  rw[fitsIndex_both h1 h2]
  exact Vk
 have P3:¬Builtin.List.listTooLong (its.toArray.size * k.toNat)=true:=by
  rw[vJ hlen]
  exact Vk
 have hnew:List.foldl (λx1 x2=>x1++x2) #[] (List.replicate (if its.toArray.isEmpty=true then 0 else k.toNat) its.toArray)=(List.replicate k.toNat its).flatten.toArray:=by
  have f0:∀m:Nat,List.foldl (λx1 x2=>x1++x2) #[] (List.replicate m its.toArray)=(List.replicate m its).flatten.toArray:=λm=>by
   have:=mf its m []
   rw[VT]at this
   exact this
  rw[f0]
  cases its with
  |nil=>simp
  |cons a r'=>rw[if_neg (by simp)]
 refine wpAny_binaryOp_repeat_ref (T:="list") (U:="int") (by decide) ⟨_,e,rfl⟩ (λs'=>typeIs_int s' k t) noFill_list_mul F.fills_int_mul F.slot_int_rmul repeat_list F.slot_int_index.lookup
  (Xf F.slot_int_rmul (typeIs_int s k t) F.entry_int_rmul (F.args_int_rmul_2 _ _) (int___rmul___int_list k t l its.toArray n)
   ⟨e,rfl,⟨_,e,rfl⟩,Xf F.slot_list_mul ⟨_,e,rfl⟩ F.entry_list_mul (F.args_list_mul_2 _ _) (AutoListH.list___mul___list_int_3 l its.toArray n k t hfit hcap P3) ⟨e,?_⟩⟩)
 rw[hnew]
 exact⟨.ref _,_,I.P2 (t':=s.toks) (r.rep k.toNat) (by rw[zN,Nat.mul_comm];exact hz),rfl,q _ I.fresh⟩
end
section
variable {κ:Type} [DecidableEq κ]
noncomputable def fj(kvs:List (κ×V))(k:κ):Option V:=(kvs.find? λkv=>decide (kv.1=k)).map (·.2)
noncomputable def fk(kvs:List (κ×V))(k:κ)(v:V):List (κ×V):=
 if (kvs.any λkv=>decide (kv.1=k))=true then kvs.map (λkv=>if kv.1=k then (kv.1,v) else kv) else kvs++[(k,v)]
def KU{p:κ×V}{r:List (κ×V)}{k:κ}(e:p.1=k):fj (p::r) k=some p.2:=by simp[fj,List.find?_cons,e]
def KW{p:κ×V}{r:List (κ×V)}{k:κ}(e:¬p.1=k):fj (p::r) k=fj r k:=by simp[fj,List.find?_cons,e]
theorem kC(k:κ):∀kvs:List (κ×V),(kvs.any λkv=>decide (kv.1=k))=(fj kvs k).isSome
 |[]=>rfl
 |p::r=>by
  rw[W8]
  by_cases e:p.1=k
  .simp only[KU e,U1 e,Bool.true_or,Option.isSome_some]
  .rw[KW e,UO e,Bool.false_or];exact kC k r
def fm(kvs:List (κ×V))(k:κ)(v:V):(fk kvs k v).length<=kvs.length+1:=by
 unfold fk
 split
 .rw[UJ];omega
 .rw[UK,UQ,Wr];omega
def Ly.Kt{o:Option V}{u:Option Value}(r:Ly o u):o.isSome=u.isSome:=by
 cases o with
 |none=>cases u with
  |none=>rfl
  |some _=>exact(show False from r).elim
 |some _=>cases u with
  |none=>exact(show False from r).elim
  |some _=>rfl
def KV.val{kvs:List (κ×V)}{vs:List (κ×Value)}(r:KV kvs vs)(k:κ):Ly (fj kvs k) (valueAt vs k):=by
 unfold KV at r
 induction r with
 |nil=>exact True.intro
 |@cons p q ps qs h t ih=>
  obtain⟨h1,h2⟩:=h
  by_cases e:p.1=k
  .have e':q.1=k:=h1.symm.trans e
   have b:valueAt (q::qs) k=some q.2:=by simp[valueAt,List.find?_cons,e']
   rw[KU e,b];exact h2
  .have e':¬q.1=k:=λz=>e (h1.trans z)
   have b:valueAt (q::qs) k=valueAt qs k:=by simp[valueAt,List.find?_cons,e']
   rw[KW e,b];exact ih
theorem KV.any{kvs:List (κ×V)}{vs:List (κ×Value)}(r:KV kvs vs)(k:κ):(kvs.any λkv=>decide (kv.1=k))=vs.any λkv=>decide (kv.1=k):=by
 unfold KV at r
 induction r with
 |nil=>rfl
 |cons h t ih=>rw[W8,W8,ih,h.1]
def KV.repl{kvs:List (κ×V)}{vs:List (κ×Value)}(r:KV kvs vs)(k:κ){y:V}{u:Value}(ry:RelV y u) :
  KV (kvs.map λkv=>if kv.1=k then (kv.1,y) else kv) (vs.map λkv=>if kv.1=k then (kv.1,u) else kv):=by
 unfold KV at r ⊢
 induction r with
 |nil=>exact .nil
 |@cons p q ps qs h t ih=>
  rw[UE,UE]
  refine .cons ?_ ih
  obtain⟨h1,h2⟩:=h
  by_cases e:p.1=k
  .rw[if_pos e,if_pos (h1.symm.trans e)];exact⟨h1,ry⟩
  .rw[if_neg e,if_neg (λz=>e (h1.trans z))];exact⟨h1,h2⟩
def KV.put{kvs:List (κ×V)}{vs:List (κ×Value)}(r:KV kvs vs)(k:κ){y:V}{u:Value}(ry:RelV y u):KV (fk kvs k y) (stored vs k u):=by
 unfold fk stored
 rw[r.any k]
 by_cases e:(vs.any λkv=>decide (kv.1=k))=true
 .rw[if_pos e,if_pos e];exact r.repl k ry
 .rw[if_neg e,if_neg e];exact Paired.snoc r ⟨rfl,ry⟩
theorem KV.length{kvs:List (κ×V)}{vs:List (κ×Value)}(r:KV kvs vs):kvs.length=vs.length:=Paired.length r
end
def jB{P:Program}{w:World}{k:bp}{u:Value}(r:RelV (kV k) u):(aW P w).is k u=true:=by
 cases k with
 |inl i=>obtain⟨t,e⟩:=(show ∃t,u=Value.int i t from r);subst e;exact oS P w i t
 |inr x=>obtain⟨t,e⟩:=(show ∃t,u=Value.str x t from r);subst e;exact oU P w x t
theorem mh{P:Program}{w:World}:∀{ks:List bp}{us:Vv},Vals (ks.map kV) us->ItemsAre (aW P w) ks us
 |[],_,r=>by rw[Ve]at r;cases r;exact .nil
 |k::ks,_,r=>by
  rw[UE]at r
  cases r with
  |cons h t=>exact .cons (jB h) (mh t)
noncomputable abbrev KT(H:Hp):List (List bp×V)->List (List bp×Addr×Value)->Prop:=Paired λp q=>p.1=q.1/\H q.2.1=some (.tup (p.1.map kV))/\RelV p.2 q.2.2
def KT.val{H:Hp}{kvs:List (List bp×V)}{xs:List (List bp×Addr×Value)}(r:KT H kvs xs)(k:List bp):Ly (fj kvs k) ((atKey xs k).map (·.2)):=by
 induction r with
 |nil=>exact True.intro
 |@cons p q ps qs h t ih=>
  obtain⟨h1,_,h2⟩:=h
  by_cases e:p.1=k
  .have e':q.1=k:=h1.symm.trans e
   have b:atKey (q::qs) k=some q.2:=by simp[atKey,List.find?_cons,e']
   rw[KU e,b];exact h2
  .have e':¬q.1=k:=λz=>e (h1.trans z)
   have b:atKey (q::qs) k=atKey qs k:=by simp[atKey,List.find?_cons,e']
   rw[KW e,b];exact ih
def KT.repl{H:Hp}{kvs:List (List bp×V)}{xs:List (List bp×Addr×Value)}(r:KT H kvs xs)(k:List bp){y:V}{u:Value}(ry:RelV y u) :
  KT H (kvs.map λkv=>if kv.1=k then (kv.1,y) else kv) (xs.map (putAt k u)):=by
 induction r with
 |nil=>exact .nil
 |@cons p q ps qs h t ih=>
  rw[UE,UE]
  refine .cons ?_ ih
  obtain⟨h1,h2,h3⟩:=h
  unfold putAt
  by_cases e:p.1=k
  .rw[if_pos e,if_pos (h1.symm.trans e)];exact⟨h1,h2,ry⟩
  .rw[if_neg e,if_neg (λz=>e (h1.trans z))];exact⟨h1,h2,h3⟩
def KT.put{H:Hp}{kvs:List (List bp×V)}{xs:List (List bp×Addr×Value)}(r:KT H kvs xs)(k:List bp){b:Addr}{y:V}{u:Value}(hb:H b=some (.tup (k.map kV)))(ry:RelV y u) :
  KT H (fk kvs k y) (storedH xs k b u):=by
 have e:(kvs.any λkv=>decide (kv.1=k))=(atKey xs k).isSome:=by
  rw[kC,(r.val k).Kt,YB]
 unfold fk storedH
 rw[e]
 by_cases q:(atKey xs k).isSome=true
 .rw[if_pos q,if_pos q];exact r.repl k ry
 .rw[if_neg q,if_neg q];exact Paired.snoc r ⟨rfl,hb,ry⟩
def KT.keeps{H H':Hp}{kvs:List (List bp×V)}{xs:List (List bp×Addr×Value)}(r:KT H kvs xs)(ht:∀b ys,H b=some (.tup ys)->H' b=some (.tup ys)):KT H' kvs xs:=
 Paired.O0 r λ_ _ z=>⟨z.1,ht _ _ z.2.1,z.2.2⟩
section
variable {P:Program}{w:World}{H:Hp}{h:Heap}{a:Addr}
def BJ{u:HO}(ok:K9 P w H h)(e:Rd H a u):JS P w H h a u:=e.ok ok
def mi{kvs:List (bp×V)}(ok:K9 P w H h)(e:Rd H a (.dK kvs)):kvs.length<=sizeLine/\(a == sysModules)=false/\∃vs,KV kvs vs/\h.DictOf (aW P w) a vs:=
 show JS P w H h a (.dK kvs)from BJ ok e
def si{kvs:List (bp×V)}(ok:K9 P w H h)(e:H a=some (.dK kvs)):kvs.length<=sizeLine/\(a == sysModules)=false/\∃vs,KV kvs vs/\h.DictOf (aW P w) a vs:=mi ok (.inl e)
def eh{ks:List bp}(ok:K9 P w H h)(e:H a=some (.tup (ks.map kV))):(tupleKind (aW P w)).is h ks a:=by
 obtain⟨_,its,r,o,h1,_,h2,n,h3⟩:=(show JS P w H h a (.tup (ks.map kV))from ok a _ e)
 exact⟨o,its.toArray,n,h1,h2,h3,by simpa using mh r⟩
def o8{kvs:List (List bp×V)}(ok:K9 P w H h)(e:Rd H a (.dT kvs)):kvs.length<=sizeLine/\(a == sysModules)=false/\
  ∃xs,KT H kvs xs/\h.DictOfH (tupleKind (aW P w)) a xs:=by
 obtain⟨z,y,xs,r,o,es,ep,h1,h2,h3,h4,h5⟩:=(show JS P w H h a (.dT kvs)from BJ ok e)
 refine⟨z,y,xs,r,o,es,ep,h1,h2,h3,h4,λx hx=>?_,h5⟩
 have all:∀{l:List (List bp×V)}{m:List (List bp×Addr×Value)},KT H l m->∀x∈m,(tupleKind (aW P w)).is h x.1 x.2.1:=by
  intro l m q
  induction q with
  |nil=>intro x hx;exact nomatch hx
  |@cons p q ps qs hq t ih=>
   intro x hx
   rcases UI.mp hx with e|hx
   .subst e
    exact eh ok (by rw[<-hq.1];exact hq.2.1)
   .exact ih x hx
 exact all r x hx
def FM{kvs:List (List bp×V)}(ok:K9 P w H h)(e:H a=some (.dT kvs)):kvs.length<=sizeLine/\(a == sysModules)=false/\
  ∃xs,KT H kvs xs/\h.DictOfH (tupleKind (aW P w)) a xs:=o8 ok (.inl e)
end
def DGet(H:Hp)(a:Addr)(y:V)(r:Option V):Prop:=
 (∃kvs k,Rd H a (.dK kvs)/\y=kV k/\r=fj kvs k)\/∃kvs k b,Rd H a (.dT kvs)/\y = .ref b/\H b=some (.tup (k.map kV))/\r=fj kvs k
def N4(H:Hp)(a:Addr)(y v:V)(H':Hp):Prop:=
 (∃kvs k,H a=some (.dK kvs)/\y=kV k/\kvs.length < sizeLine/\H'=upd H a (.dK (fk kvs k v))) \/
 ∃kvs k b,H a=some (.dT kvs)/\y = .ref b/\H b=some (.tup (k.map kV))/\kvs.length < sizeLine/\H'=upd H a (.dT (fk kvs k v))
theorem DGet.k{H:Hp}{a:Addr}{kvs:List (bp×V)}{k:bp}(e:H a=some (.dK kvs)):DGet H a (kV k) (fj kvs k):=.inl ⟨kvs,k,.inl e,rfl,rfl⟩
theorem N4.k{H:Hp}{a:Addr}{kvs:List (bp×V)}{k:bp}{v:V}(e:H a=some (.dK kvs))(hl:kvs.length < sizeLine):N4 H a (kV k) v (upd H a (.dK (fk kvs k v))):=.inl ⟨kvs,k,e,rfl,hl,rfl⟩
section
variable {X:Cx}{pins:Va}{σ:St}{H:Hp}{s:Shared}{a:Addr}{y v:V}{u r:Value}{o:Option V}{A:Around}{E:Vq}
def Inv.big(I:Inv X pins σ H s):sysModules < s.heap.objs.size:=by
 have h:mainGlobals < s.heap.objs.size:=(I.mod.glob.keeps I.bk).lt
 exact Xk (by decide) h
def t7{Q:Vq}(hu:A.units+1 < cLine)(I:Inv X pins σ H s)(g:DGet H a y (some v))(ry:RelV y u)(h:∀w' s',Inv X pins σ H s'->RelV v w'->Q w' s') :
  wpAny (model X.prog X.w) A (getItem (.ref a) u) Q E s:=by
 rcases g with⟨kvs,k,e,ey,l⟩|⟨kvs,k,b,e,ey,eb,l⟩
 .subst ey
  obtain⟨z,hd,vs,rel,dd⟩:=mi I.hok e
  obtain⟨w',hw,rw'⟩:=Ly.some_of (v:=v) (o:=valueAt vs k) (by rw[l];exact rel.val k)
  exact wpAny_getItem_of (jB ry) dd.mapOf hw (h w' _ (I.tok _) rw')
 .subst ey
  cases (show u=Value.ref b from ry)
  obtain⟨z,hd,xs,rel,dd⟩:=o8 I.hok e
  obtain⟨w',hw,rw'⟩:=Ly.some_of (v:=v) (o:=(atKey xs k).map (·.2)) (by rw[l];exact rel.val k)
  obtain⟨p,hp,hp2⟩:=VE.mp hw
  refine wpAny_getItem_heap (XC hu) (eh I.hok eb) dd hp ?_
  rw[hp2]
  exact h w' _ (I.tok _) rw'
def FN{Q:Vq}(hu:A.units+1 < cLine)(I:Inv X pins σ H s)(g:DGet H a y o)(ry:RelV y u)(h:∀s',Inv X pins σ H s'->Q (.bool o.isSome) s') :
  wpAny (model X.prog X.w) A (compareOp .In u (.ref a)) Q E s:=by
 rcases g with⟨kvs,k,e,ey,l⟩|⟨kvs,k,b,e,ey,eb,l⟩
 .subst ey
  obtain⟨z,hd,vs,rel,dd⟩:=mi I.hok e
  refine wpAny_in_of (jB ry) hd dd.mapOf ?_
  rw[<-(rel.val k).Kt,<-l]
  exact h _ (I.tok _)
 .subst ey
  cases (show u=Value.ref b from ry)
  obtain⟨z,hd,xs,rel,dd⟩:=o8 I.hok e
  refine wpAny_in_heap (XC hu) (eh I.hok eb) hd dd ?_
  have q:=(rel.val k).Kt
  rw[YB]at q
  rw[<-q,<-l]
  exact h _ (I.tok _)
def sj{Q:Vq}(hu:A.units+1 < cLine)(I:Inv X pins σ H s)(g:DGet H a y o)(ry:RelV y u)(h:∀s',Inv X pins σ H s'->Q (.bool (!o.isSome)) s') :
  wpAny (model X.prog X.w) A (compareOp .NotIn u (.ref a)) Q E s:=by
 rcases g with⟨kvs,k,e,ey,l⟩|⟨kvs,k,b,e,ey,eb,l⟩
 .subst ey
  obtain⟨z,hd,vs,rel,dd⟩:=mi I.hok e
  refine wpAny_notIn_of (jB ry) hd dd.mapOf ?_
  rw[<-(rel.val k).Kt,<-l]
  exact h _ (I.tok _)
 .subst ey
  cases (show u=Value.ref b from ry)
  obtain⟨z,hd,xs,rel,dd⟩:=o8 I.hok e
  refine wpAny_notIn_heap (XC hu) (eh I.hok eb) hd dd ?_
  have q:=(rel.val k).Kt
  rw[YB]at q
  rw[<-q,<-l]
  exact h _ (I.tok _)
def m_{h':Heap}{t':Nat}{ob:HO}(I:Inv X pins σ H s)(mu:Fj (H a))(hs:Heap.SameBut a s.heap h')(he:∃q,h'.get? a=some q)(new:JS X.prog X.w (upd H a ob) h' a ob)(ht:1<=t':=by walk_at "t") :
  Inv X pins σ (upd H a ob) { s with heap:=h',toks:=t' }:=
 I.write (x:=a) (e:=a) mu (.inl rfl) (λb q hb z=>(hs.2 b hb).trans z) he new
def vL{P:Program}{w:World}{H':Hp}{h':Heap}{kvs:List (bp×V)}{vs:List (bp×Value)}(z:kvs.length<=sizeLine)(hd:(a == sysModules)=false)(rel:KV kvs vs)(dd:h'.DictOf (aW P w) a vs) :
  JS P w H' h' a (.dK kvs):=⟨z,hd,vs,rel,dd⟩
def t8{H':Hp}{Q:Unit->Shared->Prop}(hu:A.units+1 < cLine)(I:Inv X pins σ H s)(g:N4 H a y v H')(ry:RelV y u)(rv:RelV v r)(h:∀s',Inv X pins σ H' s'->Q () s') :
  wpAny (model X.prog X.w) A (setItem (.ref a) u r) Q E s:=by
 rcases g with⟨kvs,k,e,ey,l,eH⟩|⟨kvs,k,b,e,ey,eb,l,eH⟩
 .subst ey eH
  obtain⟨z,hd,vs,rel,dd⟩:=si I.hok e
  have hz:vs.length<=sizeLine:=by rw[<-rel.length];exact z
  have hl:(fk kvs k v).length<=sizeLine:=by have:=fm kvs k v;omega
  refine wpAny_setItem_pairs (hsz:=hz) (jB ry) dd λh' Pe hs=>h _ ?_
  have he:∃q,h'.get? a=some q:=let ⟨q,_,_,hq,_⟩:=Pe;⟨q,hq⟩
  exact m_ I (by rw[e];exact True.intro) hs he (vL hl hd (rel.put k rv) Pe)
 .subst ey eH
  cases (show u=Value.ref b from ry)
  obtain⟨z,hd,xs,rel,dd⟩:=FM I.hok e
  have hz:xs.length<=sizeLine:=by rw[<-Paired.length rel];exact z
  have hl:(fk kvs k v).length<=sizeLine:=by have:=fm kvs k v;omega
  refine wpAny_setItem_heap (hsz:=hz) (XC hu) (eh I.hok eb) dd λh' Pe hs=>h _ ?_
  obtain⟨q,es,ep,hq,h2,h3,h4,_,h5⟩:=Pe
  refine m_ I (by rw[e];exact True.intro) hs ⟨q,hq⟩ ⟨hl,hd,_,(rel.put k eb rv).keeps λc ys ec=>?_,q,es,ep,hq,h2,h3,h4,h5⟩
  rw[aw (Fi ec e (λz=>nomatch z))]
  exact ec
end
section
variable {X:Cx}{pins:Va}{σ:St}{H:Hp}{s:Shared}{a:Addr}{kvs:List (bp×V)}{k:bp}{u:Value}{A:Around}{E:Vq}
def FO{Q:Vq}(I:Inv X pins σ H s)(e:Rd H a (.dK kvs))(h:∀t s',Inv X pins σ H s'->Q (.int kvs.length t) s'):wpAny (model X.prog X.w) A (call (.builtin "len") [.ref a]) Q E s:=by
 obtain⟨z,hd,vs,rel,dd⟩:=mi I.hok e
 refine call_len_dict hd dd (by rw[<-rel.length];rw[sizeLine_eq]at z;omega) ?_
 rw[<-rel.length]
 exact h _ _ (I.tok _)
end
def o9{X:Cx}{pins:Va}{σ:St}{H:Hp}{s:Shared}{a:Addr}{y:V}{o:Option V}(I:Inv X pins σ H s)(g:DGet H a y o):s.TypeIs (.ref a) "dict":=by
 rcases g with⟨kvs,k,e,_,_⟩|⟨kvs,k,b,e,_,_,_⟩
 .obtain⟨_,_,vs,_,dd⟩:=mi I.hok e
  exact dd.typeIs
 .obtain⟨_,_,xs,_,dd⟩:=o8 I.hok e
  exact dd.typeIs
def vM{P:Program}{w:World}{H:Hp}(h:Heap)(hb:sysModules < h.objs.size):JS P w H (h.push { cls:=.type "dict",data:=.dict #[] }) h.objs.size (.dK []):=
 ⟨UZ _,WU.mpr (VI (Vm hb)),[],.nil,Heap.DictOf.new h⟩
noncomputable def ng:List (TE×TE)->St->Hp->(List (V×V)->Hp->Prop)->Prop
 |[],_,H,Q=>Q [] H
 |(tk,tv)::r,σ,H,Q=>tk σ H λx H1=>tv σ H1 λy H2=>ng r σ H2 λps H3=>Q ((x,y)::ps) H3
noncomputable abbrev VV:List (V×V)->List (Value×Value)->Prop:=Paired λp q=>RelV p.1 q.1/\RelV p.2 q.2
def FP(X:Cx)(pos:Pos)(keys:List (Option Expr))(values:List Expr)(Mb:List (TE×TE)):Prop:=
 ∀(pins:Va)(s:Shared)(σ:St)(H:Hp)(Q:List (V×V)->Hp->Prop),Inv X pins σ H s->ng Mb σ H Q->
  wpAny (model X.prog X.w) X.A (evalPairs (pairTrees keys values X.env pos)) (λvs s'=>∃ps H',Inv X pins σ H' s'/\VV ps vs/\Q ps H') X.xe s
def zO{X:Cx}{pos:Pos}:FP X pos [] [] []:=λpins s σ H Q I h=>pairTrees_nil_walk ⟨[],H,I,.nil,h⟩
def vN{X:Cx}{pos:Pos}{k v:Expr}{ks:List (Option Expr)}{vs:List Expr}{tk tv:TE}{Mb:List (TE×TE)}(hk:PE X k tk)(hv:PE X v tv)(hr:FP X pos ks vs Mb) :
  FP X pos (some k::ks) (v::vs) ((tk,tv)::Mb):=λpins s σ H Q I h=>
 pairTrees_cons_walk (JN (hk pins s σ H _ I h) λu s1 ⟨x,H1,I1,rx,q1⟩=>JN (hv pins s1 σ H1 _ I1 q1) λw2 s2 ⟨y,H2,I2,ry,q2⟩=>
  JN (hr pins s2 σ H2 _ I2 q2) λws s3 ⟨ps,H3,I3,rel,q3⟩=>⟨(x,y)::ps,H3,I3,.cons ⟨rx,ry⟩ rel,q3⟩)
noncomputable def ei(kvs more:List (bp×V)):List (bp×V):=more.foldl (λacc kv=>fk acc kv.1 kv.2) kvs
def KV.merge:∀{more:List (bp×V)}{rs:List (bp×Value)}{kvs:List (bp×V)}{vs:List (bp×Value)},KV more rs->KV kvs vs->KV (ei kvs more) (merged vs rs):=by
 intro more rs kvs vs r
 unfold KV at r
 induction r generalizing kvs vs with
 |nil=>intro q;exact q
 |@cons p q ps qs h t ih=>
  intro r0
  have e:KV (fk kvs p.1 p.2) (stored vs q.1 q.2):=by
   have:=r0.put p.1 h.2
   rw[<-h.1];exact this
  exact ih e
theorem dO:∀(more kvs:List (bp×V)),(ei kvs more).length<=kvs.length+more.length
 |[],kvs=>by show kvs.length<=kvs.length+0;omega
 |p::r,kvs=>by
  have h1:=dO r (fk kvs p.1 p.2)
  have h2:=fm kvs p.1 p.2
  show(ei (fk kvs p.1 p.2) r).length<=_
  rw[UQ];omega
theorem kD{P:Program}{w:World}:∀{kvs:List (bp×V)}{ws:List (Value×Value)},VV (kvs.map λkv=>(kV kv.1,kv.2)) ws->∃rs,Carries (aW P w) ws rs/\KV kvs rs
 |[],_,r=>by rw[Ve]at r;cases r;exact⟨[],True.intro,.nil⟩
 |p::kvs,_,r=>by
  rw[UE]at r
  cases r with
  |@cons a b as bs h t=>
   obtain⟨rs,c,q⟩:=kD (P:=P) (w:=w) t
   obtain⟨b1,b2⟩:=b
   exact⟨(p.1,b2)::rs,⟨jB h.1,rfl,c⟩,.cons ⟨rfl,h.2⟩ q⟩
def FQ(Mb:List (TE×TE)):TE:=λσ H Q=>∀p,H p=none->ng Mb σ (upd H p (.dK [])) λps H2=>H2 p=some (.dK [])/\∃kvs:List (bp×V),ps=kvs.map (λkv=>(kV kv.1,kv.2))/\kvs.length<=15/\Q (.ref p) (upd H2 p (.dK (ei [] kvs)))
def zP{X:Cx}{pos:Pos}{keys:List (Option Expr)}{values:List Expr}{Mb:List (TE×TE)}(h:FP X pos keys values Mb)(hall:keys.all (·.isSome)=true)(hl:keys.length=values.length)(h0:keys≠[])
  (Ra:keys.length<=15):PE X (.Dict keys values pos) (FQ Mb):=by
 intro pins s σ H Q I q
 have hn:=I.hok.fresh (UH s.heap.objs.size)
 have I1:=I.laid (a:=s.heap.objs.size) (o:=.dK []) (h':=s.heap.push { cls:=.type "dict",data:=.dict #[] }) (t':=s.toks) (λ_ _ q=>UG _ q) (UH _) (vM s.heap I.big)
 refine wpAny_Dict_walk (knd:=aW X.prog X.w) hall hl h0 Ra (JN (h pins _ σ _ _ I1 (q _ hn)) λws s2 ⟨ps,H2,I2,rel,e,kvs,ep,lk,q2⟩=>?_)
 subst ep
 obtain⟨rs,c,rk⟩:=kD (P:=X.prog) (w:=X.w) rel
 obtain⟨z,hd,vs0,r0,dd⟩:=si I2.hok e
 cases r0
 refine⟨rs,c,dd,λh' Pe hs=>⟨.ref s.heap.objs.size,_,?_,rfl,q2⟩⟩
 have hz:(ei [] kvs).length<=sizeLine:=by
  have h1:=dO kvs []
  rw[Wr]at h1
  rw[sizeLine_eq];omega
 have he:∃q,h'.get? s.heap.objs.size=some q:=let ⟨q,_,_,hq,_⟩:=Pe;⟨q,hq⟩
 exact m_ I2 (by rw[e];exact True.intro) hs he (vL hz hd (rk.merge .nil) Pe)
end L2
namespace Att
open PySem PySem.W PySem.Calls PyProof.Rows
def jY{P:Params}{h:Heap}:∀(ns:Vu)(vs:Vv),WellAll P h vs (ns.map WData.int)->IntsAre vs ns:=by
 intro ns
 induction ns with
 |nil=>
  intro vs w
  rw[Ve]at w
  cases w
  exact .nil
 |cons n ns ih=>
  intro vs w
  rw[UE]at w
  cases w with
  |cons a b=>
   cases a
   exact .cons _ _ (ih _ b)
def t9{l:OpenLaw}{n:Nat}(hn:l.most=some n){P:Params}{h:Heap}{args:List WData}{vals:Vv}
  (hpre:l.row.toRowW.claim.pre args=true) (hwl:WellAll P h vals args) :
  ∃a vs ns,vals=[Value.ref a]/\args=[WData.list (ns.map WData.int)]/\h.get? a=some { cls:=.type "list",data:=.seq vs.toArray }/\IntsAre vs ns/\ns.length<=n:=by
 have hsh:WShape.hasAll [] args [.list .int]=true:=(pre_splitW hpre).1
 have hc:l.pre.holds [] { args:=args }=true:=(pre_splitW hpre).2
 obtain⟨d,r,rfl,h1,h2⟩:=hasAllW_cons hsh
 obtain rfl:=hasAllW_nil h2
 obtain⟨xs,rfl,h3⟩:=hasW_list h1
 obtain⟨ns,rfl⟩:=items_int h3
 have hlen:ns.length<=n:=by
  unfold OpenLaw.pre at hc
  have h4:(WTm.not (.lt (.lit (.int (n:Int))) (.len (.arg 0)))).holds [] { args:=[.list (ns.map .int)] }=true:=by
   have h4:=(holds_andW hc).1
   rw[hn]at h4
   exact h4
  have h5:=condW_of h4 (w_not (w_lt w_lit (w_len_list (w_arg rfl))))
  rw[UJ]at h5
  refine Nat.le_of_not_lt λq=>?_
  have q':(n:Int) < ((ns.length:Nat):Int):=by omega
  first
   |(rw[U1 q']at h5;exact absurd h5 (by decide))
   |(simp at h5;omega)
 cases hwl with
 |cons w1 w2=>
  cases w2
  cases w1 with
  |list ho hall=>exact⟨_,_,ns,rfl,rfl,ho,jY ns _ hall,hlen⟩
def t_(l:OpenLaw)(args:List WData):l.row.toRowW.claim.post args (.bool true) args=true:=
 postW_of (r:=l.row.toRowW) (X:=(true == true))
  (show WShape.has [] (.bool true) .bool=true by first|rfl|decide|simp[WShape.has,WShape.arms,WShape.armsAll])
  (show(WTm.eq .res (.lit (.bool true))).value [] { args:=args,res:=some (.bool true),after:=args }=some (.bool (true == true))from w_eq_bool (w_res rfl) w_lit) rfl
def o_{l:OpenLaw}{n:Nat}{q:Program}{loose:Vs}{XP:(Vr)->Heap->Prop}{YP:World->Heap->Prop}{d:DefRec}
  (hn:l.most=some n) (hdf:d.params.defaults=[])
  (call:∀(w:World)(s₀ s₁:Shared)(mg mb:Vr)(fa:Addr)(o:Obj)(pm cd doc:Value)(a:Addr)(vs:Vv)(ns:Vu),
   Ground q loose [] XP w s₀ mg mb s₁.heap->YP w s₁.heap->
   s₁.heap.get? fa=some o->o.data = .func (docDef d.name d.params d.body d.scope pm cd doc)->s₁.heap.CodeRec cd d.name->mg d.name=some (.ref fa)->
   s₁.heap.get? a=some { cls:=.type "list",data:=.seq vs.toArray }->IntsAre vs ns->ns.length<=n->s₁.gens=#[]->
   codeAny (model l.prog w) callerA (.call (.ref fa) ⟨[.ref a],[]⟩) (λr s'=>r = .ok (.ret (.bool true))/\OldK s₁.heap s'.heap/\s'.os=s₁.os/\AllBare s'.gens) s₁) :
  WalkO q loose XP YP l.row.toRowW d [] (λf vs=>PySem.call f vs):=by
 intro w s₀ s₁ mg mb G Y fa o pm cd doc dV kV ho hd hcd hD hmg hg args vals as hpre hlay hrd hwl hlo
 obtain rfl:dV = .none:=Dflts.none hD hdf
 obtain rfl:kV = .none:=Dflts.noKw hD
 obtain⟨a,vs,ns,rfl,rfl,hobj,hints,hlen⟩:=t9 hn hpre hwl
 refine enter_call (Xj (call w s₀ s₁ mg mb fa o pm cd doc a vs ns G Y ho (fd_plain hd) hcd hmg hobj hints hlen hg) λr s' hq=>?_)
 obtain⟨rfl,h2,h3,h4⟩:=hq
 exact⟨.inl ⟨.bool true,.bool true,[],rfl,λ_=>rfl,.bool true,t_ l _,λ_=>⟨List.Pairwise.nil,λ_ hm=>(nomatch hm)⟩⟩,h2,h3,h4⟩
end Att
namespace L2
open PySem PySem.Spec PyProof.Rows
theorem mj:∀{vs:Vv}{ns:Vu},IntsAre vs ns->Vals (ns.map V.int) vs
 |_,_,.nil=>.nil
 |_,_,.cons n t h=>.cons ⟨t,rfl⟩ (mj h)
def zQ(H:Hp):Prop:=∀b,H b=none\/∃o xs,H b=some (.frz o (.lst xs))
def vO{P:Program}{w:World}{K:Vo}{mg mb:Vr}{CX:vy}{k:Nat}{fa a:Addr}{fd:FuncData}{x:Str}{sp:Sp}{s₁:Shared}{vs:Vv}{ns:Vu}
  (KX:K.In s₁.heap) (hns:s₁.heap.Ns mainGlobals mg) (hb:s₁.heap.Ns builtinsNs mb) (Ta:∀x:Str,x ≠ "__name__"->mb x=bootBuiltins x) (hlim:s₁.heap.NoLimit) (hg:s₁.gens=#[])
  (ha:s₁.heap.get? a=some { cls:=.type "list",data:=.seq vs.toArray }) (hi:IntsAre vs ns) (hl:ns.length<=sizeLine) (hr:gB k callerA)
  (F:∀base:Heap,K.In base->base.Ns mainGlobals mg->lQ P w K mg base CX k fa fd [x] sp) (hbind:∀(s:Shared)(u:Value),BindsTo s fd ⟨[u],[]⟩ [(x,u)]) (hfl:FL fd [x])
  (NW:∀H:Hp,zQ H->SqL K H a (ns.map V.int)->sp [.ref a] H (λv _=>v = .bl true) λ_ _ _=>False)
  (Rb:∀H e s',CX [] H s₁ (λ_ _ _=>False) e s'->False) :
  codeAny (model P w) callerA (.call (.ref fa) ⟨[.ref a],[]⟩) (λr s'=>r = .ok (.ret (.bool true))/\OldK s₁.heap s'.heap/\s'.os=s₁.os/\AllBare s'.gens) s₁:=by
 have rv:=mj hi
 have Rc:=hi.length
 -- from an abstract heap in which nothing but the script may be tracked
 have core:∀H:Hp,zQ H->SqL K H a (ns.map V.int)->K9 P w H s₁.heap->(∀b,H b≠none->b=a)->(H a≠none->K.lookup a=none)->
   codeAny (model P w) callerA (.call (.ref fa) ⟨[.ref a],[]⟩) (λr s'=>r = .ok (.ret (.bool true))/\OldK s₁.heap s'.heap/\s'.os=s₁.os/\AllBare s'.gens) s₁:=by
  intro H hO hS hok hA hK
  have No:∀{b:Addr}{o:Obj},s₁.heap.get? b=some o->H b=none->(mQ s₁.heap H).get? b=some o:=λe n=>vc e n
  have P1:∀{b:Addr}{o:Obj}{es:Array DictEntry}{ep:Nat},s₁.heap.get? b=some o->o.data = .dict es ep->H b=none:=λ{b o es ep} e d=>by
   cases q:H b with
   |none=>rfl
   |some u=>
    have e':b=a:=hA b (by rw[q];simp)
    subst e'
    rw[ha]at e;cases e
    have d':Data.seq vs.toArray _=Data.dict es ep:=d
    cases d'
  have QJ:∀{b:Addr}{m:Vr},s₁.heap.Ns b m->(mQ s₁.heap H).Ns b m:=λ{b m} ⟨o,es,ep,e,d,r⟩=>⟨o,es,ep,No e (P1 e d),d,r⟩
  have Sj:K.In (mQ s₁.heap H):=λb o e=>No (KX b o e) (by
   cases q:H b with
   |none=>rfl
   |some u=>
    have e':b=a:=hA b (by rw[q];simp)
    subst e'
    rw[hK (by rw[q];simp)]at e;cases e)
  have hM:Mod K mg (mQ s₁.heap H):=⟨Sj,QJ hns,⟨mb,QJ hb,Ta⟩,let ⟨mc,h1,h2⟩:=hlim;⟨mc,QJ h1,h2⟩⟩
  have e0:M_ P w K mg (mQ s₁.heap H) callerA [] s₁ H:=⟨rfl,hM,λb o e=>zp e,Nat.le_of_eq (tQ _ _),trivial,λb hb=>absurd (show b∈([]:List Addr)from hb) (by simp),hok,.of_eq hg⟩
  refine Xj ((F _ Sj (QJ hns)).run callerA [] s₁ H ⟨[.ref a],[]⟩ [.ref a] [.ref a] _ _ hr (.inr hfl) e0 (hbind s₁ (.ref a)) (.cons rfl .nil) (NW H hO hS)) λr s' h=>?_
  cases r with
  |error e=>exact(Rb H e s' h).elim
  |ok fl=>
   cases fl with
   |next=>exact False.elim h
   |brk=>exact False.elim h
   |cont=>exact False.elim h
   |ret u=>
    obtain⟨v,H',os,bare,un,Re,r',q⟩:=h
    have q':v = .bl true:=q
    subst q'
    obtain rfl:u=Value.bool true:=r'
    refine⟨rfl,OldK.of_keep λb o e=>?_,os,bare⟩
    cases q:H b with
    |none=>exact un.keep b o e q (by intro z;exact absurd (show b∈([]:List Addr)from z) (by simp)) (by simp)
    |some u=>
     rcases hO b with z|⟨ob,xs,z⟩
     .rw[q]at z;cases z
     .have z2:=un.Mn b ob _ z
      obtain⟨e1,_⟩:=hok b _ z
      obtain⟨e2,_⟩:=Re b _ z2
      rw[e]at e1;cases e1
      exact e2
 cases hk:K.lookup a with
 |some o=>
  -- the script is one of the module's own objects
  have e:=KX a o hk
  rw[ha]at e
  cases e
  refine core (λ_=>none) (λ_=>.inl rfl) (.inr ⟨_,vs.toArray,_,hk,rfl,rfl,rfl,by rw[UX,Rc];exact hl,by simpa using rv⟩) (λb u z=>by have z':(none:Option HO)=some u:=z;cases z') (λb z=>absurd rfl z) λz=>absurd rfl z
 |none=>
  refine core (λb=>if b=a then some (.frz { cls:=.type "list",data:=.seq vs.toArray } (.lst (ns.map V.int))) else none) (λb=>?_) (.inl (.inr ⟨{ cls:=.type "list",data:=.seq vs.toArray },if_pos rfl⟩)) (λb u z=>?_) (λb z=>?_) λ_=>hk
  .by_cases hb:b=a
   .exact .inr ⟨_,_,if_pos hb⟩
   .exact .inl (if_neg hb)
  .by_cases hb:b=a
   .have z':=(if_pos hb).symm.trans z
    cases z'
    subst hb
    exact⟨ha,by rw[UJ];exact hl,vs,_,rv,ha⟩
   .have z':=(if_neg hb).symm.trans z
    cases z'
  .by_cases hb:b=a
   .exact hb
   .exact absurd (if_neg hb) z
def zR{l:PySem.W.OpenLaw}{n k:Nat}{q:Program}{loose:Vs}{XP:(Vr)->Heap->Prop}{YP:World->Heap->Prop}{d:DefRec}{K:Params->PySem.W.Frag}{CX:World->vy}{sp:World->Sp}{x:Str}
  (hn:l.most=some n) (hn2:n<=sizeLine) (hdf:d.params.defaults=[]) (hr:gB k callerA)
  (hY:∀(w:World)(h:Heap),YP w h->(K w.params).In h)
  (F:∀(w:World)(mg:Vr)(fa:Addr)(h:Heap),(K w.params).In h->h.Ns mainGlobals mg->mg d.name=some (.ref fa)->
   ∃fd:FuncData,FL fd [x]/\(∀(s:Shared)(u:Value),BindsTo s fd ⟨[u],[]⟩ [(x,u)])/\
    ∀base:Heap,(K w.params).In base->base.Ns mainGlobals mg->lQ l.prog w (K w.params) mg base (CX w) k fa fd [x] (sp w))
  (NW:∀(w:World)(H:Hp)(a:Addr)(ns:Vu),ns.length<=n->zQ H->SqL (K w.params) H a (ns.map V.int)->sp w [.ref a] H (λv _=>v = .bl true) λ_ _ _=>False)
  (Rb:∀(w:World) (H:Hp) (s:Shared) (e:Value) (s':Shared),CX w [] H s (λ_ _ _=>False) e s'->False) :
  PySem.W.WalkO q loose XP YP l.row.toRowW d [] (λf vs=>PySem.call f vs):=by
 refine Att.o_ hn hdf λw s₀ s₁ mg mb fa o pm cd doc a vs ns G Y ho hd hcd hmg hobj hints hlen hg=>?_
 have KX:=hY w _ Y
 obtain⟨fd,hfl,hb,hF⟩:=F w mg fa _ KX G.T.g hmg
 exact vO KX G.T.g G.T.b G.T.builtins G.T.nolimit hg hobj hints (UN hlen hn2) hr hF hb hfl (λH hO hS=>NW w H a ns hlen hO hS) λH e s'=>Rb w H s₁ e s'
noncomputable def cW(s:Stmt):Arguments:=match s with
 | .FunctionDef _ a _ _ _ _ _ _ _ _=>a
 |_=>{ posonlyargs:=[],args:=[],vararg:=none,kwonlyargs:=[],kw_defaults:=[],kwarg:=none,defaults:=[] }
noncomputable def bj(s:Stmt):List Stmt:=match s with
 | .FunctionDef _ _ b _ _ _ _ _ _ _=>b
 |_=>[]
noncomputable def aC(s:Stmt):Scope:=match s with
 | .FunctionDef _ _ _ _ _ _ sc _ _ _=>sc
 |_=>{ kind:=.function,names:=[],isGenerator:=false,isCoroutine:=false }
noncomputable abbrev oP:vy:=λ_ _ _ _ _ _=>False
noncomputable abbrev E0:XK:=λ_ _ _=>False
def BK{X:Cx}:mU oP X E0:=λ_ _ _ _ _ _ _ _ h=>h.elim
structure N5(K:Vo)(x qual:Str)(st:Stmt)(f:Addr)(fd:FuncData):Prop where
 ex:∃(oc:Value)(od:Option Addr)(kV doc pm:Value)(an:Option Addr)(cdv ct:Value)(osl:Array (Option Value)),
  fd=PySem.W.fnOf x qual (cW st) (bj st) (aC st) .none kV doc pm an cdv ct/\K.lookup f=some ⟨oc,od,.func fd,osl⟩/\PySem.W.codeIn K cdv qual=true
 kp:PySem.W.keepIn K (.ref f)=true
section
variable {P:Program}{w:World}{K:Vo}{mg:Vr}{base:Heap}
def N5.ok{cm:Bool}{x qual:Str}{st:Stmt}{f:Addr}{fd:FuncData}{N ps:Vs}{k:Nat}{sp:Sp}(F:N5 K x qual st f fd)(S:b5 N ps (aC st))(len:∀vs H Q E,sp vs H Q E->vs.length=ps.length)
  (hbody:∀(cdv:Value)(A:Around)(outer:List Env)(s:Shared)(H:Hp)(vs:List V)(Q:VK)(E:XK),RoomG cm k (A.deeper (envOfC qual (aC st) s.heap.objs.size f cdv))->sp vs H Q E->
   ∃t,Mk (gH cm oP P w K mg base N qual (aC st) f cdv A outer s H E).OR (bj st) t/\t { nx:=λ_ H'=>Q .non H',rt:=Q } (fh N vs) H):gG cm P w K mg base oP (k+1) f fd ps sp:=by
 obtain⟨oc,od,kV,doc,pm,an,cdv,ct,osl,rfl,lk,hcd⟩:=F.ex
 refine BH lk hcd S len λA outer s H vs Q E hr NW=>?_
 obtain⟨t,h,q⟩:=hbody cdv A outer s H vs Q E hr NW
 exact⟨t,h.OR,q⟩
def N5.binds{x qual:Str}{st:Stmt}{f:Addr}{fd:FuncData}{ps:Vs}(F:N5 K x qual st f fd)
  (h:∀(kV doc pm:Value)(an:Option Addr)(cdv ct:Value)(us:Vv),us.length=ps.length->bindArgs (PySem.W.fnOf x qual (cW st) (bj st) (aC st) .none kV doc pm an cdv ct) ⟨us,[]⟩=pure (ps.zip us)):Binds K fd ps []:=by
 obtain⟨oc,od,kV,doc,pm,an,cdv,ct,osl,rfl,lk,hcd⟩:=F.ex
 exact .all (h kV doc pm an cdv ct)
def nh{x qual:Str}{st:Stmt}{f:Addr}{oc:Value}{od an:Option Addr}{osl:Array (Option Value)}{kV doc pm cdv ct:Value}(l:K.lookup f=some ⟨oc,od,.func (PySem.W.fnOf x qual (cW st) (bj st) (aC st) .none kV doc pm an cdv ct),osl⟩)
  (c:PySem.W.codeIn K cdv qual=true) (k:PySem.W.keepIn K (.ref f)=true):N5 K x qual st f (PySem.W.fnOf x qual (cW st) (bj st) (aC st) .none kV doc pm an cdv ct):=⟨⟨oc,od,kV,doc,pm,an,cdv,ct,osl,rfl,l,c⟩,k⟩
end
def d0{n:Nat}(h:n<=1000):n < sizeLine:=XE h (by decide)
section
variable {X:Cx}
def pv(i:Nat){x:Str}{pos:Pos}(hN:X.N[i]?=some x:=by rfl)(hv:Fk X.env.scope x:=by walk_at "c")(hd:(x == ("__debug__":Str))=false:=by decide)
  (hcd:(x == ("__classdict__":Str))=false:=by decide):PE X (.Name x pos) (oV i):=vg hN hv hd hcd
def ua:dg X (.builtin "len") (λxs H Q=>∃a kvs,xs=[V.ref a]/\H a=some (.dK kvs)/\Q (.int kvs.length) H):=by
 intro pins s σ H xs us Q I r h
 obtain⟨a,kvs,rfl,ha,q⟩:=h
 obtain⟨u,rfl,ru⟩:=dh r
 cases ru
 exact FO I (.inl ha) λt s' I'=>⟨.int kvs.length,H,I',⟨t,rfl⟩,q⟩
end
end L2
set_option maxHeartbeats 4000000
namespace L2
open PySem PySem.Spec PyProof.Rows
def lS{prog:Program}{w:World}{A:Around}{R:Result->Shared->Prop}{s:Shared}{elt target iter:Expr}{ifs:List Expr}{scope:Scope}{pos:Pos}{it acc:Value}{env:Env}(I:Nat->Shared->Prop)
  (turn:∀n s,I n s->wpAny (model prog w) A (pyNext it) (λr s₁=>match r with
   |none=>R (.ok .next) s₁
   |some v=>wpAny (model prog w) A (letOwnedTupleGo target it v) (λ_ s₁'=>wpAny (model prog w) A (assign target env v) (λ_ s₂=>
     wpAny (model prog w) A (forIn ifs true λc r=>if r=true then do let ok <-isTrue c env (eval c env);pure (ForInStep.yield ok) else pure (ForInStep.yield r)) (λok s₃=>
      if ok=true then wpAny (model prog w) A (eval elt env) (λx s₄=>
       wpAny (model prog w) A (call (.builtin "list.append") [acc,x]) (λ_ s₅=>∃m,m < n/\I m s₅) (λ_ _=>False) s₄) (notedBy (model prog w) A env λx s'=>R (.error x) s') s₃
      else ∃m,m < n/\I m s₃) (λ_ _=>False) s₂) (λ_ _=>False) s₁') (λ_ _=>False) s₁) (λ_ _=>False) s)
  (n:Nat) (h:I n s) :
  codeAny (model prog w) A (.compLoop (.ListComp elt [⟨target,iter,ifs,0⟩] scope pos) 0 it acc env) R s:=by
 refine codeAny_loop rfl I (λn s hI=>?_) n h
 show wpAny _ A ((compTurn (.ListComp elt [⟨target,iter,ifs,0⟩] scope pos) 0 it acc env).onRaise (λx=>do noteFrame x env;theTreesLotGoes x)) _ _ s
 refine wpAny_noted ?_
 rw[compTurn_list]
 refine UD (WQ (UD (V8 (turn n s hI) (λr s₁ h₁=>?_) λ_ _ h'=>h'.elim)))
 cases r with
 |none=>exact UL h₁
 |some v=>
  refine UD (V8 h₁ (λ_ s₁' h₁'=>?_) λ_ _ h'=>h'.elim)
  refine UD (V8 h₁' (λ_ s₂ h₂=>UD (V8 h₂ (λok s₃ h₃=>?_) λ_ _ h'=>h'.elim)) λ_ _ h'=>h'.elim)
  cases ok with
  |false=>exact UL ⟨rfl,h₃⟩
  |true=>
   exact UD (UD (V8 h₃ (λx s₄ h₄=>UD (V8 h₄ (λ_ s₅ h₅=>UL (UL ⟨rfl,h₅⟩)) λ_ _ h'=>h'.elim)) λ_ _ h'=>h'))
structure Bk where
 C:Addr
 s:Shared
 H:Hp
 fp:List Addr
 pn:Va
noncomputable def bF(env:Env)(fs:Vs):List (Str×Addr):=fs.map λx=>(x,(env.cells.lookup x).getD 0)
noncomputable abbrev Cx.Ku(X:Cx)(N:Vs)(scope:Scope)(fs:Vs)(B:Bk):Cx:=
 { X with N:=N,s₀:=B.s,H₀:=B.H,env:=compEnvC scope (bF X.env fs) B.C X.env,outer:=X.stack,ex:=B.fp,fn:=λ_=>false,pn:=B.pn,xe:=λ_ _=>False }
noncomputable def bJ(env:Env):List Str->Prop
 |[]=>True
 |x::r=>(∃c,env.cells.lookup x=some c)/\bJ env r
theorem jC{env:Env}:∀{fs:Vs},bJ env fs->∀{x:Str}{c:Addr},(bF env fs).lookup x=some c->env.cells.lookup x=some c
 |[],_,x,c,h=>by cases h
 |y::r,k,x,c,h=>by
  obtain⟨⟨d,hd⟩,k⟩:=k
  have h':List.lookup x ((y,(env.cells.lookup y).getD 0)::bF env r)=some c:=h
  rw[Xl]at h'
  cases e:x == y with
  |true=>
   rw[e]at h'
   have e':x=y:=by simpa using e
   subst e'
   rw[hd]at h'
   rw[hd]
   exact h'
  |false=>
   rw[e]at h'
   exact jC k h'
noncomputable def hasB(names:List (Str×NameKind))(cl:List (Str×Addr)):Bool:=names.all λy=>(y.2 != .cell&&y.2 != .free) || (cl.lookup y.1).isSome
def vP{names:List (Str×NameKind)}{cl:List (Str×Addr)}{x:Str}{k:NameKind}(h:hasB names cl=true)(e:names.lookup x=some k)(hk:k = .cell\/k = .free):∃c,cl.lookup x=some c:=by
 have hm:(x,k)∈names:=Wn e
 have q:=VD.mp h _ hm
 have z:(cl.lookup x).isSome=true:=by
  rcases hk with rfl|rfl
  .simpa using q
  .simpa using q
 exact Option.isSome_iff_exists.mp z
noncomputable def J3(env:Env)(scope:Scope)(cl:List (Str×Addr)):List Str->Prop
 |[]=>True
 |x::r=>((env.scope.names.lookup x=some .cell\/env.scope.names.lookup x=some .free)/\((relabel scope env).names.lookup x=some .cell\/(relabel scope env).names.lookup x=some .free)/\cl.lookup x=env.cells.lookup x)/\J3 env scope cl r
theorem J3.mem{env:Env}{scope:Scope}{cl:List (Str×Addr)}:∀{l:Vs},J3 env scope cl l->∀x∈l,
  (env.scope.names.lookup x=some .cell\/env.scope.names.lookup x=some .free)/\((relabel scope env).names.lookup x=some .cell\/(relabel scope env).names.lookup x=some .free)/\cl.lookup x=env.cells.lookup x
 |[],_,x,h=>nomatch h
 |y::r,k,x,h=>by
  rcases UI.mp h with rfl|h
  .exact k.1
  .exact J3.mem k.2 x h
noncomputable def di(own:Nat)(fr:List Nat)(σ:St):St:=List.replicate own none++fr.map λj=>(σ[j]?).getD none
noncomputable abbrev i5(us:Vv):Obj:={ cls:=.type "list",data:=.seq us.toArray us.length }
def ub(us:Vv)(u:Value):({ cls:=.type "list",data:=.seq (us.toArray.push u) (us.length+1) }:Obj)=i5 (us++[u]):=by
 show({ cls:=.type "list",data:=.seq (us.toArray.push u) (us.length+1) }:Obj)={ cls:=.type "list",data:=.seq (us++[u]).toArray (us++[u]).length }
 rw[UK,V2,List.push_toArray]
section
variable {X:Cx}{pins:Va}{σ:St}{H:Hp}{s:Shared}
def Inv.P4{D:Addr}{us:Vv}{n:Nat}{ys:List V}(I:Inv X pins σ H s)(f:JV X pins H D)(e:s.heap.get? D=some { cls:=.type "list",data:=.seq us.toArray n })(r:Vals ys us)(hz:ys.length<=sizeLine) :
  Inv X pins σ (upd H D (.lst ys)) s:=by
 obtain⟨f0,f1,f2,f3,f4,f5⟩:=f
 have nD:∀b u,H b=some u->b≠D:=λb u q=>aV q f0
 have hok:K9 X.prog X.w (upd H D (.lst ys)) s.heap:=λb u q=>by
  by_cases hb:b=D
  .subst hb
   rw[au]at q
   cases q
   exact⟨hz,us,n,r,e⟩
  .rw[aw hb]at q
   exact(I.hok b u q).stay (λ_ _ _ z=>z) (λc z=>by rw[aw (nD c _ z)];exact z) λc xs z=>by rw[aw (nD c _ z)];exact z
 exact I.step (H':=upd H D (.lst ys)) (h':=s.heap) (g':=s.gens) (t':=s.toks) (d':=s.drawn) (ch:=[D])
  (λb hb=>by
   have z:b=D:=by simpa using hb
   subst z
   exact⟨f3,f1,f4,f5⟩)
  (λ_ _ _ _ _ q _=>q) (λ_ o _ _ _ q _=>⟨o.slots,q⟩)
  (λb o hb _ n=>by rw[aw (λz=>hb (by simp[z]))];exact n)
  (λ_ o _ q=>⟨o,q⟩) (λb xs q=>by rw[aw (nD b _ q)];exact q) (λb o u q=>by rw[aw (nD b _ q)];exact q)
  (λb ps q=>⟨#[],by rw[aw (nD b _ q),q];simp⟩) (λ_ q=>q) hok I.bare
def C8{N:Vs}{scope:Scope}{fs:Vs}{C:Addr}{fp:List Addr}(I:Inv X pins σ H s)(hkind:scope.kind = .function)(hC:s.heap.objs.size<=C)(hcl:bJ X.env fs)
  (hhas:hasB (relabel scope X.env).names (bF X.env fs)=true) (hf:∀b∈fp,JV X pins H b) (hlt:∀b∈fp,b < s.heap.objs.size):(X.Ku N scope fs ⟨C,s,H,fp,X.pn++pins⟩).Ok where
 mod:=I.ok.mod
 kind:=hkind
 glob:=I.ok.glob
 blt:=I.ok.blt
 above:=hC
 inj:=λx y c h1 h2=>I.ok.inj x y c (jC hcl h1) (jC hcl h2)
 has:=λx hx=>by
  rcases hx with e|e
  .exact vP hhas e (.inl rfl)
  .exact vP hhas e (.inr rfl)
 Nm:=λx c h=>by cases h
 hd:=I.ok.hd
 frames:=I.ok.frames
 stk:=.inl rfl
 NZ:=λb hb=>⟨Vm (UU (hlt b hb) hC),λx c e=>(hf b hb).2.2.2.2.1 x c (jC hcl e)⟩
 bs:=I.bs
 MH:=UN I.ok.MH I.sz
 LF:=λb o e hb=>(hf b hb).2.2.2.1.elim (λz=>I.ok.LF b o e z) λz=>absurd (UU (US e) (UN I.ok.MH z)) (Wc _)
 LL:=λb hb z=>(UI.mp (I.Lz b z)).elim (hf b hb).2.1 (hf b hb).2.2.1
 KB:=I.stack
 M6:=I.Mx
def zS{N:Vs}{scope:Scope}{fs:Vs}{C D:Addr}{fp:List Addr}{own:Nat}{fr:List Nat}{h₁:Heap}{m0:Vr}{t':Nat}(I:Inv X pins σ H s)
  (ok:(X.Ku N scope fs ⟨C,s,H,fp,X.pn++pins⟩).Ok) (hC:s.heap.objs.size<=C) (hD:s.heap.objs.size<=D) (hDC:D≠C) (hcl:bJ X.env fs)
  (old:∀b o,s.heap.get? b=some o->h₁.get? b=some o) (hns:h₁.Ns C m0) (hacc:h₁.get? D=some (i5 [])) (hlen:N.length=own+fr.length) (hN:(N.drop own).map some=fr.map λj=>X.N[j]?)
  (hF:J3 X.env scope (bF X.env fs) (N.drop own)) (ht:1<=t':=by walk_at "t") :
  Inv (X.Ku N scope fs ⟨C,s,H,fp,X.pn++pins⟩) [(D,i5 [])] (di own fr σ) H { s with heap:=h₁,toks:=t' }:=by
 refine⟨ok,rfl,I.bare,Un.kept old,⟨m0,hns,λi x v e1 e2 e3=>?_⟩,λx c e=>?_,I.hok.fresh hC,λx c e=>I.J6 x c (jC hcl e),λp hp=>?_,I.hok.kept old,?_,ht⟩
 .have e1:N[i]?=some x:=e1
  by_cases hi:i < own
  .unfold di at e2
   rw[V6 (by rw[Wb];exact hi),Wx,if_pos hi]at e2
   cases e2
  .obtain⟨k,rfl⟩:∃k,i=own+k:=⟨i - own,by omega⟩
   have e1':(N.drop own)[k]?=some x:=by rw[List.getElem?_drop];exact e1
   have q:=U4 (λl=>l[k]?) hN
   simp only[U7,e1',Option.map_some]at q
   unfold di at e2
   rw[Wj (by rw[Wb];omega),Wb,Nat.add_sub_cancel_left,U7]at e2
   cases hj:fr[k]? with
   |none=>rw[hj]at e2;cases e2
   |some j=>
    rw[hj]at e2 q
    simp only[Option.map_some,Option.some.injEq]at e2 q
    have hσ:σ[j]?=some (some v):=by
     cases z:σ[j]? with
     |none=>rw[z]at e2;cases e2
     |some w=>rw[z]at e2;simp only[Option.getD_some]at e2;rw[e2]
    obtain⟨k1,k2,k3⟩:=hF.mem x (VC e1')
    obtain⟨m,hn,hl⟩:=I.loc
    have vis:Fk X.env.scope x:=by
     rcases k1 with z|z
     .exact .inr (.inl z)
     .exact .inr (.inr z)
    obtain⟨u,ru,l⟩:=hl j x v q.symm hσ vis
    rcases l with⟨hk,_⟩|⟨_,c,hc,o,ho,hd⟩
    .have hk':X.env.scope.names.lookup x=some .local:=hk
     rcases k1 with z|z
     .rw[z]at hk';cases hk'
     .rw[z]at hk';cases hk'
    .exact⟨u,ru,.inr ⟨k2,c,k3.trans hc,o,old _ _ ho,hd⟩⟩
 .obtain⟨v,o,ho,hd⟩:=I.cell x c (jC hcl e)
  exact⟨v,o,old _ _ ho,hd⟩
 .rcases UT.mp hp with z|z
  .obtain⟨e,n,ne,nf,d⟩:=I.pin p z
   exact⟨old _ _ e,n,Vm (UU (US e) hC),λq=>(UI.mp (I.Lz _ q)).elim ne nf,d⟩
  .have z':p=(D,i5 []):=by simpa using z
   subst z'
   exact⟨hacc,I.hok.fresh hD,hDC,λq=>(UI.mp (I.Lz _ q)).elim (λe=>absurd e (WA (UU I.lt hD))) (I.PX hD),λv z=>by cases z⟩
 .show(di own fr σ).length=N.length
  unfold di
  rw[UK,Wb,UJ,hlen]
end
def PF(X:Cx)(ifs:List Expr)(t:TT):Prop:=
 ∀(pins:Va)(s:Shared)(σ:St)(H:Hp)(Q:Bool->Hp->Prop),Inv X pins σ H s->t σ H Q->
  wpAny (model X.prog X.w) X.A (forIn ifs true λc r=>if r=true then do let ok <-isTrue c X.env (eval c X.env);pure (ForInStep.yield ok) else pure (ForInStep.yield r)) (TP X pins σ Q) X.xe s
def HJ:TT:=λ_ H Q=>Q true H
def C9{X:Cx}:PF X [] HJ:=λ_ _ _ H _ I h=>wpAny_tests_nil ⟨H,I,h⟩
def C_{X:Cx}{c:Expr}{t:TT}(h:PT X c t):PF X [c] t:=λpins s σ H Q I q=>wpAny_tests_one (h pins s σ H Q I q)
def sr(J:It)(g:TG)(tc:TT)(te:TE)(own:Nat)(σ':St)(fin:List V->Hp->Prop)(H1:Hp):Prop:=
 ∃W:Nat->Nat->List V->Hp->Prop,(∃m,W 0 m [] H1)/\∀i m ys H,W i m ys H->
  (J.stop i H/\ys.length<=sizeLine/\fin ys H) \/
  (J.go i H/\ys.length<=sizeLine/\∃Nx:List V->Hp->Prop,(∀ys' H',Nx ys' H'->∃m',m' < m/\W (i+1) m' ys' H')/\∀x H',J.QI i H x H'->g x σ' H' λσ2 H2=>σ2.drop own=σ'.drop own/\tc σ2 H2 λb H3=>
   if b=true then te σ2 H3 λy H4=>Nx (ys++[y]) H4 else Nx ys H3)
section
variable {X:Cx}{pins:Va}{σ:St}{H:Hp}{s:Shared}
variable {elt iter tg:Expr}{ifs:List Expr}{scope:Scope}{pos:Pos}{N:Vs}{own:Nat}{fr:List Nat}{fs:Vs}{g:TG}{tc:TT}{te:TE}
def jD{te:Bk->TE}{Fe:Bk->Value->Shared->Prop}{J:It}{fp:List Addr}{it:Addr}{tn:Nat->Heap->Prop}{fin:List V->Hp->Prop}{E:Vq}{RR:Value->Addr->Result->Shared->Prop}
  (hc:X.calm=true) (hcell:∀y∈scope.names,y.2 ≠ .cell) (hkind:scope.kind = .function) (hcl:bJ X.env fs) (hhas:hasB (relabel scope X.env).names (bF X.env fs)=true)
  (hlen:N.length=own+fr.length) (hN:(N.drop own).map some=fr.map λj=>X.N[j]?) (hF:J3 X.env scope (bF X.env fs) (N.drop own))
  (hg:∀B,PG (X.Ku N scope fs B) tg g) (hf:∀B,PF (X.Ku N scope fs B) ifs tc) (he:∀B,PE ((X.Ku N scope fs B).wish (Fe B)) elt (te B))
  (I:Inv X pins σ H s) (T:mS X.prog X.w X.K tg J fp it tn) (st:tn 0 s.heap) (f:∀b∈fp,JV X pins H b) (W:∀B,sr J g tc (te B) own (di own fr σ) fin H)
  (hRR:∀D C s' ys H' m',Inv X pins σ (upd H' D (.lst ys)) s'->H' D=none->s'.heap.Ns C m'->JV X pins (upd H' D (.lst ys)) C->fin ys H'->RR (.ref D) C (.ok .next) s')
  (Tb:∀D C e s',s.heap.objs.size<=C->(∀p∈X.pn++pins,p.1≠C)->Fe ⟨C,s,H,fp,X.pn++pins⟩ e s'->notedBy (model X.prog X.w) X.A (compEnvC scope (bF X.env fs) C X.env) (λx s''=>RR (.ref D) C (.error x) s'') e s') :
  wpAny (model X.prog X.w) X.A (newList []) (λacc s₃=>wpAny (model X.prog X.w) X.A (newFunctionEnv scope X.env.globals (bF X.env fs) [] X.env.qual none .none (some X.env)) (λcenv s₄=>
   codeAny (model X.prog X.w) X.A (.compStart (.ListComp elt [⟨tg,iter,ifs,0⟩] scope pos) 0 (.ref it) acc { cenv with scope:=relabel scope X.env }) (RR acc cenv.locals) s₄) E s₃) E s:=by
 refine Wa (wpAny_newFunctionEnv hcell (by intro y hy;simp at hy) (λh₁ Pf OD=>?_) hkind)
 dsimp only at Pf OD ⊢
 generalize Rf:s.heap.push { cls:=.type "list",dict:=none,data:=.seq ([]:Vv).toArray }=H2 at Pf OD ⊢
 have hC:H2.objs.size=s.heap.objs.size+1:=by rw[<-Rf,Wk]
 have OE:s.heap.objs.size<=H2.objs.size:=by rw[hC];exact YA _
 have hDC:s.heap.objs.size≠H2.objs.size:=by rw[hC];exact Vm (Nat.lt_succ_self _)
 have below:∀b,b < s.heap.objs.size->b≠H2.objs.size/\b≠s.heap.objs.size:=λb hb=>⟨by rw[hC];exact Vm (Nat.lt_succ_of_lt hb),Vm hb⟩
 have old:∀b o,s.heap.get? b=some o->h₁.get? b=some o:=λb o e=>OD.extBut b o (below b (US e)).1 (UG _ (Rf▸UG _ e))
 have hacc:h₁.get? s.heap.objs.size=some (i5 []):=OD.extBut _ _ hDC (UG _ (Rf▸U0 _ rfl))
 have hlt:∀b∈fp,b < s.heap.objs.size:=λb hb=>by
  obtain⟨o,e,_⟩:=T.obj 0 _ st b hb
  exact US e
 obtain⟨Wv,⟨m0,w0⟩,turn⟩:=W ⟨H2.objs.size,s,H,fp,X.pn++pins⟩
 have ok:=C8 (N:=N) I hkind OE hcl hhas f hlt
 have loop:∀s₃:Shared,s₃={ s with heap:=h₁,toks:=s.toks+([]:List (Str×Value)).length }->
   codeAny (model X.prog X.w) X.A (.compLoop (.ListComp elt [⟨tg,iter,ifs,0⟩] scope pos) 0 (.ref it) (.ref s.heap.objs.size) (compEnvC scope (bF X.env fs) H2.objs.size X.env))
    (RR (.ref s.heap.objs.size) H2.objs.size) s₃:=by
  rintro s₃ rfl
  have I0:=zS (own:=own) (fr:=fr) (t':=s.toks+([]:List (Str×Value)).length) I ok OE (UH _) hDC hcl old Pf hacc hlen hN hF
  have Tc:tn 0 h₁:=T.keep 0 _ _ st λb _ o e=>old b o e
  have stat:∀{us:Vv} {H':Hp},(∀b∈fp,H' b=none)->∀b∈fp,JV (X.Ku N scope fs ⟨H2.objs.size,s,H,fp,X.pn++pins⟩) [(s.heap.objs.size,i5 us)] H' b:=λ{us H'} hn b hb=>by
   obtain⟨f0,f1,f2,f3,f4,f5⟩:=f b hb
   refine⟨hn b hb,(below b (hlt b hb)).1,λz=>(UI.mp (I.Lz b z)).elim f1 f2,.inl hb,λx c e=>f4 x c (jC hcl e),λp hp=>?_⟩
   rcases UT.mp hp with z|z
   .exact f5 p z
   .have z':p=(s.heap.objs.size,i5 us):=by simpa using z
    subst z'
    exact VI (below b (hlt b hb)).2
  have P5:∀p∈X.pn++pins,p.1 < s.heap.objs.size:=λp hp=>US (I.pin p hp).1
  refine lS (λk s'=>∃i ys us H',Inv (X.Ku N scope fs ⟨H2.objs.size,s,H,fp,X.pn++pins⟩) [(s.heap.objs.size,i5 us)] (di own fr σ) H' s'/\Vals ys us/\tn i s'.heap/\(∀b∈fp,H' b=none)/\Wv i k ys H') ?_ m0
   ⟨0,[],[],H,I0,.nil,Tc,λb hb=>(f b hb).1,w0⟩
  rintro n s' ⟨i,ys,us,H',I',rv,st',Sk,w'⟩
  rcases turn i n ys H' w' with⟨stop,hz,Rg⟩|⟨go,hz,Nx,Sl,step⟩
  .refine JN (T.done (X.Ku N scope fs ⟨H2.objs.size,s,H,fp,X.pn++pins⟩) rfl rfl rfl hc i _ s' _ H' (λ_ _=>False) I' (stat Sk) st' stop) (λr s1 ⟨hr,I1⟩=>?_)
   subst hr
   show RR _ _ (.ok .next) s1
   have IX:Inv X pins σ H' s1:=I.N1 I1.os I1.base I1.hok I1.bare I1.tk λb hb=>by
    obtain⟨f0,f1,f2,f3,f4,f5⟩:=f b hb
    exact⟨f3,f1,f4,f5⟩
   obtain⟨eD,nD,_⟩:=I1.pin (s.heap.objs.size,i5 us) (by simp)
   have IT:=IX.P4 (I.Lb (H':=H') (UH _) nD) eD rv hz
   obtain⟨m',hn',_⟩:=I1.loc
   exact hRR _ _ s1 ys H' m' IT nD hn' (I.Lb OE (by rw[aw (VI hDC)];exact I1.free)) Rg
  .refine JN (T.item (X.Ku N scope fs ⟨H2.objs.size,s,H,fp,X.pn++pins⟩) rfl rfl rfl hc i _ s' _ H' (λ_ _=>False) I' (stat Sk) st' go) (λr s1 ⟨u,hr,h1⟩=>?_)
   subst hr
   show wpAny _ _ (letOwnedTupleGo tg (.ref it) u) _ _ s1
   refine JN h1 (λ_ s5 ⟨x,H5,I5,r5,y5,Oy,Q7⟩=>?_)
   have Q8:=I5.pinned (stat Q7) (T.obj _ _ Oy)
   refine JN (hg _ _ s5 _ H5 x u _ Q8 r5 (step x H5 y5)) (λ_ s6 ⟨σ6,H6,I6,Td,q6⟩=>?_)
   refine JN (hf _ _ s6 σ6 H6 _ I6 q6) (λb s7 ⟨H7,I7,q7⟩=>?_)
   -- Pg the turn's own names
   have forget:∀{H8:Hp}{s8:Shared}{pl:Va},Inv (X.Ku N scope fs ⟨H2.objs.size,s,H,fp,X.pn++pins⟩) pl σ6 H8 s8->Inv (X.Ku N scope fs ⟨H2.objs.size,s,H,fp,X.pn++pins⟩) pl (di own fr σ) H8 s8:=λ{H8 s8 pl} I8=>by
    refine I8.weak (I0.len.trans I8.len.symm) λj v e=>?_
    by_cases hj:j < own
    .unfold di at e
     rw[V6 (by rw[Wb];exact hj),Wx,if_pos hj]at e
     cases e
    .obtain⟨k,rfl⟩:∃k,j=own+k:=⟨j - own,by omega⟩
     rw[<-List.getElem?_drop]at e ⊢
     rw[Td]
     exact e
   have QK:∀{H8:Hp}{s8:Shared},Inv (X.Ku N scope fs ⟨H2.objs.size,s,H,fp,X.pn++pins⟩) ([(s.heap.objs.size,i5 us)]++ku fp s5.heap) σ6 H8 s8->∀b∈fp,∀o,s5.heap.get? b=some o->s8.heap.get? b=some o/\H8 b=none:=λI8 b hb o e=>
    let z:=I8.pin (b,o) (Vh _ (Vh _ (gT hb e)))
    ⟨z.1,z.2.1⟩
   cases b with
   |false=>
    show ∃m,m < n/\_
    obtain⟨m',hm,w7⟩:=Sl _ _ (show Nx ys H7 from q7)
    refine⟨m',hm,i+1,ys,us,H7,(forget I7).LG,rv,T.keep _ _ _ Oy λb hb o e=>(QK I7 b hb o e).1,λb hb=>?_,w7⟩
    obtain⟨o,e,_⟩:=T.obj _ _ Oy b hb
    exact(QK I7 b hb o e).2
   |true=>
    show wpAny _ _ (eval elt _) _ _ s7
    have Te:te ⟨H2.objs.size,s,H,fp,X.pn++pins⟩ σ6 H7 λy H4=>Nx (ys++[y]) H4:=q7
    refine V8 (he ⟨H2.objs.size,s,H,fp,X.pn++pins⟩ _ s7 σ6 H7 _ (I7.wish _) Te) (λv s8 ⟨y,H8,Tf,r8,n8⟩=>?_) (λe s8 hF=>Tb _ _ e s8 OE (λp hp=>(below p.1 (P5 p hp)).1) hF)
    have I8:=Tf.KC
    obtain⟨m',hm,w8⟩:=Sl _ _ n8
    obtain⟨eD,nD,Sm,Th,_⟩:=I8.pin (s.heap.objs.size,i5 us) (Vh _ (VA _ (by simp)))
    refine append_at (hsz:=by show us.toArray.size<=sizeLine;rw[UX,<-rv.length];exact hz) eD λh9 Sn Ti=>?_
    have J0:Inv (X.Ku N scope fs ⟨H2.objs.size,s,H,fp,X.pn++pins⟩) [] σ6 H8 s8:=I8.Ma λp hp=>nomatch hp
    have J1:Inv (X.Ku N scope fs ⟨H2.objs.size,s,H,fp,X.pn++pins⟩) [] σ6 H8 { s8 with heap:=h9 }:=J0.turned (t':=s8.toks) (it:=s.heap.objs.size) (λb o hb e=>(Sn.2 b hb).trans e) nD Sm (.inr (UH _))
     (λx c e z=>by
      obtain⟨v',q⟩:=I.cell x c (jC hcl e)
      exact absurd (UU q.lt (by rw[z];exact UH _)) (Wc _))
     (λp hp=>by
      rw[Vp]at hp
      exact Vm (P5 p hp))
    have J2:Inv (X.Ku N scope fs ⟨H2.objs.size,s,H,fp,X.pn++pins⟩) [(s.heap.objs.size,i5 (us++[v]))] σ6 H8 { s8 with heap:=h9 }:=J1.Ma λp hp=>by
     have z':p=(s.heap.objs.size,i5 (us++[v])):=by simpa using hp
     subst z'
     exact⟨Ti.trans (U4 some (ub us v)),nD,Sm,Th,λv z=>by cases z⟩
    refine⟨m',hm,i+1,ys++[y],us++[v],H8,forget J2,Vals.append rv (.cons r8 .nil),T.keep _ _ _ Oy λb hb o e=>(Sn.2 b (below b (hlt b hb)).2).trans (QK I8 b hb o e).1,λb hb=>?_,w8⟩
    obtain⟨o,e,_⟩:=T.obj _ _ Oy b hb
    exact(QK I8 b hb o e).2
 exact codeAny_compStart_list (loop _ rfl) (T.self _ 0 _ _ _ (T.keep 0 _ _ st λb _ o e=>old b o e) (loop _ rfl))
def kE{J:It}{fp:List Addr}{it:Addr}{tn:Nat->Heap->Prop}{fin:List V->Hp->Prop}{E:Vq}{RR:Value->Addr->Result->Shared->Prop}
  (hc:X.calm=true) (hcell:∀y∈scope.names,y.2 ≠ .cell) (hkind:scope.kind = .function) (hcl:bJ X.env fs) (hhas:hasB (relabel scope X.env).names (bF X.env fs)=true)
  (hlen:N.length=own+fr.length) (hN:(N.drop own).map some=fr.map λj=>X.N[j]?) (hF:J3 X.env scope (bF X.env fs) (N.drop own))
  (hg:∀B,PG (X.Ku N scope fs B) tg g) (hf:∀B,PF (X.Ku N scope fs B) ifs tc) (he:∀B,PE (X.Ku N scope fs B) elt te)
  (I:Inv X pins σ H s) (T:mS X.prog X.w X.K tg J fp it tn) (st:tn 0 s.heap) (f:∀b∈fp,JV X pins H b) (W:sr J g tc te own (di own fr σ) fin H)
  (hRR:∀D C s' ys H' m',Inv X pins σ (upd H' D (.lst ys)) s'->H' D=none->s'.heap.Ns C m'->JV X pins (upd H' D (.lst ys)) C->fin ys H'->RR (.ref D) C (.ok .next) s') :
  wpAny (model X.prog X.w) X.A (newList []) (λacc s₃=>wpAny (model X.prog X.w) X.A (newFunctionEnv scope X.env.globals (bF X.env fs) [] X.env.qual none .none (some X.env)) (λcenv s₄=>
   codeAny (model X.prog X.w) X.A (.compStart (.ListComp elt [⟨tg,iter,ifs,0⟩] scope pos) 0 (.ref it) acc { cenv with scope:=relabel scope X.env }) (RR acc cenv.locals) s₄) E s₃) E s:=
 jD (te:=λ_=>te) (Fe:=λ_ _ _=>False) hc hcell hkind hcl hhas hlen hN hF hg hf (λB=>he B) I T st f (λ_=>W) hRR λ_ _ _ _ _ _ z=>z.elim
def vQ(wi:TI)(g:TG)(tc:TT)(te:TE)(own:Nat)(fr:List Nat):TE:=λσ H Q=>wi σ H λJ H1=>
 sr J g tc te own (di own fr σ) (λys H2=>∀D,H2 D=none->Q (.ref D) (upd H2 D (.lst ys))) H1
def zT(fs:Vs)(own:Nat)(fr:List Nat)(N:Vs){wi:TI}(hc:X.calm=true)(hclos:closureFor scope X.env=pure (bF X.env fs))(hcell:∀y∈scope.names,y.2 ≠ .cell)(hkind:scope.kind = .function)
  (hnames:∀x∈scope.names,x.2 = .local->scope.names.lookup x.1=some .local) (hcl:bJ X.env fs) (hhas:hasB (relabel scope X.env).names (bF X.env fs)=true)
  (hlen:N.length=own+fr.length) (hN:(N.drop own).map some=fr.map λj=>X.N[j]?) (hF:J3 X.env scope (bF X.env fs) (N.drop own))
  (hi:PI X tg iter wi) (hg:∀B,PG (X.Ku N scope fs B) tg g) (hf:∀B,PF (X.Ku N scope fs B) ifs tc) (he:∀B,PE (X.Ku N scope fs B) elt te)
  (hs:∀x,foldedSetIterable iter X.env x=pure x:=by intro _;rfl):PE X (.ListComp elt [⟨tg,iter,ifs,0⟩] scope pos) (vQ wi g tc te own fr):=by
 walk_at "7"
 rw[eval_ListComp]
 refine Xw (use:=none) (g:=⟨tg,iter,ifs,0⟩) (gs:=[]) rfl hs hclos hkind hnames (JN (hi pins s σ H _ I h) λv s1 h1=>JN h1 λitv s2 h2=>?_)
 obtain⟨it,fp,tn,J,H2,e,I2,T,st2,f2,W⟩:=h2
 subst e
 refine kE (RR:=λacc C=>compPost (model X.prog X.w) X.A X.xe none (EP X pins σ Q) acc C) hc hcell hkind hcl hhas hlen hN hF hg hf he I2 T st2 f2 W ?_
 intro D C s' ys H' m' I' nD hn fC fin
 exact⟨m',hn,λh' hs'=>⟨.ref D,_,I'.turned (t':=s'.toks) (λb o hb e=>(hs'.2 b hb).trans e) fC.1 fC.2.1 fC.2.2.2.1 fC.2.2.2.2.1 fC.2.2.2.2.2,rfl,fin D nD⟩⟩
def zU(fs:Vs)(own:Nat)(fr:List Nat)(N:Vs){wi:TI}{i:Nat}{y:Str}{py spos:Pos}(hX:X.N.Nodup)(hix:X.N[i]?=some y)(hy:X.env.scope.names.lookup y=some .local)
  (hsw:swapsWith (.ListComp elt [⟨tg,iter,ifs,0⟩] scope pos) (some (.Name y py)) spos.line X.env=pure true)
  (hc:X.calm=true) (hclos:closureFor scope X.env=pure (bF X.env fs)) (hcell:∀y∈scope.names,y.2 ≠ .cell) (hkind:scope.kind = .function)
  (hnames:∀x∈scope.names,x.2 = .local->scope.names.lookup x.1=some .local) (hcl:bJ X.env fs) (hhas:hasB (relabel scope X.env).names (bF X.env fs)=true)
  (hlen:N.length=own+fr.length) (hN:(N.drop own).map some=fr.map λj=>X.N[j]?) (hF:J3 X.env scope (bF X.env fs) (N.drop own))
  (hi:PI X tg iter wi) (hg:∀B,PG (X.Ku N scope fs B) tg g) (hf:∀B,PF (X.Ku N scope fs B) ifs tc) (he:∀B,PE (X.Ku N scope fs B) elt te)
  (hs:∀x,foldedSetIterable iter X.env x=pure x:=by intro _;rfl):PS X (.Assign [.Name y py] (.ListComp elt [⟨tg,iter,ifs,0⟩] scope pos) spos) (zx (vQ wi g tc te own fr) (oX i)):=by
 intro pins s σ H D I h
 rw[exec_Assign_Name_used _ _ _ _ hsw]
 refine UD (WQ (UD ?_))
 show wpAny _ X.A (do let _ <-comprehension (.ListComp elt [⟨tg,iter,ifs,0⟩] scope pos) scope X.env _ (newList []) false (eval iter X.env) (some (assign (.Name y py) X.env))) _ _ s
 refine UD (V8 (Xw (use:=some (assign (.Name y py) X.env)) (Q:=λ_ s'=>SP X pins D .next s') (g:=⟨tg,iter,ifs,0⟩) (gs:=[]) rfl hs hclos hkind hnames
  (JN (hi pins s σ H _ I h) λv s1 h1=>JN h1 λitv s2 h2=>?_)) (λ_ s' hq=>UL (UL hq)) λ_ _ e=>e)
 obtain⟨it,fp,tn,J,H2,e,I2,T,st2,f2,W⟩:=h2
 subst e
 refine kE (RR:=λacc C=>compPost (model X.prog X.w) X.A X.xe (some (assign (.Name y py) X.env)) (λ_ s'=>SP X pins D .next s') acc C) hc hcell hkind hcl hhas hlen hN hF hg hf he I2 T st2 f2 W ?_
 intro Da C s' ys H' m' I' nD hn fC fin
 show wpAny _ X.A (assign (.Name y py) X.env (.ref Da)) _ _ s'
 refine wpAny_assign_Name (iZ (v:=.ref Da) I' hX hix (.inl hy) rfl (λs2 I3 ⟨a,sb,ha⟩=>?_) (.inr hy))
 have ca:C≠a:=by
  rcases ha with z|z
  .rw[z];exact fC.2.1
  .exact VI (fC.2.2.2.2.1 _ _ z)
 exact⟨m',hn.sameBut sb ca,λh' hs'=>⟨_,_,I3.turned (t':=s2.toks) (λb o hb e=>(hs'.2 b hb).trans e) fC.1 fC.2.1 fC.2.2.2.1 fC.2.2.2.2.1 fC.2.2.2.2.2,fin Da nD⟩⟩
end
end L2
namespace PySem
open Sem (wp)
namespace F
def uc:typeLookup (.type "list_reverseiterator") "__len__" = pure none:=by rw[typeLookup_type,builtinLookup_eq_fast];kernel_rfl
def vR:typeLookup (.type "list_reverseiterator") "__length_hint__" = pure (some (.builtin "list_reverseiterator.__length_hint__")):=by rw[typeLookup_type,builtinLookup_eq_fast];kernel_rfl
end F
section
variable {prog:Program}{w:World}{A:Around}{s:Shared}{R:Result->Shared->Prop}
variable {I:Addr}{fp wr:List Addr}{G:Array GenState->Array GenState->Prop}{n:Nat}{P:Nat->Value->Prop}{St:Nat->Shared->Prop}
def qI(W:WalksS prog w A.in1 I fp wr G n P St)(hT:∀i s,St i s->s.TypeIs (.ref I) "list_reverseiterator")(S:Addr)(res:Value)(c₀:Nat)(hst:St 0 s)(hSf:S ∉ fp)(hI:I∈fp)
  (hS:s.heap.get? S=some { cls:=.type "list",data:=.seq #[] c₀ })
  (hR:∀s' acc' c',Moved (S::wr) G s s'->s'.heap.get? S=some { cls:=.type "list",dict:=none,data:=.seq acc' c',slots:=#[] }->ItemsOf P acc' n->R (.ok (.ret res)) s') (hn:n<=sizeLine) :
  wpAny (model prog w) A.in1 (Builtin.List.listExtendWith (.ref S) (.ref I) res)
   (λfin s'=>match fin with | .done f=>R (.ok f) s' | .again c'=>c'.quiet=true/\codeAny (model prog w) A c' R s') (λe s'=>R (.error e) s') s:=by
 have hSI:S≠I:=λe=>hSf (e▸hI)
 have h1:Builtin.List.listSameRef (.ref S) (.ref I)=false:=by simp[Builtin.List.listSameRef,hSI]
 unfold Builtin.List.listExtendWith
 refine UD (wpAny_typeOf (hT 0 _ hst) ?_)
 rw[if_neg (by rw[h1];decide)]
 refine UD (W.self 0 _ _ _ hst ?_)
 refine UD (We ?_)
 unfold Builtin.List.listLengthHint
 refine UD (wpAny_specialOf (hT 0 _ hst) F.uc ?_)
 show wpAny _ A.in1 (specialOf (Value.ref I) (Str.ofString "__length_hint__") >>= _) _ _ _
 refine UD (wpAny_specialOf (hT 0 _ hst) F.vR ?_)
 (generalize hid:("list_reverseiterator.__length_hint__":String)=Tj;wp_delta;rw[show splitId Tj=some ("list_reverseiterator","__length_hint__")from by subst hid;decide +kernel];subst hid)
 refine UD (wpAny_isInstance (b:=true) (hT 0 _ hst) (by rw[isSubtype_type];kernel_rfl) ?_)
 refine UL ?_
 rw[if_neg (by decide)]
 exact UL ⟨plainId_quiet F.plain_extend_loop _,codeAny_extend_loopS W hn _ hSf _ n 0 _ _ _ rfl (UZ _) hst hS (ItemsOf.nil P) λs' acc' c' hm hS' hacc=>hR s' acc' c' hm hS' hacc⟩
def lT(W:WalksS prog w A.in1 I fp wr G n P St)(hT:∀i s,St i s->s.TypeIs (.ref I) "list_reverseiterator")(S:Addr)(hst:St 0 s)(hSf:S ∉ fp)(hI:I∈fp)
  (hS:s.heap.get? S=some { cls:=.type "list",data:=.seq #[] })
  (hR:∀s' acc' c',Moved (S::wr) G s s'->s'.heap.get? S=some { cls:=.type "list",dict:=none,data:=.seq acc' c',slots:=#[] }->ItemsOf P acc' n->R (.ok (.ret .none)) s') (hn:n<=sizeLine) :
  wpAny (model prog w) A.in1 (Builtin.«list.__init__» ⟨[.ref S,.ref I],[]⟩)
   (λfin s'=>match fin with | .done f=>R (.ok f) s' | .again c'=>c'.quiet=true/\codeAny (model prog w) A c' R s') (λe s'=>R (.error e) s') s:=by
 show wpAny _ A.in1 (do let old <-Builtin.List.listItems (.ref S);Builtin.List.listUpdate (.ref S) (λ_=>#[]);letGo old.toList.reverse;Builtin.List.listExtendWith (.ref S) (.ref I) .none) _ _ s
 refine UD ?_
 unfold Builtin.List.listItems
 refine UD (Wu hS rfl (UL ?_))
 show wpAny _ A.in1 (updateSeq S (λ_=>#[]) >>= λ_=>letGo (#[]:Vw).toList.reverse >>= λ_=>Builtin.List.listExtendWith (.ref S) (.ref I) .none) _ _ s
 refine UD (wpAny_updateSeq hS rfl ?_)
 have Tk:=V1 (Obj.mapSeq (λ_=>(#[]:Vw))) hS rfl
 have PC:∀b o,b≠S->s.heap.get? b=some o->(s.heap.update S (Obj.mapSeq (λ_=>(#[]:Vw)))).get? b=some o:=
  λb o hb e=>(Vc _ _ (VI hb)).trans e
 refine UD (wpAny_letGo ?_)
 refine qI (hn:=hn) W hT S .none _ (W.frame 0 s _ s.toks hst (UH _) λb hb o e=>PC b o (λh=>hSf (h▸hb)) e) hSf hI Tk λs' acc' c' hm hS' hacc=>?_
 exact hR s' acc' c' (Moved.trans W.gtrans ((Moved.refl W.grefl).then_heap (UH _) λb o hb e=>PC b o (λh=>hb (h▸Vj)) e) hm) hS' hacc
end
section
variable {prog:Program}{w:World}{A:Around}{E:Vq}{s:Shared}
def lU{I l:Addr}{items:Vw}{Q:Vq}(hh:A.handled=none)(hl:s.heap.IsList l items)(hit:s.heap.IsRevIter I l ((items.size:Int) - 1))(hne:l≠I)(hn:items.size<=sizeLine)
  (hQ:∀h' tk acc' c',(∀b o,b≠I->s.heap.get? b=some o->h'.get? b=some o)->h'.get? s.heap.objs.size=some { cls:=.type "list",dict:=none,data:=.seq acc' c',slots:=#[] }->
   acc'.toList=items.toList.reverse->Q (.ref s.heap.objs.size) { s with heap:=h',toks:=tk }) :
  wpAny (model prog w) A (call (.type "list") [.ref I]) Q E s:=by
 have W:=(Walks.listRev (prog:=prog) (w:=w) (A:=A.in1.in1) hh I l hne items).toS
 have Rh:I < s.heap.objs.size:=by obtain⟨o,ho,_⟩:=hit;exact US ho
 have Ri:l < s.heap.objs.size:=by obtain⟨o,ho,_⟩:=hl;exact US ho
 have hfp:∀b∈[I,l],b < s.heap.objs.size:=λb hb=>by
  rcases UI.mp hb with rfl|hb
  .exact Rh
  .rw[UM.mp hb];exact Ri
 have hSf:s.heap.objs.size ∉ [I,l]:=λhm=>Wc _ (hfp _ hm)
 have hst:(λi (s:Shared)=>i<=items.size/\s.heap.IsRevIter I l ((items.size:Int) - 1 - (i:Int))/\s.heap.IsList l items) 0 s:=⟨UZ _,by simpa using hit,hl⟩
 refine callType_codes (Q₁:=λobj s₁=>obj = .ref s.heap.objs.size/\s₁={ s with heap:=s.heap.push { cls:=.type "list",data:=.seq #[] } }) F.called_list (F.typeCall_list_1 _) F.entry_list_init
  (code_list_new _ ⟨rfl,rfl⟩) λobj s₁ h₁=>?_
 obtain⟨rfl,rfl⟩:=h₁
 have hS:(s.heap.push { cls:=.type "list",data:=.seq #[] }).get? s.heap.objs.size=some { cls:=.type "list",data:=.seq #[] }:=U0 _ rfl
 refine⟨⟨_,hS,rfl⟩,F.args_list_init_2 _ _,lT (hn:=hn) W (λi s st=>st.2.1.typeIs) _ (W.frame 0 s _ s.toks hst (UH _) λb _ o e=>UG _ e) hSf (Vj ..) hS λs' acc' c' hm hS' hacc=>?_⟩
 refine⟨rfl,?_⟩
 rw[hm.eq_with]
 refine hQ s'.heap s'.toks acc' c' (λb o hb e=>hm.heap b o (λz=>?_) (UG _ e)) hS' ?_
 .rcases UI.mp z with z|z
  .exact absurd (US e) (by rw[z];exact Wc _)
  .exact hb (UM.mp z)
 .obtain⟨hsz,hP⟩:=hacc
  apply List.ext_getElem?
  intro j
  by_cases hj:j < items.size
  .have hj':j < acc'.size:=by rw[hsz];exact hj
   have q:=hP j acc'[j] (by simp[hj'])
   have e1:acc'.toList[j]?=some acc'[j]:=by simp[hj']
   rw[e1,List.getElem?_reverse (by simpa using hj)]
   simpa using q.symm
  .rw[VR (by simpa [hsz]using hj),VR (by simpa using hj)]
end
end PySem
namespace L2
open PySem PySem.Spec PyProof.Rows
section
variable {X:Cx}
def vS(K:Vo)(te:TE):TE:=λσ H Q=>te σ H λx H1=>∃a xs,x = .ref a/\SqL K H1 a xs/\∀q,H1 q=none->Q (.ref q) (upd H1 q (.lst xs.reverse))
def qJ{e:Expr}{te:TE}{p1 p2 q1 q2:Pos}(hc:X.calm=true)(he:PE X e te)(P6:Gl X "list")(hm1:X.mg "list" = none)(Rj:Gl X "reversed")(hm2:X.mg "reversed" = none)
  (hs:starEach [e] X.env=[(false,eval e X.env)]:=by rfl) (hs2:starEach [.Call (.Name "reversed" p2) [e] [] q2] X.env=[(false,eval (.Call (.Name "reversed" p2) [e] [] q2) X.env)]:=by rfl) :
  PE X (.Call (.Name "list" p1) [.Call (.Name "reversed" p2) [e] [] q2] [] q1) (vS X.K te):=by
 walk_at "7"
 refine Wg (ef I P6 hm1 (u:=.type "list") (by decide +kernel) ?_)
 refine VO ?_ hs2 rfl
 rw[hs2]
 show wpAny _ _ (spliced ((false,eval (.Call (.Name "reversed" p2) [e] [] q2) X.env)::backTo q1 [])) _ _ s
 refine W3 ?_
 refine Wg (ef I Rj hm2 (u:=.type "reversed") boot_reversed ?_)
 refine VO ?_ hs rfl
 rw[hs]
 show wpAny _ _ (spliced ((false,eval e X.env)::backTo q2 [])) _ _ s
 refine W3 (JN (he pins s σ H _ I h) λu s1 ⟨x,H1,I1,r1,a,xs,ex,hx,q⟩=>?_)
 subst ex
 cases r1
 obtain⟨its,rv,p,hz⟩:=I1.list hx
 have hl:=rv.length
 have hal:a < s1.heap.objs.size:=by obtain⟨o,ho,_⟩:=p.isList;exact US ho
 refine XJ (call_reversed_list p.isList ?_)
 refine XJ ?_
 refine Vg (show 1<=s1.toks from I1.tk) (lU (I.ok.hd hc) (p.isList.push _) ⟨_,U0 _ rfl,rfl,rfl⟩ (Vm hal) (by rw[UX,<-hl];exact hz) λh' tk acc c hk hS ha ht=>?_)
 have hsz:(s1.heap.push (revObj a ((its.toArray.size:Int) - 1))).objs.size=s1.heap.objs.size+1:=Wk _ _
 have hle:s1.heap.objs.size<=(s1.heap.push (revObj a ((its.toArray.size:Int) - 1))).objs.size:=by rw[hsz];exact YA _
 refine⟨.ref _,_,I1.laid (a:=(s1.heap.push (revObj a ((its.toArray.size:Int) - 1))).objs.size) (o:=.lst xs.reverse) (h':=h') (t':=tk) (λb u e=>hk b u (Vm (US e)) (UG _ e)) hle ?_,rfl,q _ (I1.hok.fresh hle)⟩
 refine⟨by rw[Ys];exact hz,its.reverse,c,Vals.reverse rv,?_⟩
 rw[hS]
 have e:acc=its.reverse.toArray:=by
  apply Array.toList_inj.mp
  rw[ha]
 rw[e]
end
section
variable {X:Cx}
noncomputable abbrev sgn(c:Nat):Str:=⟨#[c]⟩
noncomputable def HL(z:Str):It:=⟨λi _=>i < z.cps.size,λi H x H'=>H'=H/\∃c,z.cps[i]?=some c/\x = .str (sgn c),λi _=>z.cps.size<=i⟩
def vT{P:Program}{w:World}{K:Vo}{tg:Expr}{ty:String}(hty:ty = "str_ascii_iterator" \/ ty = "str_iterator")(it:Addr)(z:Str)(t:Tok):mS P w K tg (HL z) [it] it (λi h=>i<=z.cps.size/\h.IsStrIter it ty z t i):=by
 have W:∀A':Around,A'.handled=none->Walks P w A' it [it] [it] z.cps.size (SignAt z) (λi h=>h.IsStrIter it ty z t i):=λA' hA=>by
  rcases hty with rfl|rfl
  .exact Walks.strAscii hA it z t
  .exact Walks.strWide hA it z t
 have nt:(["enumerate","zip","dict_itemiterator","dict_reverseitemiterator","odict_iterator","itertools.zip_longest","itertools.pairwise"].contains ty)=false:=by
  rcases hty with rfl|rfl<;>decide
 refine⟨by simp,λi h st b hb=>?_,λi h h' st k=>?_,?_,?_,?_⟩
 .have e:b=it:=by simpa using hb
  subst e
  obtain⟨_,o,e,c,d⟩:=st
  exact⟨o,e,λv q=>by rw[d]at q;cases q⟩
 .obtain⟨hi,o,e,r⟩:=st
  exact⟨hi,o,k it (by simp) o e,r⟩
 .walk_at "4"
  subst hP hw hK
  walk_at "6"
  refine Vg I.tk ((W X.A (I.ok.hd hc)).item i s _ _ hg st.2 λv h' tk hv st' kk ht=>?_)
  obtain⟨c,u,hcp,rfl⟩:=hv
  have I1:Inv X pins σ H { s with heap:=h',toks:=tk }:=I.turned (λb o hb e=>kk b o (by simpa using hb) e) f0 f1 f3 f4 f5
  obtain⟨o,e,co,d⟩:=id st'
  exact⟨_,rfl,oY (s:={ s with heap:=h',toks:=tk }) e co d nt ⟨.str (sgn c),H,I1,⟨u,rfl⟩,⟨rfl,c,hcp,rfl⟩,⟨hg,st'⟩,λb hb=>(hf b hb).1⟩⟩
 .walk_at "4"
  subst hP hw hK
  walk_at "6"
  have e:i=z.cps.size:=Nat.le_antisymm st.1 hg
  subst e
  exact Vg I.tk ((W X.A (I.ok.hd hc)).done s _ _ st.2 λh' tk kk ht=>⟨rfl,I.turned (λb o hb e=>kk b o (by simpa using hb) e) f0 f1 f3 f4 f5⟩)
 .intro A i s Q E st h
  rcases hty with rfl|rfl
  .exact wpAny_pyIter_striter_ascii st.2 h
  .exact wpAny_pyIter_striter_wide st.2 h
def zV{ys:Vs}:∀{us:Vv},Vals (ys.map V.str) us->StrsAre us ys:=by
 induction ys with
 |nil=>intro us r;rw[Ve]at r;cases r;exact .nil
 |cons n ns ih=>
  intro us r
  rw[UE]at r
  cases r with
  |cons r1 r2=>
   obtain⟨t,e⟩:=r1
   subst e
   exact .cons n t (ih r2)
noncomputable def FR(K:Vo):V->List V->Hp->VK->Prop:=λx vs H Q=>∃sep p ys,x = .str sep/\vs=[.ref p]/\SqL K H p (ys.map V.str)/\(ys.map (·.length)).sum+ys.length * sep.length<=1000000/\Q (.str (Txt.join sep ys)) H
def zW:CZ X "str.join" (FR X.K):=by
 intro pins s σ H x vs v us Q I rx rv h
 obtain⟨sep,p,ys,rfl,rfl,hp,hz,q⟩:=h
 obtain⟨t,rfl⟩:=rx
 obtain⟨u,rfl,ru⟩:=dh rv
 cases ru
 obtain⟨its,r,pl,_⟩:=I.list hp
 exact Vg I.tk (join_list pl.isList (by simpa using zV r) (by omega) λt' k ht=>⟨.str _,H,I.tok k ht,⟨t',rfl⟩,q⟩)
def qK{z:Str}{acc:Vw}(h:ItemsOf (SignAt z) acc z.cps.size):Vals (z.cps.toList.map λc=>V.str (sgn c)) acc.toList:=by
 obtain⟨hs,hP⟩:=h
 have key:∀(cs:List Nat)(us:Vv),us.length=cs.length->(∀(j:Nat)(v:Value),us[j]?=some v->∃c u,cs[j]?=some c/\v = .str (sgn c) u)->Vals (cs.map λc=>V.str (sgn c)) us:=by
  intro cs
  induction cs with
  |nil=>
   intro us hl _
   cases us with
   |nil=>exact .nil
   |cons u us=>cases hl
  |cons c cs ih=>
   intro us hl hu
   cases us with
   |nil=>cases hl
   |cons u us=>
    obtain⟨c',t,e1,e2⟩:=hu 0 u rfl
    have e1':c=c':=by simpa using e1
    subst e1'
    refine .cons ⟨t,e2⟩ (ih us (by simpa using hl) λj v e=>?_)
    exact hu (j+1) v (by simpa using e)
 refine key z.cps.toList acc.toList (by simp[hs]) λj v e=>?_
 obtain⟨c,u,e1,e2⟩:=hP j v (by simpa using e)
 exact⟨c,u,by simpa using e1,e2⟩
def i6(hc:X.calm=true):dg X (.type "list") (λxs H Q=>∃z,xs=[.str z]/\z.length<=sizeLine/\∀l,H l=none->Q (.ref l) (upd H l (.lst (z.cps.toList.map λc=>V.str (sgn c))))):=by
 intro pins s σ H xs us Q I r h
 obtain⟨z,rfl,hz,q⟩:=h
 obtain⟨u,rfl,t,rfl⟩:=dh r
 refine Vg I.tk (call_list_str (I.ok.hd hc) z t (λh' tk acc c hk hS ha ht=>?_) hz)
 refine⟨.ref _,_,I.laid (a:=s.heap.objs.size) (o:=.lst (z.cps.toList.map λc=>V.str (sgn c))) (h':=h') (t':=tk) hk (UH _) ?_,rfl,q _ (I.hok.fresh (UH _))⟩
 exact⟨by rw[UJ,Xr];exact hz,acc.toList,c,qK ha,by rw[hS]⟩
def ud(hc:X.calm=true):dg X (.builtin "all") (λxs H Q=>∃(p:Addr)(bs:List Bool),xs=[.ref p]/\SqL X.K H p (bs.map V.bl)/\Q (.bl (bs.all id)) H):=by
 intro pins s σ H xs us Q I r h
 obtain⟨p,bs,rfl,hp,q⟩:=h
 obtain⟨u,rfl,rx⟩:=dh r
 cases rx
 obtain⟨its,rv,pl,hz⟩:=I.list hp
 have hl:=rv.length
 rw[UJ]at hl
 have hlt:p < s.heap.objs.size:=by obtain⟨o,ho,_⟩:=pl.isList;exact US ho
 refine Vg I.tk (call_all_walk (WO pl.isList ?_))
 have up:∀b o,s.heap.get? b=some o->(s.heap.push { cls:=.type "list_iterator",data:=.fields #[.ref p,.int 0 0] }).get? b=some o:=λb o e=>UG _ e
 refine⟨s.heap.objs.size,_,_,_,_,_,λi=>(bs[i]?).getD true,rfl,Walks.list (A:=X.A.in1) (I.ok.hd hc) s.heap.objs.size p (Vm hlt) its.toArray,⟨⟨_,U0 _ rfl,rfl,rfl⟩,pl.isList.push _⟩,?_,λh' tk hk ht=>?_⟩
 .intro i v s' Q' E' hv hq
  have hi:i < its.length:=by
   by_cases z:i < its.length
   .exact z
   .rw[Array.getElem?_eq_none (by simpa using z)]at hv;cases hv
  obtain⟨u',e1,r1⟩:=rv.get (i:=i) (x:=.bl bs[i]) (by rw[U7,U9 (by omega)];rfl)
  have e2:v=u':=by
   have z:its[i]?=some v:=by simpa using hv
   rw[z]at e1;exact VY e1
  subst e2
  cases (show v=Value.bool bs[i] from r1)
  refine WM ?_
  have hq':Q' ((bs[i]?).getD true) s':=hq
  rw[U9 (show i < bs.length by omega)]at hq'
  exact hq'
 .have e:(List.range its.toArray.size).all (λi=>(bs[i]?).getD true)=bs.all id:=by
   rw[UX,<-hl,WJ,VD,VD]
   constructor
   .intro h1 x hx
    obtain⟨j,hj,e⟩:=List.getElem_of_mem hx
    have q1:=h1 j (Yv.mpr hj)
    rw[U9 hj]at q1
    rw[<-e];exact q1
   .intro h1 j hj
    have hj':=Yv.mp hj
    rw[U9 hj']
    exact h1 _ (Xm hj')
  rw[e]
  exact⟨.bl _,H,(I.kept (t':=tk) (h':=h') λb o eo=>hk b o (by
   intro hm
   have hb:b=s.heap.objs.size:=by simpa using hm
   exact absurd (US eo) (by rw[hb];exact Wc _)) (up b o eo)),rfl,q⟩
end
section
variable {X:Cx}
noncomputable def HM:V->Option Int->Option Int->Hp->VK->Prop:=λx lo hi H Q=>∃z,x = .str z/\z.length<=sizeLine/\Q (.str (Txt.slice z lo hi)) H
def Db:E7 X HM:=by
 intro pins s σ H x v vl vu lo hi sl Q I rx hs pl pu h
 obtain⟨z,rfl,hz,q⟩:=h
 obtain⟨t,rfl⟩:=rx
 refine⟨"str",_,F.slot_str_getitem.lookup,XA _ _ _,?_⟩
 obtain⟨o,e,c,d⟩:=hs
 have fin:∀l u:Option (Int×Tok),(vl=partValue l/\lo=l.map (·.1))->(vu=partValue u/\hi=u.map (·.1))->wpAny (model X.prog X.w) X.A (getItem (.str z t) (.ref sl)) (EP X pins σ Q) X.xe s:=by
  rintro l u ⟨rfl,rfl⟩ ⟨rfl,rfl⟩
  exact Vg I.tk (wpAny_getItem_str_slice (l:=l) (u:=u) (st:=none) ⟨o,e,c,d⟩ rfl (post_val_or_str ⟨UN (Txt.slice_le z _ _) hz,λt' k ht=>⟨.str _,H,I.tok k,⟨t',rfl⟩,q⟩⟩))
 cases pl with
 |none=>
  cases pu with
  |none=>exact fin none none ⟨rfl,rfl⟩ ⟨rfl,rfl⟩
  |int j uj=>exact fin none (some (j,uj)) ⟨rfl,rfl⟩ ⟨rfl,rfl⟩
 |int i ui=>
  cases pu with
  |none=>exact fin (some (i,ui)) none ⟨rfl,rfl⟩ ⟨rfl,rfl⟩
  |int j uj=>exact fin (some (i,ui)) (some (j,uj)) ⟨rfl,rfl⟩ ⟨rfl,rfl⟩
end
end L2
namespace Zt
open PySem
open Sem (wp)
def Si(kd:Bool)(h:Heap)(a t:Addr)(i:Nat):Prop:=cond kd (h.IsListIter a t i) (h.IsTupleIter a t i)
def Sq(kd:Bool)(h:Heap)(a:Addr)(xs:Vw):Prop:=cond kd (h.IsList a xs) (h.IsTuple a xs)
theorem Si.at{kd:Bool}{h h':Heap}{a t:Addr}{i:Nat}(x:Si kd h a t i)(e:∀o,h.get? a=some o->h'.get? a=some o):Si kd h' a t i:=match kd,x with|true,x=>Heap.IsListIter.at x e|false,x=>Heap.IsTupleIter.at x e
theorem Sq.at{kd:Bool}{h h':Heap}{a:Addr}{xs:Vw}(x:Sq kd h a xs)(e:∀o,h.get? a=some o->h'.get? a=some o):Sq kd h' a xs:=match kd,x with|true,x=>Heap.IsList.at x e|false,x=>Heap.IsTuple.at x e
def Sq.lt{kd:Bool}{h:Heap}{a:Addr}{xs:Vw}(x:Sq kd h a xs):a < h.objs.size:=match kd,x with|true,⟨_,e,_⟩=>US e|false,⟨_,e,_⟩=>US e
def Si.ob{kd:Bool}{h:Heap}{a t:Addr}{i:Nat}(x:Si kd h a t i):∃o f,h.get? a=some o/\o.data = .fields f:=match kd,x with|true,⟨o,e,_,d⟩=>⟨o,_,e,d⟩|false,⟨o,e,_,d⟩=>⟨o,_,e,d⟩
def Si.extBut{kd:Bool}{h h':Heap}{a c t:Addr}{i:Nat}(x:Si kd h a t i)(e:Heap.ExtBut c h h')(n:a≠c):Si kd h' a t i:=x.at λ_ q=>e _ _ n q
def Sq.extBut{kd:Bool}{h h':Heap}{a c:Addr}{xs:Vw}(x:Sq kd h a xs)(e:Heap.ExtBut c h h')(n:a≠c):Sq kd h' a xs:=x.at λ_ q=>e _ _ n q
section
variable {prog:Program}{w:World}{A:Around}{E:Vq}{s:Shared}
def nx{j t:Addr}{i:Nat}{its:Vw}{x:Value}{Q:Vq}(hj:s.heap.IsTupleIter j t i)(ht:s.heap.IsTuple t its)(hx:its[i]?=some x)
  (k:∀g:Heap,g.IsTupleIter j t (i+1)->Heap.SameBut j s.heap g->Q x { s with heap:=g }):wpAny (model prog w) A (Builtin.SmallTypes.nextOf (.ref j)) Q E s:=by
 obtain⟨ob,eb,kb,db⟩:=id hj
 obtain⟨oc,ec,_,nc,dc⟩:=ht
 unfold Builtin.SmallTypes.nextOf
 refine UD (Wi (name:=Str.ofString "__next__") hj.typeIs WC (WW WC hj.typeIs F.entry_tuple_iterator_next ?_ (F.args_tuple_iterator_next_1 _)))
 show wpAny _ _ (field (.ref j) 0 >>= _) _ _ s;refine UD (Vt eb db (x:=.ref t) rfl ?_)
 show wpAny _ _ (if (Value.ref t == Value.none)=true then _ else _) _ _ s;rw[if_neg (show ¬((Value.ref t == Value.none)=true)from Vk)]
 show wpAny _ _ (field (.ref j) 1 >>= _) _ _ s;refine UD (Vt eb db (x:=.int i 0) rfl ?_)
 show wpAny _ _ (seqItems? (.ref t) >>= _) _ _ s;refine UD (Wu ec dc ?_)
 simp only[Int.toNat_natCast,hx];refine UD (Xg eb db (by simp) (UL ⟨x,rfl,UL (k _ ?_ (Heap.SameBut.update ..))⟩))
 exact⟨_,V1 _ eb (WG (Wh db _)),(Obj.cls_mapFields ..).trans kb,by rw[Wh db];simp[rawInt]⟩
def Jk{j t:Addr}{i:Nat}{its:Vw}{Q:Vq}(hh:A.handled=none)(hj:s.heap.IsTupleIter j t i)(ht:s.heap.IsTuple t its)(hx:its[i]?=none)
  (k:∀(g:Heap) (e:Addr),Heap.ExtBut j s.heap g->(∃o,g.get? e=some o/\o.cls = .type "StopIteration")->E (.ref e) { s with heap:=g }):wpAny (model prog w) A (Builtin.SmallTypes.nextOf (.ref j)) Q E s:=by
 obtain⟨ob,eb,kb,db⟩:=id hj
 obtain⟨oc,ec,_,nc,dc⟩:=ht
 unfold Builtin.SmallTypes.nextOf
 refine UD (Wi (name:=Str.ofString "__next__") hj.typeIs WC (WW WC hj.typeIs F.entry_tuple_iterator_next ?_ (F.args_tuple_iterator_next_1 _)))
 show wpAny _ _ (field (.ref j) 0 >>= _) _ _ s;refine UD (Vt eb db (x:=.ref t) rfl ?_)
 show wpAny _ _ (if (Value.ref t == Value.none)=true then _ else _) _ _ s;rw[if_neg (show ¬((Value.ref t == Value.none)=true)from Vk)]
 show wpAny _ _ (field (.ref j) 1 >>= _) _ _ s;refine UD (Vt eb db (x:=.int i 0) rfl ?_)
 show wpAny _ _ (seqItems? (.ref t) >>= _) _ _ s;refine UD (Wu ec dc ?_)
 simp only[Int.toNat_natCast,hx];refine UD (Yb (UD (Xg eb db (by simp) ?_)))
 show wpAny _ _ (newExc (.type "StopIteration") [] >>= _) _ _ _;refine UD ?_
 simp only[newExc,newTuple];refine UD (Wa ?_ (by size_fits))
 refine UD (m:=firstArgMember _ _) (wpAny_of_eq (a:=Value.none) (by first|rfl|(simp only[firstArgMember];rfl)) ?_);refine Wa ?_ (by size_fits)
 simp only[raiseNew];refine UD (wpAny_handled ?_)
 first|(rw[hh])|(rw[show A.in1.handled=none from hh])
 exact UD (UL (wpAny_throw (k _ _ (((Heap.SameBut.update ..).extBut.push _).push _) ⟨_,U0 _ rfl,rfl⟩)))
def HN{kd:Bool}{j t:Addr}{i:Nat}{its:Vw}{x:Value}{Q:Vq}(hj:Si kd s.heap j t i)(ht:Sq kd s.heap t its)(hx:its[i]?=some x)
  (k:∀g:Heap,Si kd g j t (i+1)->Heap.SameBut j s.heap g->Q x { s with heap:=g }):wpAny (model prog w) A (Builtin.SmallTypes.nextOf (.ref j)) Q E s:=by
 cases kd with
 |true=>exact wpAny_nextOf_list_item hj ht hx k
 |false=>exact nx hj ht hx k
def FS{kd:Bool}{j t:Addr}{i:Nat}{its:Vw}{Q:Vq}(hh:A.handled=none)(hj:Si kd s.heap j t i)(ht:Sq kd s.heap t its)(hx:its[i]?=none)
  (k:∀(g:Heap) (e:Addr),Heap.ExtBut j s.heap g->(∃o,g.get? e=some o/\o.cls = .type "StopIteration")->E (.ref e) { s with heap:=g }):wpAny (model prog w) A (Builtin.SmallTypes.nextOf (.ref j)) Q E s:=by
 cases kd with
 |true=>exact wpAny_nextOf_list_end hh hj ht hx k
 |false=>exact Jk hh hj ht hx k
variable {ka kb:Bool}{z TI TO i1 i2 l1 l2:Addr}{k1 k2:Nat}{xs ys:Vw}{x y a b:Value}
def zX{Q:Vq}(D:ZipApart z TI TO i1 i2 l1 l2)(gz:IsZip s.heap z TI TO .none)(gI:IsPair s.heap TI (.ref i1) (.ref i2))(gO:IsPair s.heap TO a b)
  (g1:Si ka s.heap i1 l1 k1) (g2:Si kb s.heap i2 l2 k2) (t1:Sq ka s.heap l1 xs) (t2:Sq kb s.heap l2 ys) (hx:xs[k1]?=some x) (hy:ys[k2]?=some y)
  (k:∀g,IsZip g z TI TO (rawInt s.heap.objs.size)->IsPair g TO x y->Si ka g i1 l1 (k1+1)->Si kb g i2 l2 (k2+1)->IsPair g s.heap.objs.size x y->
   (∀c o,c≠z->c≠TO->c≠i1->c≠i2->s.heap.get? c=some o->g.get? c=some o)->Q (.ref s.heap.objs.size) { s with heap:=g }) :
  wpAny (model prog w) A (Builtin.«zip.__next__» ⟨[.ref z],[]⟩) (λfin s'=>∃v,fin = .done (.ret v)/\Q v s') E s:=by
 show wpAny _ _ (field (.ref z) 2 >>= _) _ _ _;refine UD (Vt gz rfl (x:=.bool false) rfl ?_)
 show wpAny _ _ (field (.ref z) 3 >>= _) _ _ _;refine UD (Vt gz rfl (x:=.ref TI) rfl (UD (Wu gI rfl ?_)))
 show wpAny _ _ (Builtin.SmallTypes.ownedTupleIsFree (.ref z) >>= _) _ _ _;refine UD ?_;unfold Builtin.SmallTypes.ownedTupleIsFree
 refine UD (Vt gz rfl (x:=.none) rfl (UL ?_));simp only[VL]
 refine UD (Yb (UD (Vt gz rfl (x:=.ref TO) rfl (UD (WD gz (by simp) λh₁ z1 q1=>?_)))))
 replace z1:IsZip h₁ z TI TO .ellipsis:=z1
 refine UD ?_;simp only[List.zipIdx_cons,List.zipIdx_nil,Xz,List.forIn_nil]
 refine UD (UD (wpAny_onRaise ?_));show wpAny _ _ (Builtin.SmallTypes.nextOf (.ref i1) >>= _) _ _ _
 refine UD (HN (g1.extBut q1.extBut D.i1z) (t1.extBut q1.extBut D.l1z) hx λh₂ n1 q2=>UL ?_)
 have o2:IsPair h₂ TO a b:=q2.extBut _ _ D.TOi1 (q1.extBut _ _ D.TOz gO)
 refine UD (Wu o2 rfl (UD (Yk o2 λh₃ o3 q3=>?_)))
 replace o3:IsPair h₃ TO x b:=o3
 refine UD (wpAny_letGo (UL ?_));refine UD (UD (wpAny_onRaise ?_));show wpAny _ _ (Builtin.SmallTypes.nextOf (.ref i2) >>= _) _ _ _
 refine UD (HN (((g2.extBut q1.extBut D.i2z).extBut q2.extBut D.i12.symm).extBut q3.extBut D.TOi2.symm) (((t2.extBut q1.extBut D.l2z).extBut q2.extBut D.l2i1).extBut q3.extBut D.l2TO) hy λh₄ n2 q4=>UL ?_)
 have o4:IsPair h₄ TO x b:=q4.extBut _ _ D.TOi2 o3
 refine UD (Wu o4 rfl (UD (Yk o4 λh₅ o5 q5=>?_)))
 replace o5:IsPair h₅ TO x y:=o5
 refine UD (wpAny_letGo (UL (UL ?_)));refine UD (Wu o5 rfl (UD (wpAny_newTuple ?_)))
 have sz:h₅.objs.size=s.heap.objs.size:=by rw[q5.1,q4.1,q3.1,q2.1,q1.1]
 have z5:IsZip h₅ z TI TO .ellipsis:=q5.extBut _ _ D.TOz.symm (q4.extBut _ _ D.i2z.symm (q3.extBut _ _ D.TOz.symm (q2.extBut _ _ D.i1z.symm z1)))
 have kk:∀c o,c≠z->c≠TO->c≠i1->c≠i2->s.heap.get? c=some o->h₅.get? c=some o:=λc o c1 c2 c3 c4 e=>q5.extBut _ _ c2 (q4.extBut _ _ c4 (q3.extBut _ _ c2 (q2.extBut _ _ c3 (q1.extBut _ _ c1 e))))
 have m1:Si ka h₅ i1 l1 (k1+1):=((n1.extBut q3.extBut D.TOi1.symm).extBut q4.extBut D.i12).extBut q5.extBut D.TOi1.symm
 have m2:Si kb h₅ i2 l2 (k2+1):=n2.extBut q5.extBut D.TOi2.symm
 have zl:z < h₅.objs.size:=US z5
 show wpAny _ _ (Builtin.SmallTypes.ownedTupleHandOut (.ref z) (.ref h₅.objs.size) >>= _) _ _ _;refine UD ?_;unfold Builtin.SmallTypes.ownedTupleHandOut
 have z6:IsZip (h₅.push { cls:=.type "tuple",data:=.seq #[x,y] }) z TI TO .ellipsis:=UG _ z5
 refine UD (WD z6 (by simp) λh₇ z7 q7=>?_)
 replace z7:IsZip h₇ z TI TO (rawInt h₅.objs.size):=z7
 refine WD z7 (by simp) λh₈ z8 q8=>?_
 replace z8:IsZip h₈ z TI TO (rawInt h₅.objs.size):=z8
 have up:∀c o,c≠z->h₅.get? c=some o->h₈.get? c=some o:=λc o c1 e=>q8.extBut _ _ c1 (q7.extBut _ _ c1 (UG _ e))
 have T8:IsPair h₈ h₅.objs.size x y:=q8.extBut _ _ (WA zl) (q7.extBut _ _ (WA zl) (U0 _ rfl))
 rw[sz]at z8 T8
 refine UL ⟨_,rfl,?_⟩
 show Q (.ref h₅.objs.size) _
 rw[sz]
 exact k h₈ z8 (up _ _ D.TOz o5) (m1.at λo e=>up _ o D.i1z e) (m2.at λo e=>up _ o D.i2z e) T8 λc o c1 c2 c3 c4 e=>up c o c1 (kk c o c1 c2 c3 c4 e)
def De{Q:Fin->Shared->Prop}(hh:A.handled=none)(D:ZipApart z TI TO i1 i2 l1 l2)(gz:IsZip s.heap z TI TO .none)(gI:IsPair s.heap TI (.ref i1) (.ref i2))(gO:IsPair s.heap TO a b)
  (g1:Si ka s.heap i1 l1 k1) (g2:Si kb s.heap i2 l2 k2) (t1:Sq ka s.heap l1 xs) (t2:Sq kb s.heap l2 ys) (he:xs[k1]?=none\/ys[k2]?=none)
  (k:∀(g:Heap) (e:Addr),(∀c o,c≠z->c≠TO->c≠i1->c≠i2->s.heap.get? c=some o->g.get? c=some o)->(∃o,g.get? e=some o/\o.cls = .type "StopIteration")->E (.ref e) { s with heap:=g }) :
  wpAny (model prog w) A (Builtin.«zip.__next__» ⟨[.ref z],[]⟩) Q E s:=by
 show wpAny _ _ (field (.ref z) 2 >>= _) _ _ _;refine UD (Vt gz rfl (x:=.bool false) rfl ?_)
 show wpAny _ _ (field (.ref z) 3 >>= _) _ _ _;refine UD (Vt gz rfl (x:=.ref TI) rfl (UD (Wu gI rfl ?_)))
 show wpAny _ _ (Builtin.SmallTypes.ownedTupleIsFree (.ref z) >>= _) _ _ _;refine UD ?_;unfold Builtin.SmallTypes.ownedTupleIsFree
 refine UD (Vt gz rfl (x:=.none) rfl (UL ?_));simp only[VL]
 refine UD (Yb (UD (Vt gz rfl (x:=.ref TO) rfl (UD (WD gz (by simp) λh₁ z1 q1=>?_)))))
 replace z1:IsZip h₁ z TI TO .ellipsis:=z1
 refine UD ?_;simp only[List.zipIdx_cons,List.zipIdx_nil,Xz,List.forIn_nil]
 refine UD (UD (wpAny_onRaise ?_));show wpAny _ _ (Builtin.SmallTypes.nextOf (.ref i1) >>= _) _ _ _
 cases hx:xs[k1]? with
 |none=>
  refine UD (FS hh (g1.extBut q1.extBut D.i1z) (t1.extBut q1.extBut D.l1z) hx λh₂ e q2 ⟨oe,ge,ce⟩=>?_)
  have z2:IsZip h₂ z TI TO .ellipsis:=q2 _ _ D.i1z.symm z1
  have ez:e≠z:=λu=>by subst u;rw[z2]at ge;cases ge;simp at ce
  exact WD z2 (by simp) λh₃ _ q3=>k h₃ e (λc o c1 _ c3 _ u=>q3.extBut _ _ c1 (q2 _ _ c3 (q1.extBut _ _ c1 u))) ⟨oe,q3.extBut _ _ ez ge,ce⟩
 |some x=>
  have hy:ys[k2]?=none:=he.elim (λq=>by rw[hx]at q;cases q) id
  refine UD (HN (g1.extBut q1.extBut D.i1z) (t1.extBut q1.extBut D.l1z) hx λh₂ n1 q2=>UL ?_)
  have o2:IsPair h₂ TO a b:=q2.extBut _ _ D.TOi1 (q1.extBut _ _ D.TOz gO)
  refine UD (Wu o2 rfl (UD (Yk o2 λh₃ o3 q3=>?_)))
  refine UD (wpAny_letGo (UL ?_));refine UD (UD (wpAny_onRaise ?_));show wpAny _ _ (Builtin.SmallTypes.nextOf (.ref i2) >>= _) _ _ _
  refine UD (FS hh (((g2.extBut q1.extBut D.i2z).extBut q2.extBut D.i12.symm).extBut q3.extBut D.TOi2.symm) (((t2.extBut q1.extBut D.l2z).extBut q2.extBut D.l2i1).extBut q3.extBut D.l2TO) hy λh₄ e q4 ⟨oe,ge,ce⟩=>?_)
  have z4:IsZip h₄ z TI TO .ellipsis:=q4 _ _ D.i2z.symm (q3.extBut _ _ D.TOz.symm (q2.extBut _ _ D.i1z.symm z1))
  have ez:e≠z:=λu=>by subst u;rw[z4]at ge;cases ge;simp at ce
  exact WD z4 (by simp) λh₅ _ q5=>k h₅ e (λc o c1 c2 c3 c4 u=>q5.extBut _ _ c1 (q4 _ _ c4 (q3.extBut _ _ c2 (q2.extBut _ _ c3 (q1.extBut _ _ c1 u))))) ⟨oe,q5.extBut _ _ ez ge,ce⟩
def ue{Q:Option Value->Shared->Prop}(D:ZipApart z TI TO i1 i2 l1 l2)(gz:IsZip s.heap z TI TO .none)(gI:IsPair s.heap TI (.ref i1) (.ref i2))(gO:IsPair s.heap TO a b)
  (g1:Si ka s.heap i1 l1 k1) (g2:Si kb s.heap i2 l2 k2) (t1:Sq ka s.heap l1 xs) (t2:Sq kb s.heap l2 ys) (hx:xs[k1]?=some x) (hy:ys[k2]?=some y)
  (k:∀g,IsZip g z TI TO (rawInt s.heap.objs.size)->IsPair g TO x y->Si ka g i1 l1 (k1+1)->Si kb g i2 l2 (k2+1)->IsPair g s.heap.objs.size x y->
   (∀c o,c≠z->c≠TO->c≠i1->c≠i2->s.heap.get? c=some o->g.get? c=some o)->Q (some (.ref s.heap.objs.size)) { s with heap:=g }):wpAny (model prog w) A (pyNext (.ref z)) Q E s:=by
 have ty:s.TypeIs (.ref z) "zip":=⟨_,gz,rfl⟩
 unfold pyNext
 exact UD (wpAny_attempt (Wi (name:=Str.ofString "__next__") ty Yo (WW Yo ty F.entry_zip_next
  (zX D gz gI gO g1 g2 t1 t2 hx hy λg a1 a2 a3 a4 a5 a6=>UL (k g a1 a2 a3 a4 a5 a6)) (F.args_zip_next_1 _))))
def vU{Q:Option Value->Shared->Prop}(hh:A.handled=none)(D:ZipApart z TI TO i1 i2 l1 l2)(gz:IsZip s.heap z TI TO .none)(gI:IsPair s.heap TI (.ref i1) (.ref i2))(gO:IsPair s.heap TO a b)
  (g1:Si ka s.heap i1 l1 k1) (g2:Si kb s.heap i2 l2 k2) (t1:Sq ka s.heap l1 xs) (t2:Sq kb s.heap l2 ys) (he:xs[k1]?=none\/ys[k2]?=none)
  (k:∀g:Heap,(∀c o,c≠z->c≠TO->c≠i1->c≠i2->s.heap.get? c=some o->g.get? c=some o)->Q none { s with heap:=g }):wpAny (model prog w) A (pyNext (.ref z)) Q E s:=by
 have ty:s.TypeIs (.ref z) "zip":=⟨_,gz,rfl⟩
 unfold pyNext
 refine UD (wpAny_attempt (Wi (name:=Str.ofString "__next__") ty Yo (WW Yo ty F.entry_zip_next (De hh D gz gI gO g1 g2 t1 t2 he λg e kk ⟨o,ho,hc⟩=>?_) (F.args_zip_next_1 _))))
 exact UD (wpAny_isInstance (T:="StopIteration") (b:=true) ⟨o,ho,hc⟩ isSubtype_stop (UL (k _ kk)))
end
noncomputable abbrev it(kd:Bool)(l:Addr):Obj:={ cls:=.type (cond kd "list_iterator" "tuple_iterator"),data:=.fields #[.ref l,.int 0 0] }
def Si.mk{kd:Bool}{h:Heap}{a l:Addr}(e:h.get? a=some (it kd l)):Si kd h a l 0:=match kd,e with|true,e=>⟨_,e,rfl,rfl⟩|false,e=>⟨_,e,rfl,rfl⟩
noncomputable abbrev H1(ka:Bool)(h:Heap)(l1:Addr):Heap:=h.push (it ka l1)
noncomputable abbrev H2(ka kb:Bool)(h:Heap)(l1 l2:Addr):Heap:=(H1 ka h l1).push (it kb l2)
noncomputable abbrev H3(ka kb:Bool)(h:Heap)(l1 l2:Addr):Heap:=(H2 ka kb h l1 l2).push { cls:=.type "tuple",data:=.seq #[.ref h.objs.size,.ref (H1 ka h l1).objs.size] }
noncomputable abbrev H4(ka kb:Bool)(h:Heap)(l1 l2:Addr):Heap:=(H3 ka kb h l1 l2).push { cls:=.type "tuple",data:=.seq #[.none,.none] }
noncomputable abbrev H5(ka kb:Bool)(h:Heap)(l1 l2:Addr):Heap:=(H4 ka kb h l1 l2).push { cls:=.type "zip",data:=.fields #[.none,.bool false,.bool false,.ref (H2 ka kb h l1 l2).objs.size,.ref (H3 ka kb h l1 l2).objs.size] }
def uf(ka kb:Bool)(l1 l2:Addr)(xs ys:Vw) :
  Meets (Builtin.«zip.__new__» ⟨[.type "zip",.ref l1,.ref l2],[]⟩) (λ_ R s=>Sq ka s.heap l1 xs/\Sq kb s.heap l2 ys/\R (.ok (.ret (.ref (H4 ka kb s.heap l1 l2).objs.size))) { s with heap:=H5 ka kb s.heap l1 l2 }):=
 .of_wp λprog w A R s h=>by
  obtain⟨hp,g,d,tk,os⟩:=s;obtain⟨e1,e2,h⟩:=h
  have hsub:=sub_zip
  match ka,kb,e1,e2,h with
  |false,false,e1,e2,h=>
   have L1:Heap.IsTuple (Shared.heap ⟨hp,g,d,tk,os⟩) l1 xs:=e1
   have L2:Heap.IsTuple (Shared.heap ⟨hp.push { cls:=.type "tuple_iterator",data:=.fields #[.ref l1,.int 0 0] },g,d,tk,os⟩) l2 ys:=Heap.IsTuple.push e2 _
   wp_walk using W4 L1,W4 L2
   exact⟨_,rfl,h⟩
  |false,true,e1,e2,h=>
   have L1:Heap.IsTuple (Shared.heap ⟨hp,g,d,tk,os⟩) l1 xs:=e1
   have L2:Heap.IsList (Shared.heap ⟨hp.push { cls:=.type "tuple_iterator",data:=.fields #[.ref l1,.int 0 0] },g,d,tk,os⟩) l2 ys:=Heap.IsList.push e2 _
   wp_walk using W4 L1,WO L2
   exact⟨_,rfl,h⟩
  |true,false,e1,e2,h=>
   have L1:Heap.IsList (Shared.heap ⟨hp,g,d,tk,os⟩) l1 xs:=e1
   have L2:Heap.IsTuple (Shared.heap ⟨hp.push { cls:=.type "list_iterator",data:=.fields #[.ref l1,.int 0 0] },g,d,tk,os⟩) l2 ys:=Heap.IsTuple.push e2 _
   wp_walk using WO L1,W4 L2
   exact⟨_,rfl,h⟩
  |true,true,e1,e2,h=>
   have L1:Heap.IsList (Shared.heap ⟨hp,g,d,tk,os⟩) l1 xs:=e1
   have L2:Heap.IsList (Shared.heap ⟨hp.push { cls:=.type "list_iterator",data:=.fields #[.ref l1,.int 0 0] },g,d,tk,os⟩) l2 ys:=Heap.IsList.push e2 _
   wp_walk using WO L1,WO L2
   exact⟨_,rfl,h⟩
section
variable {ka kb:Bool}{prog:Program}{w:World}{A:Around}{E:Vq}{s:Shared}
def vV{l1 l2:Addr}{xs ys:Vw}{Q:Vq}(e1:Sq ka s.heap l1 xs)(e2:Sq kb s.heap l2 ys)
  (k:∀g,IsZip g (s.heap.objs.size+4) (s.heap.objs.size+2) (s.heap.objs.size+3) .none->IsPair g (s.heap.objs.size+2) (.ref s.heap.objs.size) (.ref (s.heap.objs.size+1))->
   IsPair g (s.heap.objs.size+3) .none .none->Si ka g s.heap.objs.size l1 0->Si kb g (s.heap.objs.size+1) l2 0->
   (∀c o,s.heap.get? c=some o->g.get? c=some o)->Q (.ref (s.heap.objs.size+4)) { s with heap:=g }) :
  wpAny (model prog w) A (call (.type "zip") [.ref l1,.ref l2]) Q E s:=by
 refine callType_new F.called_zip (by decide) (F.typeCall_zip_2 _ _) (F.newCall_zip_2 _ _) (λobj=>F.args_object_init_3 obj _ _) F.entry_zip_new (uf ka kb l1 l2 xs ys) ⟨e1,e2,?_⟩
 have z1:(H1 ka s.heap l1).objs.size=s.heap.objs.size+1:=Wk ..
 have z2:(H2 ka kb s.heap l1 l2).objs.size=s.heap.objs.size+2:=by rw[Wk,z1]
 have z3:(H3 ka kb s.heap l1 l2).objs.size=s.heap.objs.size+3:=by rw[Wk,z2]
 have z4:(H4 ka kb s.heap l1 l2).objs.size=s.heap.objs.size+4:=by rw[Wk,z3]
 have g5:(H5 ka kb s.heap l1 l2).get? (H4 ka kb s.heap l1 l2).objs.size=some _:=U0 _ rfl
 have g4:(H5 ka kb s.heap l1 l2).get? (H3 ka kb s.heap l1 l2).objs.size=some _:=UG _ (U0 _ rfl)
 have g3:(H5 ka kb s.heap l1 l2).get? (H2 ka kb s.heap l1 l2).objs.size=some _:=UG _ (UG _ (U0 _ rfl))
 have g2:(H5 ka kb s.heap l1 l2).get? (H1 ka s.heap l1).objs.size=some _:=UG _ (UG _ (UG _ (U0 _ rfl)))
 have g1:(H5 ka kb s.heap l1 l2).get? s.heap.objs.size=some _:=UG _ (UG _ (UG _ (UG _ (U0 _ rfl))))
 show _/\_
 rw[z2,z3,z4]at g5
 rw[z1,z2]at g3
 rw[z3]at g4
 rw[z1]at g2
 rw[z4]
 exact⟨⟨_,g5,rfl⟩,k _ g5 g3 g4 (.mk g1) (.mk g2) λc o e=>UG _ (UG _ (UG _ (UG _ (UG _ e))))⟩
end
end Zt
namespace L2
open PySem PySem.Spec PyProof.Rows
section
variable {X:Cx}{pins:Va}{σ:St}{H:Hp}{s:Shared}{h':Heap}
def Inv.Np{t':Nat}{fp:List Addr}(I:Inv X pins σ H s)(k:∀b o,b ∉ fp->s.heap.get? b=some o->h'.get? b=some o)(hf:∀b∈fp,JV X pins H b)(ht:1<=t':=by walk_at "t"):Inv X pins σ H { s with heap:=h',toks:=t' }:=by
 have PZ:∀b u,H b=some u->b ∉ fp:=λb u e z=>by rw[(hf b z).1]at e;cases e
 refine I.step (g':=s.gens) (d':=s.drawn) (ch:=fp) (λb hb=>?_) (λb o _ _ hc e _=>k b o hc e) (λb o _ _ hc e _=>⟨o.slots,k b o hc e⟩) (λ_ _ _ _ n=>n)
  (λb o hc e=>⟨o,k b o hc e⟩) (λ_ _ e=>e) (λ_ _ _ e=>e) (λb ps e=>⟨#[],by rw[e];simp⟩) (λm hm=>?_) (λb u e=>?_) I.bare
 .obtain⟨f0,f1,f2,f3,f4,f5⟩:=hf b hb
  exact⟨f3,f1,f4,f5⟩
 .obtain⟨o,es,ep,ho,r⟩:=hm
  exact⟨o,es,ep,k _ o (λz=>(hf _ z).2.1 rfl) ho,r⟩
 .refine(I.hok b u e).stay (λc v hc q=>k c v ?_ q) (λ_ q=>q) λ_ _ q=>q
  rcases hc with z|z
  .rw[z];exact PZ b u e
  .exact PZ c _ z
def Inv.Ph{D:Addr}{us:Vv}{ys:List V}(I:Inv X pins σ H s)(f:JV X pins H D)(e:KA s.heap D us.toArray)(r:Vals ys us)(hz:ys.length<=sizeLine) :
  Inv X pins σ (upd H D (.tup ys)) s:=by
 obtain⟨f0,f1,f2,f3,f4,f5⟩:=f
 have nD:∀b u,H b=some u->b≠D:=λb u q=>aV q f0
 have hok:K9 X.prog X.w (upd H D (.tup ys)) s.heap:=λb u q=>by
  by_cases hb:b=D
  .subst hb
   rw[au]at q
   cases q
   exact⟨hz,us,r,e⟩
  .rw[aw hb]at q
   exact(I.hok b u q).stay (λ_ _ _ z=>z) (λc z=>by rw[aw (nD c _ z)];exact z) λc xs z=>by rw[aw (nD c _ z)];exact z
 exact I.step (H':=upd H D (.tup ys)) (h':=s.heap) (g':=s.gens) (t':=s.toks) (d':=s.drawn) (ch:=[D])
  (λb hb=>by
   have z:b=D:=by simpa using hb
   subst z
   exact⟨f3,f1,f4,f5⟩)
  (λ_ _ _ _ _ q _=>q) (λ_ o _ _ _ q _=>⟨o.slots,q⟩)
  (λb o hb _ n=>by rw[aw (λz=>hb (by simp[z]))];exact n)
  (λ_ o _ q=>⟨o,q⟩) (λb xs q=>by rw[aw (nD b _ q)];exact q) (λb o u q=>by rw[aw (nD b _ q)];exact q)
  (λb ps q=>⟨#[],by rw[aw (nD b _ q),q];simp⟩) (λ_ q=>q) hok I.bare
end
def ug(kd:Bool)(K:Vo)(H:Hp)(a:Addr)(xs:List V):Prop:=cond kd (SqL K H a xs) (SqT K H a xs)
def Inv.ND{X:Cx}{pins:Va}{σ:St}{H:Hp}{s:Shared}{kd:Bool}{a:Addr}{xs:List V}(I:Inv X pins σ H s)(h:ug kd X.K H a xs):∃its:List Value,Vals xs its/\Zt.Sq kd s.heap a its.toArray:=by
 cases kd with
 |true=>obtain⟨i,r,p,z⟩:=I.list h;exact⟨i,r,p.isList⟩
 |false=>obtain⟨i,r,p,z⟩:=I.tuple h;exact⟨i,r,p⟩
def Inv.MJ{X:Cx}{pins:Va}{σ:St}{H:Hp}{s:Shared}{kd:Bool}{a:Addr}{xs ys:List V}(I:Inv X pins σ H s)(h:ug kd X.K H a xs)(g:ug kd X.K H a ys):xs=ys:=by
 cases kd with
 |true=>exact I.MI h g
 |false=>exact I.Mr h g
noncomputable def HP(ka kb:Bool)(K:Vo)(a b:Addr):It:=
  ⟨λi H=>∃xs ys x y,ug ka K H a xs/\ug kb K H b ys/\xs[i]?=some x/\ys[i]?=some y,
   λi H v H'=>∃p x y,v = .ref p/\H p=none/\H'=upd H p (.tup [x,y])/\∀xs ys,ug ka K H a xs->ug kb K H b ys->xs[i]?=some x/\ys[i]?=some y,
   λi H=>∃xs ys,ug ka K H a xs/\ug kb K H b ys/\(xs.length<=i\/ys.length<=i)⟩
def vW{ka kb:Bool}{P:Program}{w:World}{K:Vo}{elts:List Expr}{k0:Nat}{N6:Pos}{z TI TO i1 i2 a b:Addr}(D:ZipApart z TI TO i1 i2 a b) :
  mS P w K (.Tuple elts k0 N6) (HP ka kb K a b) [z,TI,TO,i1,i2] z (λi h=>IsZip h z TI TO .none/\IsPair h TI (.ref i1) (.ref i2)/\(∃x y,IsPair h TO x y)/\Zt.Si ka h i1 a i/\Zt.Si kb h i2 b i) where
 mem:=by simp
 obj:=λi h st c hc=>by
  obtain⟨gz,gI,⟨x,y,gO⟩,g1,g2⟩:=st
  obtain⟨o1,_,e1,d1⟩:=g1.ob;obtain⟨o2,_,e2,d2⟩:=g2.ob
  simp only[UI,UW,Vy]at hc
  rcases hc with rfl|rfl|rfl|rfl|rfl
  .exact⟨_,gz,λv q=>by cases q⟩
  .exact⟨_,gI,λv q=>by cases q⟩
  .exact⟨_,gO,λv q=>by cases q⟩
  .exact⟨_,e1,λv q=>by rw[d1]at q;cases q⟩
  .exact⟨_,e2,λv q=>by rw[d2]at q;cases q⟩
 keep:=λi h h' st k=>by
  obtain⟨gz,gI,⟨x,y,gO⟩,g1,g2⟩:=st
  exact⟨k z (by simp) _ gz,k TI (by simp) _ gI,⟨x,y,k TO (by simp) _ gO⟩,g1.at λo e=>k i1 (by simp) o e,g2.at λo e=>k i2 (by simp) o e⟩
 item:=by
  walk_at "4"
  subst hP hw hK
  obtain⟨gz,gI,⟨ta,tb,gO⟩,g1,g2⟩:=st
  obtain⟨xs,ys,x,y,QL,QM,hx,hy⟩:=hg
  obtain⟨ia,ra,pa⟩:=I.ND QL
  obtain⟨ib,rb,pb⟩:=I.ND QM
  obtain⟨u,hu,ru⟩:=ra.get hx
  obtain⟨v,hv,rv⟩:=rb.get hy
  refine Zt.ue D gz gI gO g1 g2 pa pb (x:=u) (y:=v) (by simpa using hu) (by simpa using hv) λg a1 a2 a3 a4 a5 a6=>?_
  refine⟨_,rfl,wpAny_letOwnedTupleGo_zip (s:={ s with heap:=g }) a1 λg' z' q'=>?_⟩
  have kk:∀c o,c ∉ [z,TI,TO,i1,i2]->s.heap.get? c=some o->g'.get? c=some o:=λc o hc e=>by
   simp only[UI,UW,Vy,not_or]at hc
   exact q'.extBut _ _ hc.1 (a6 c o hc.1 hc.2.2.1 hc.2.2.2.1 hc.2.2.2.2 e)
  have I1:Inv X pins σ H { s with heap:=g' }:=I.Np (t':=s.toks) kk hf
  have f0:JV X pins H s.heap.objs.size:=I.Lb (UH _) (I.hok.fresh (UH _))
  have eT:KA g' s.heap.objs.size [u,v].toArray:=⟨_,q'.extBut _ _ (WA (US gz)) a5,rfl,rfl,_,rfl⟩
  have I2:=I1.Ph f0 eT (.cons ru (.cons rv .nil)) (by show 2<=sizeLine;decide)
  refine⟨.ref s.heap.objs.size,_,I2,rfl,⟨s.heap.objs.size,x,y,rfl,f0.1,rfl,λxs' ys' h1 h2=>by rw[I.MJ h1 QL,I.MJ h2 QM];exact⟨hx,hy⟩⟩,
   ⟨z',q'.extBut _ _ D.TIz (a6 TI _ D.TIz D.TITO D.TIi1 D.TIi2 gI),⟨_,_,q'.extBut _ _ D.TOz a2⟩,a3.extBut q'.extBut D.i1z,a4.extBut q'.extBut D.i2z⟩,λc hc=>?_⟩
  have hlt:c < s.heap.objs.size:=by
   obtain⟨_,_,e1,_⟩:=g1.ob
   obtain⟨_,_,e2,_⟩:=g2.ob
   simp only[UI,UW,Vy]at hc
   rcases hc with rfl|rfl|rfl|rfl|rfl
   .exact US gz
   .exact US gI
   .exact US gO
   .exact US e1
   .exact US e2
  rw[aw (Vm hlt)]
  exact(hf c hc).1
 done:=by
  walk_at "4"
  subst hP hw hK
  obtain⟨gz,gI,⟨ta,tb,gO⟩,g1,g2⟩:=st
  obtain⟨xs,ys,QL,QM,hl⟩:=hg
  obtain⟨ia,ra,pa⟩:=I.ND QL
  obtain⟨ib,rb,pb⟩:=I.ND QM
  have la:=ra.length
  have lb:=rb.length
  refine Zt.vU (I.ok.hd hc) D gz gI gO g1 g2 pa pb ?_ λg kk=>⟨rfl,I.Np (t':=s.toks) (λc o hc e=>?_) hf⟩
  .rcases hl with q|q
   .exact .inl (by simp;omega)
   .exact .inr (by simp;omega)
  .simp only[UI,UW,Vy,not_or]at hc
   exact kk c o hc.1 hc.2.2.1 hc.2.2.2.1 hc.2.2.2.2 e
 self:=λ_ _ _ _ _ st h=>wpAny_pyIter_zip st.1 h
section
variable {X:Cx}
def HQ(K:Vo)(ta:TA):TI:=λσ H R=>ta σ H λvs H1=>∃ka kb a b,vs=[.ref a,.ref b]/\(∃xs,ug ka K H1 a xs)/\(∃ys,ug kb K H1 b ys)/\R (HP ka kb K a b) H1
def Df{elts:List Expr}{k0:Nat}{N6:Pos}{a b:Expr}{ta:TA}{p pos:Pos}(hg:Gl X "zip")(hm:X.mg "zip" = none)(hv:bootBuiltins "zip" = some (.type "zip"))(ha:PA X [a,b] ta)
  (hs:starEach [a,b] X.env=[(false,eval a X.env),(false,eval b X.env)]:=by rfl) (hs2:starEach [b] X.env=[(false,eval b X.env)]:=by rfl):PI X (.Tuple elts k0 N6) (.Call (.Name "zip" p) [a,b] [] pos) (HQ X.K ta):=by
 intro pins s σ H R I h
 refine Call_ (ef I hg hm hv (VO (JN (ha pos pins s σ H _ I h) λus s1 ⟨vs,H1,I1,r1,q1⟩=>?_) (by rw[hs,hs2]) (by rw[hs2];rfl)))
 obtain⟨ka,kb,a,b,e,⟨xs,qa⟩,⟨ys,qb⟩,q⟩:=q1
 subst e
 obtain⟨u,v,rfl,ru,rv⟩:=BD r1
 cases ru
 cases rv
 obtain⟨ia,ra,pa⟩:=I1.ND qa
 obtain⟨ib,rb,pb⟩:=I1.ND qb
 have la:a < s1.heap.objs.size:=pa.lt
 have lb:b < s1.heap.objs.size:=pb.lt
 refine Zt.vV pa pb λg gz gI gO g1 g2 kk=>?_
 refine wpAny_pyIter_zip (s:={ s1 with heap:=g }) gz ?_
 refine⟨_,[s1.heap.objs.size+4,s1.heap.objs.size+2,s1.heap.objs.size+3,s1.heap.objs.size,s1.heap.objs.size+1],_,_,H1,rfl,I1.kept (t':=s1.toks) kk,vW (zipApart_new la lb),⟨gz,gI,⟨_,_,gO⟩,g1,g2⟩,λc hc=>?_,q⟩
 have hle:s1.heap.objs.size<=c:=by
  simp only[UI,UW,Vy]at hc
  rcases hc with rfl|rfl|rfl|rfl|rfl
  .exact Yd _ _
  .exact Yd _ _
  .exact Yd _ _
  .exact UH _
  .exact Yd _ _
 exact I1.Lb hle (I1.hok.fresh hle)
def KD(P:Program)(w:World)(K:Vo)(a:Addr)(kvs:List (bp×V)):Prop:=(a == sysModules)=false/\∃o vs,K.lookup a=some o/\KV kvs vs/\Obj.IsDictOf (aW P w) o vs
end
section
variable {env:Env}{rest:List Expr}{pos:Pos}
def uh{a:Expr}{gs:List Comprehension}{sc:Scope}:starEach (.ListComp a gs sc pos::rest) env=(false,eval (.ListComp a gs sc pos) env)::starEach rest env:=rfl
end
end L2
namespace Et
open PySem
open Sem (wp)
open AutoSeq1 (wpAny_loadPart')
end Et
namespace L2
open PySem PySem.Spec PyProof.Rows
section
variable {X:Cx}
def Dg:gi X (compareOp .Is) (λx y H Q=>x = .bl true/\y = .bl true/\Q (.bl true) H):=by
 walk_at "3"
 obtain⟨rfl,rfl,q⟩:=h
 cases (show v=Value.bool true from rx)
 cases (show u=Value.bool true from ry)
 exact wpAny_is_self rfl ⟨.bl true,H,I,rfl,q⟩
def uk:gi X (compareOp .IsNot) (λx y H Q=>x = .bl true/\y = .bl true/\Q (.bl false) H):=by
 walk_at "3"
 obtain⟨rfl,rfl,q⟩:=h
 cases (show v=Value.bool true from rx)
 cases (show u=Value.bool true from ry)
 exact wpAny_isNot_self rfl ⟨.bl false,H,I,rfl,q⟩
end
def vX(w:World)(x:Str):PyData.keyHash w.params x=hashStr w x:=rfl
end L2
namespace Wd
open PySem L2 PyProof.Rows
noncomputable def abc:Str:="abcdefghijklmnopqrstuvwxyz"
noncomputable def J8:List Str:=["jars","deed","rest","pay","put","then","either","take","often","use"]
def Dh:∀i,i < 26->abc.cps.toList[i]?=some (97+i):=by decide +kernel
def zY:abc.length<=sizeLine/\abc.cps.toList.length=26:=by decide +kernel
structure E8(z:Str):Prop where
 ne:z.cps.toList≠[]
 le:z.cps.toList.length<=6
 sm:∀c∈z.cps.toList,97<=c/\c<=122
def Di(i:Nat):Kn abc.cps.toList ((i % 26:Nat):Int)=some (97+i % 26):=b6 (Dh _ (Nat.mod_lt _ (by decide)))
def qL(cs:List Nat):Txt.join "" (cs.map sgn)=⟨cs.toArray⟩:=by
 have q:=join_nil_signs ⟨cs.toArray⟩
 have e:Txt.join "" (cs.map sgn)=Str.join ⟨#[]⟩ (cs.map sgn):=StrLaws.glued_eq_join _ _
 rw[e]
 exact q
def zZ(cs:List Nat):((cs.map sgn).map (·.length)).sum=cs.length:=by
 induction cs with
 |nil=>rfl
 |cons c r ih=>rw[UE,UE,VU,ih,UQ];show 1+r.length=_;omega
end Wd
namespace M3
noncomputable def kF(t b:Int):Int:=(if b < 0 then -t else t) / (Int.gcd t b:Int)
noncomputable def lV(t b:Int):Int:=(if b < 0 then -b else b) / (Int.gcd t b:Int)
def iq{t b:Int}(h:b≠0):0 < Int.gcd t b:=Nat.gcd_pos_of_pos_right _ (by omega)
def Dj{t b:Int}(h:b≠0):(Int.gcd t b:Int)<=b.natAbs:=by
 have q:Nat.gcd t.natAbs b.natAbs<=b.natAbs:=Nat.gcd_le_right _ (by omega)
 have e:Int.gcd t b=Nat.gcd t.natAbs b.natAbs:=rfl
 omega
def vY(t b:Int):Int.gcd (-t) (-b)=Int.gcd t b:=by rw[Int.gcd_neg,Int.neg_gcd]
def parts(t b:Int):∃x y:Int,t=(Int.gcd t b:Int) * x/\b=(Int.gcd t b:Int) * y:=by
 obtain⟨x,hx⟩:=Int.gcd_dvd_left t b
 obtain⟨y,hy⟩:=Int.gcd_dvd_right t b
 exact⟨x,y,hx,hy⟩
def Dk{t b x y g:Int}(hg:g=(Int.gcd t b:Int))(h:b≠0)(ht:t=g * x)(hb:b=g * y):kF t b=(if y < 0 then -x else x)/\lV t b=(if y < 0 then -y else y):=by
 have gp:0 < g:=by rw[hg];exact Yp.mpr (iq h)
 have hy:b < 0↔y < 0:=by
  rw[hb]
  constructor
  .intro q
   by_cases z:y < 0
   .exact z
   .have:=Int.mul_nonneg (Yu gp) (Int.not_lt.mp z)
    omega
  .intro q
   exact Int.mul_neg_of_pos_of_neg gp q
 unfold kF lV
 rw[<-hg]
 by_cases z:y < 0
 .rw[if_pos (hy.mpr z),if_pos (hy.mpr z),if_pos z,if_pos z]
  constructor
  .rw[ht,<-Int.mul_neg,WR _ (by omega)]
  .rw[hb,<-Int.mul_neg,WR _ (by omega)]
 .rw[if_neg (λq=>z (hy.mp q)),if_neg (λq=>z (hy.mp q)),if_neg z,if_neg z]
  constructor
  .rw[ht,WR _ (by omega)]
  .rw[hb,WR _ (by omega)]
def z0{t b x y:Int}(h:b≠0)(ht:t=(Int.gcd t b:Int) * x)(hb:b=(Int.gcd t b:Int) * y):Int.gcd x y=1:=by
 have gp:=iq (t:=t) h
 have q:Int.gcd ((Int.gcd t b:Int) * x) ((Int.gcd t b:Int) * y)=(Int.gcd t b:Int).natAbs * Int.gcd x y:=Int.gcd_mul_left _ _ _
 rw[<-ht,<-hb,Int.natAbs_natCast]at q
 have q2:Int.gcd t b * 1=Int.gcd t b * Int.gcd x y:=by omega
 exact(Nat.eq_of_mul_eq_mul_left gp q2).symm
structure HR(a b:Int):Prop where
 pos:0 < b
 one:Int.gcd a b=1
def ss{t b:Int}(h:b≠0):HR (kF t b) (lV t b):=by
 obtain⟨x,y,ht,hb⟩:=parts t b
 have c:=z0 h ht hb
 obtain⟨e1,e2⟩:=Dk rfl h ht hb
 have y0:y≠0:=λz=>h (by rw[hb,z,Int.mul_zero])
 rw[e1,e2]
 by_cases z:y < 0
 .rw[if_pos z,if_pos z]
  exact⟨by omega,by rw[vY];exact c⟩
 .rw[if_neg z,if_neg z]
  exact⟨by omega,c⟩
def vZ{t b:Int}(h:b≠0):t.fdiv (if b < 0 then -(Int.gcd t b:Int) else (Int.gcd t b:Int))=kF t b/\b.fdiv (if b < 0 then -(Int.gcd t b:Int) else (Int.gcd t b:Int))=lV t b:=by
 have gp:(0:Int) < (Int.gcd t b:Int):=Yp.mpr (iq h)
 have d1:=Int.gcd_dvd_left t b
 have d2:=Int.gcd_dvd_right t b
 unfold kF lV
 by_cases z:b < 0
 .rw[if_pos z,if_pos z,if_pos z,Int.fdiv_neg (by omega),if_pos d1,Int.fdiv_neg (by omega),if_pos d2,WX d1,WX d2,Int.neg_ediv_of_dvd d1,Int.neg_ediv_of_dvd d2]
  exact⟨rfl,rfl⟩
 .rw[if_neg z,if_neg z,if_neg z,WX d1,WX d2]
  exact⟨rfl,rfl⟩
def pf(x y:Int):Int.gcd y (x.fmod y)=Int.gcd x y:=by
 have q:=Int.mul_fdiv_add_fmod x y
 have e:Int.gcd y (x.fmod y+x.fdiv y * y)=Int.gcd y (x.fmod y):=Int.gcd_add_mul_right_right _ _ _
 rw[<-e,Int.mul_comm (x.fdiv y) y,Int.add_comm,q,Int.gcd_comm]
def v5{t b T B:Int}(h:b≠0)(h1:-T<=t)(h2:t<=T)(h3:-B<=b)(h4:b<=B)(hT:0<=T)(hB:0<=B):-T<=kF t b/\kF t b<=T/\0 < lV t b/\lV t b<=B:=by
 have gp:(0:Int) < (Int.gcd t b:Int):=Yp.mpr (iq h)
 have L:=(ss (t:=t) h).pos
 have key:∀z M:Int,0<=M->-M<=z->z<=M->-M<=z / (Int.gcd t b:Int)/\z / (Int.gcd t b:Int)<=M:=λz M hM z1 z2=>by
  generalize (Int.gcd t b:Int)=g at gp
  have m2:M * 1<=M * g:=Int.mul_le_mul_of_nonneg_left (by omega) hM
  have m3:-M * g = -(M * g):=Int.neg_mul M g
  exact⟨Int.le_ediv_of_mul_le gp (by omega),Int.ediv_le_of_le_mul gp (by omega)⟩
 have k1:=key (if b < 0 then -t else t) T hT (by split<;>omega) (by split<;>omega)
 have k2:=key (if b < 0 then -b else b) B hB (by split<;>omega) (by split<;>omega)
 exact⟨k1.1,k1.2,L,k2.2⟩
end M3
namespace Xc
open PySem PySem.W PySem.Calls PyProof.Rows Builtin Builtin.ObjectAttr
noncomputable abbrev Dl:List Value:=[.type "ValueError",.type "Exception",.type "BaseException",.type "object"]
noncomputable def ir(K:Frag)(C:Addr):Bool:=match K.lookup C with
 |some ⟨.type "type",_,.cls cd,sl⟩=>(match cd.mro,sl.toList with
  | .ref C'::bm,[_,_,_,_,some (.builtin n),_]=>C' == C&&n == "ValueError.__new__" && !cd.hasDel&&cd.hasDict&&tailIn K Dl bm
  |_,_=>false)
 |_=>false
def ni{K:Frag}{h:Heap}{C:Addr}(X:K.In h)(q:ir K C=true):∃nm qn N bs bm sn sub ab col dd k0 k1 k2 k3 k5,
  K.lookup C=some (excClassObj nm qn C N bs bm true sn sub ab col dd k0 k1 k2 k3 k5 "ValueError.__new__")/\OwnTail h Dl bm:=by
 unfold ir at q
 split at q
 .rename_i dd cd sl ho
  split at q
  .rename_i C' bm k0 k1 k2 k3 n k5 hm hs
   simp only[Vl,XF,YC]at q
   obtain⟨⟨⟨⟨rfl,rfl⟩,P7⟩,hdct⟩,ht⟩:=q
   obtain⟨nm,bs,mro,ns,qn,hd,sn,sub,ab,col,del⟩:=cd
   dsimp only at hm P7 hdct
   subst hm P7 hdct
   have hsl:sl=#[k0,k1,k2,k3,some (.builtin "ValueError.__new__"),k5]:=by
    obtain⟨l⟩:=sl
    simp only at hs
    rw[hs]
   subst hsl
   exact⟨nm,qn,ns,bs,bm,sn,sub,ab,col,dd,k0,k1,k2,k3,k5,ho,tail_of_in X ht⟩
  .cases q
 .cases q
noncomputable abbrev eu(rest:Vv):Obj:={ cls:=.type "tuple",data:=.seq rest.toArray }
noncomputable abbrev eA(C:Addr)(t:Addr):Obj:={ cls:=.ref C,data:=.fields #[.ref t,.none,.none,.none,.bool false,.none] }
section
variable {prog:Program}{w:World}{A:Around}{K:Frag}{C f:Addr}{R:Result->Shared->Prop}{h:Heap}{g:Array GenState}{d:Drawn}{t:Nat}{os:OsState}
def v7{rest:Vv}(X:K.In h)(q:ir K C=true)(hi:findIn K (.ref C) "__init__" = some (some (.ref f)))(hf:typeIn K (.ref f)=some (.type "function"))(hrest:rest.length<=sizeLine)
  (hq:codeAny (model prog w) (A.under (.builtin "type.__call__" ⟨.ref C::rest,[]⟩)) (.call (.ref f) ⟨.ref (h.objs.size+1)::rest,[]⟩) (InitBack (h.objs.size+1) R) ⟨(h.push (eu rest)).push (eA C h.objs.size),g,d,t,os⟩) :
  codeAny (model prog w) A (.call (.ref C) ⟨rest,[]⟩) R ⟨h,g,d,t,os⟩:=by
 obtain⟨nm,qn,N,bs,bm,sn,sub,ab,col,dd,k0,k1,k2,k3,k5,hK,T⟩:=ni X q
 have hC:=X _ _ hK
 have F0:=Xh
 have f1:=tc_lookup
 have f2:=tc_bind (.ref C)
 have hT:(⟨h,g,d,t,os⟩:Shared).TypeIs (.ref C) "type":=⟨_,hC,rfl⟩
 refine codeAny_of_tree ?_
 show wpAny _ _ (callAny (.ref C) _) _ _ _
 repeat (any_goals (first|assumption|with_reducible refine Wl hC ?_|wp_step))
 refine⟨rfl,?_⟩
 refine codeAny_call_builtin_at (Code.quiet_builtin _ (by decide +kernel)) entry_typeCall (wpAny_check_type_call_sub hC ?_)
 repeat (first|with_reducible refine Wl hC ?_|with_reducible refine wpAny_madeBy_exc hC ?_|wp_step)
 refine codeAny_call_builtin_code (Code.quiet_builtin _ F0.quiet) (wpAny_check_new_subU F0 F0.hasB T hC ?_)
 refine codeAny_exc_new_subU F0 F0.hasB F0 T hC ?_ hrest
 show wpAny _ _ _ _ _ _
 have k:∀b o,h.get? b=some o->((h.push (eu rest)).push (eA C h.objs.size)).get? b=some o:=λb o e=>UG _ (UG _ e)
 have hx:((h.push (eu rest)).push (eA C h.objs.size)).get? (h.objs.size+1)=some (eA C h.objs.size):=by heap_get
 have t1:Looks (model prog w) ((h.push (eu rest)).push (eA C h.objs.size)) (typeOf (.ref (h.objs.size+1))) (.ref C):=(Looks.ld hx).andThen .now
 have hC₁:=k _ _ hC
 have hcC:(Value.ref C::bm).contains (.ref C)=true:=by simp
 have i1:=(looks_findIn (M:=model prog w) X hi).keeps k
 have b1:=(bind_fn (M:=model prog w) X (.ref (h.objs.size+1)) hf).keeps k
 show wpAny (model prog w) (A.under (.builtin "type.__call__" ⟨.ref C::rest,[]⟩)) _ _ _ ⟨(h.push (eu rest)).push (eA C h.objs.size),g,d,t,os⟩
 unfold isInstance callSpecial? specialOf
 repeat (first|with_reducible refine Yw ?_|simp only[hcC,VW,UR,Vx]|lk)
 refine Xj hq λr s' z=>?_
 rcases r with e|(v|_|_|_)<;>first|exact z|exact z.elim|skip
 obtain⟨rfl,z⟩:=z
 exact UL (UL z)
end
structure ul(h:Heap)(e:Addr)(oe:Obj)(vs:Vw):Prop where
 at_:h.get? e=some oe
 dat:oe.data = .fields vs
 tb:vs[1]?=some .none\/∃T oT ts,vs[1]?=some (.ref T)/\T≠e/\h.get? T=some oT/\oT.data = .fields ts/\3 < ts.size
section
variable {M:Model}{A:Around}{E:Vq}{s:Shared}
noncomputable abbrev FT(l:List Env):List Addr:=l.filterMap (·.frame)
structure jE(l:List Env)(e:Addr)(oe:Obj)(old:Addr->Prop)(h h':Heap):Prop where
 lies:∃Ml vs' T oT ts,h'.get? e=some Ml/\Ml.cls=oe.cls/\Ml.dict=oe.dict/\Ml.data = .fields vs'/\vs'[1]?=some (.ref T)/\(h.objs.size<=T\/old T)/\T≠e/\h'.get? T=some oT/\oT.data = .fields ts/\3 < ts.size/\∀ws,oe.data = .fields ws->vs'[2]?=ws[2]?
 keep:∀b o,b≠e->¬old b->b ∉ FT l->h.get? b=some o->h'.get? b=some o
 slot:∀b o,b∈FT l->h.get? b=some o->∃sl,h'.get? b=some { o with slots:=sl }
def kG{base:Heap}{env:Env}{outer:List Env}{L e:Addr}{oe:Obj}{vs:Vw}{head:Value}{hadNext:Bool}{Q:Unit->Shared->Prop}
  (hfr:A.frames=some (env::outer)) (hl:s.heap.FunFrames base (env::outer)) (hf:env.frame=some L) (he:s.heap.get? e=some oe) (hd:oe.data = .fields vs) (hsz:1 < vs.size)
  (h:∀h',jE (env::outer) e oe (λ_=>False) s.heap h'->Q () { s with heap:=h' }) :
  wpAny M A (do let a <-frameOf env;let pl <-entryPlaceOf L hadNext;let b <-EntryCells.newEntry head a .none (rawInt L) .none pl;setField (.ref e) 1 b) Q E s:=by
 have P8:e ∉ (env::outer).filterMap (·.frame):=λhm=>by
  obtain⟨_,o,ho,hnf⟩:=hl.mem hm
  rw[he]at ho;injection ho with ho;subst ho;exact hnf vs hd
 refine UD (wpAny_frameOf_fun hfr hl hf λh₁ hs₁=>?_)
 refine UD (wpAny_entryPlaceOf λpl hpl=>?_)
 unfold EntryCells.newEntry newFields
 refine UD (Wa ?_ (hpl.sizeOk5 _ _ _ _ _))
 have So:h₁.get? e=some oe:=(hs₁.2.1 e P8).trans he
 have Sr:=UG (h:=h₁) { cls:=.type "traceback",dict:=none,data:=.fields ([head,.ref L,.none,rawInt L,.none]++(if pl.isEmpty then List.replicate 6 Value.none else pl)).toArray } So
 refine Xg Sr hd hsz ?_
 have P9:h₁.objs.size≠e:=WA (US So)
 have hd₃:=Wh hd (·.setIfInBounds 1 (Value.ref h₁.objs.size))
 have Tl:=V1 (Obj.mapFields (·.setIfInBounds 1 (Value.ref h₁.objs.size))) Sr (WG hd₃)
 have Tm:=(Vc (h₁.push { cls:=.type "traceback",dict:=none,data:=.fields ([head,.ref L,.none,rawInt L,.none]++(if pl.isEmpty then List.replicate 6 Value.none else pl)).toArray })
  (Obj.mapFields (·.setIfInBounds 1 (Value.ref h₁.objs.size))) (VI P9)).trans (U0 h₁ rfl)
 refine h _ ?_
 have keep:∀b o,b≠e->h₁.get? b=some o->
   ((h₁.push { cls:=.type "traceback",dict:=none,data:=.fields ([head,.ref L,.none,rawInt L,.none]++(if pl.isEmpty then List.replicate 6 Value.none else pl)).toArray }).update e (Obj.mapFields (·.setIfInBounds 1 (Value.ref h₁.objs.size)))).get? b=some o:=λb o NB hb=>by
  rw[Vc _ _ (VI NB)]
  exact UG _ hb
 refine⟨⟨_,_,h₁.objs.size,_,_,Tl,Obj.cls_mapFields _ _,?_,hd₃,by simp[hsz],.inl (Nat.le_of_eq hs₁.1.symm),P9,Tm,rfl,by simp only[UX,UK,List.length_cons,List.length_nil];omega,λws hw=>by rw[hd]at hw;cases hw;simp⟩,λb o NB _ Na hb=>keep b o NB ((hs₁.2.1 b Na).trans hb),λb o Na hb=>?_⟩
 .obtain⟨c,dd,da,sl⟩:=oe;cases hd;rfl
 .obtain⟨sl,hs⟩:=hs₁.2.2 b o hb
  exact⟨sl,keep b _ (λz=>P8 (z▸Na)) hs⟩
def d3(vs:Vw)(b:Addr):Prop:=vs[1]?=some (.ref b)
def pg{base:Heap}{env:Env}{outer:List Env}{L e:Addr}{oe:Obj}{vs:Vw}{Q:Unit->Shared->Prop}
  (hfr:A.frames=some (env::outer)) (hl:s.heap.FunFrames base (env::outer)) (hf:env.frame=some L) (x:ul s.heap e oe vs)
  (h:∀h',jE (env::outer) e oe (d3 vs) s.heap h'->Q () { s with heap:=h' }):wpAny M A (noteFrame (.ref e) env) Q E s:=by
 obtain⟨he,hd,h1|⟨T,oT,ts,h1,P9,hT,P_,h3⟩⟩:=x
 .unfold noteFrame
  simp only[hf]
  refine UD (Vt he hd h1 ?_)
  rw[if_neg (by decide)]
  refine kG hfr hl hf he hd (Array.getElem?_eq_some_iff.mp h1).1 λh' n=>h h' ⟨(by obtain⟨Ml,vs',T',QN,ts',a1,a2,a3,a4,a5,a6,a7⟩:=n.lies;exact⟨Ml,vs',T',QN,ts',a1,a2,a3,a4,a5,.inl (a6.resolve_right id),a7⟩),λb o hb _=>n.keep b o hb id,n.slot⟩
 .unfold noteFrame
  simp only[hf]
  refine UD (Vt he hd h1 ?_)
  rw[if_pos (show(Value.ref T != Value.none)=true from by simp)]
  obtain⟨x3,Tn⟩:∃x3,ts[3]?=some x3:=⟨ts[3],Array.getElem?_eq_getElem h3⟩
  refine UD (Vt hT P_ Tn ?_)
  by_cases Ss:(x3 == rawInt L)=true
  .rw[if_pos Ss]
   refine UL (h s.heap ⟨⟨oe,vs,T,oT,ts,he,rfl,rfl,hd,h1,.inr h1,P9,hT,P_,h3,λws hw=>by rw[hd]at hw;cases hw;rfl⟩,λb o _ _ _ q=>q,λb o _ q=>⟨o.slots,q⟩⟩)
  rw[if_neg Ss]
  refine UD (Xg hT P_ h3 ?_)
  have other:∀b,b≠T->(s.heap.update T (Obj.mapFields (·.setIfInBounds 3 Value.none))).get? b=s.heap.get? b:=λb hb=>Vc _ _ (VI hb)
  have N7:∀b o,s.heap.get? b=some o->(∀vs,o.data ≠ .fields vs)->b≠T:=λb o hb hnf q=>by
   rw[q,hT]at hb;injection hb with hb;subst hb;exact hnf ts P_
  refine kG hfr (hl.of_keeps λb o hb hnf=>⟨o,(other b (N7 b o hb hnf)).trans hb,rfl⟩) hf ((other e (VI P9)).trans he) hd (Array.getElem?_eq_some_iff.mp h1).1 λh' n=>h h' ⟨?_,λb o hb ho Na q=>n.keep b o hb id Na ((other b λz=>ho (by rw[z];exact h1)).trans q),λb o Na q=>n.slot b o Na ((other b λz=>?_).trans q)⟩
  .obtain⟨Ml,vs',T',QN,ts',a1,a2,a3,a4,a5,a6,a7⟩:=n.lies
   exact⟨Ml,vs',T',QN,ts',a1,a2,a3,a4,a5,.inl (by simpa [Heap.size_after_update]using a6.resolve_right id),a7⟩
  .obtain⟨_,o',ho',hnf⟩:=hl.mem Na
   rw[z,hT]at ho';injection ho' with ho';subst ho';exact hnf ts P_
def nj{base:Heap}{env:Env}{outer:List Env}{L e:Addr}{oe:Obj}{vs:Vw}{Q:Unit->Shared->Prop}
  (hfr:A.frames=some (env::outer)) (hl:s.heap.FunFrames base (env::outer)) (hf:env.frame=some L) (x:ul s.heap e oe vs)
  (h:∀h',jE (env::outer) e oe (d3 vs) s.heap h'->Q () { s with heap:=h' }) :
  wpAny M A (noteFrame (.ref e) env) (λ_ s'=>wpAny M A (setFlight (.ref e) none) Q E s') E s:=by
 refine pg hfr hl hf x λh1 n=>?_
 obtain⟨Ml,vs',T,oT,ts,a1,a2,a3,a4,a5,a6,a7,a8,a9,Pi,Qa⟩:=n.lies
 have tf:∀b o,s.heap.get? b=some o->b∈FT (env::outer)->b≠T:=λb o q Na z=>by
  rcases a6 with a6|a6
  .exact absurd (UU (US q) (z▸a6)) (Wc _)
  .obtain⟨he,hd,h1|⟨T',QN,ts',g1,g2,g3,g4,g5⟩⟩:=x
   .rw[d3,h1]at a6;cases a6
   .rw[d3,g1]at a6;cases a6
    obtain⟨_,o',ho',hnf⟩:=hl.mem Na
    rw[z,g3]at ho';injection ho' with ho';subst ho';exact hnf ts' g4
 refine Yl a1 a4 a5 a8 a9 Pi (h _ ⟨⟨Ml,vs',T,_,_,(Vc _ _ a7).trans a1,a2,a3,a4,a5,a6,a7,V1 _ a8 (WG (Wh a9 _)),Wh a9 _,by simpa using Pi,Qa⟩,λb o hb ho Na q=>(Vc _ _ λz=>?_).trans (n.keep b o hb ho Na q),λb o Na q=>?_⟩)
 .rcases a6 with a6|a6
  .exact absurd (UU (US q) (z▸a6)) (Wc _)
  .exact ho (z▸a6)
 .obtain⟨sl,q'⟩:=n.slot b o Na q
  exact⟨sl,(Vc _ _ (VI (tf b o q Na))).trans q'⟩
def v8{base:Heap}{env:Env}{outer:List Env}{L e:Addr}{oe:Obj}{vs:Vw}{Q:Unit->Shared->Prop}
  (hfr:A.frames=some (env::outer)) (hl:s.heap.FunFrames base (env::outer)) (hf:env.frame=some L) (x:ul s.heap e oe vs)
  (h:∀h',jE (env::outer) e oe (d3 vs) s.heap h'->Q () { s with heap:=h' }):wpAny M A (leaving env (.ref e)) Q E s:=by
 unfold leaving
 exact UD (nj hfr hl hf x h)
end
section
variable {M:Model}{A:Around}{E:Vq}{env:Env}{K:Frag}{C:Addr}
def um{s:Shared}{x:Sem Value}{Q:Flow->Shared->Prop}(q:ir K C=true)(hh:A.handled=none)
  (h:wpAny M A x (λv s₁=>∃e oe vs,v = .ref e/\K.In s₁.heap/\s₁.heap.get? e=some oe/\oe.cls = .ref C/\oe.data = .fields vs/\vs[1]?=some .none/\E (.ref e) s₁) E s) :
  wpAny M A (raiseStmt env (some x) none) Q E s:=by
 unfold raiseStmt
 refine UD (V8 h (λv s₁ h₁=>?_) λ_ _ x=>x)
 obtain⟨e,oe,vs,rfl,X,he,hc,hd,h1,hE⟩:=h₁
 obtain⟨nm,qn,N,bs,bm,sn,sub,ab,col,dd,k0,k1,k2,k3,k5,hK,T⟩:=ni X q
 have hC:=X _ _ hK
 obtain⟨hp,g,d,tk,os⟩:=s₁
 have QO:(Value.ref C::bm).contains (.type "BaseException")=true:=by rw[WE,T.hasType Xh.hasBase];rfl
 have QP:(Value.ref C::bm).contains (.type "type")=false:=by rw[WE,T.hasType (b:=false) (by decide +kernel)];rfl
 repeat (first|(with_reducible refine Wl he ?_;rw[hc])|with_reducible refine Wl hC ?_|(with_reducible refine Yt hC ?_;first|rw[QO]|rw[QP])|with_reducible refine Vt he hd h1 ?_|wp_step)
 exact wpAny_raiseNew_none hh hE
end
structure ExcK(K:Frag)(C:Addr):Prop where
 ok:ir K C=true
 sa:findIn K (.ref C) "__setattr__" = some (some (.builtin "object.__setattr__"))
 ga:findIn K (.ref C) "__getattribute__" = some (some (.builtin "BaseException.__getattribute__"))
 gh:findIn K (.ref C) "__getattr__" = some none
 be:mroIn K C (.type "BaseException")=some true
 ob:mroIn K C (.type "object")=some true
 cl:findIn K (.ref C) "__class__" = some (some (.builtin "object.__class__"))
 cg:specialIn K (.builtin "object.__class__") "__get__" = some (some (.builtin "getset_descriptor.__get__"))
 ct:takesIn K (.builtin "object.__class__")=some true
def ExcK.dict{K:Frag}{C:Addr}(k:ExcK K C):hasDictIn K C=true:=by
 have q:=k.ok
 unfold ir at q
 unfold hasDictIn clsIn
 split at q
 .rename_i dd cd sl ho
  rw[ho]
  split at q
  .simp only[Vl]at q
   exact q.1.2
  .cases q
 .cases q
section
variable {prog:Program}{w:World}{A:Around}{E:Vq}{s:Shared}{K:Frag}{x C:Addr}{ox:Obj}{od:Option Obj}{name:Str}{expr:Bool}{Q:Vq}
def v9{M:Model}{nameV:Value}{Q:Unit->Shared->Prop}(X:K.In s.heap)(I:InstAt s.heap x ox C od)(k:ExcK K C)(hq:Q () s) :
  wpAny M A (checkBuiltinCall "BaseException.__getattribute__" ⟨[.ref x,nameV],[]⟩) Q E s:=
 @check_slot M A E s "BaseException.__getattribute__" "BaseException" "__getattribute__" (.ref x) [nameV] [] Q (by decide +kernel) (by decide +kernel) (I.type.andThen (looks_mroIn X k.be)) (F.args_bexc_ga (.ref x) nameV) hq
def v_{nameV:Value}{fill:Bool}(X:K.In s.heap)(I:InstAt s.heap x ox C od)(k:ExcK K C)
  (h:codeAny (model prog w) A (.call (.builtin "BaseException.__getattribute__") ⟨[.ref x,nameV],[]⟩) (λr s'=>match r with | .ok (.ret v)=>wpAny (model prog w) A (handedOut v) Q E s'|_=>False) s) :
  wpAny (model prog w) A (getAttrBy (.ref x) nameV fill expr) Q E s:=by
 obtain⟨hh,g,d,t,os⟩:=s
 have L0:=I.type (M:=model prog w)
 have L1:=looks_findIn (M:=model prog w) X k.ga
 have L2:=looks_findIn (M:=model prog w) X k.gh
 have f3:=F.attr_ValueError.ga.bind (.ref x)
 have To:(expr&&onTheHeap (Value.builtin "BaseException.__getattribute__"))=false:=by cases expr<;>rfl
 have Tp:(Value.builtin "BaseException.__getattribute__" == Value.builtin "object.__getattribute__")=false:=by decide +kernel
 have Tq:(onTheHeap (Value.ref C)&&Value.builtin "BaseException.__getattribute__" == Value.builtin "object.__getattribute__")=false:=by rw[Tp];rfl
 unfold getAttrBy
 refine We (UD (L0.at (UD (L1.at ?_))))
 dsimp only
 rw[if_neg (by rw[Tq];decide)]
 unfold getAttrByItsOwn hookBefore
 refine UD ?_
 show wpAny _ _ (typeLookup (.ref C) "__getattr__") _ _ _
 refine L2.at (UD (wpAny_attempt (We ?_)))
 unfold callGetattribute
 rw[if_neg (by rw[To];decide)]
 unfold boundAndCalled
 rw[f3]
 refine UD (UL (Yw (Xj h λr s' z=>?_)))
 rcases r with e|(v|_|_|_)<;>first|exact z.elim|exact z
def wa{nameV:Value}{R:Result->Shared->Prop}(X:K.In s.heap)(I:InstAt s.heap x ox C od)(k:ExcK K C)
  (h:wpAny (model prog w) A.in1 (Builtin.«object.__getattribute__» ⟨[.ref x,nameV],[]⟩) (λfin s'=>match fin with | .done f=>R (.ok f) s' | .again c'=>c'.quiet=true/\codeAny (model prog w) A c' R s') (λe s'=>R (.error e) s') s) :
  codeAny (model prog w) A (.call (.builtin "BaseException.__getattribute__") ⟨[.ref x,nameV],[]⟩) R s:=
 codeAny_call_builtin F.attr_ValueError.ga.plain F.entry_bexc_ga (v9 X I k h)
def z9{v:Value}(X:K.In s.heap)(I:InstAt s.heap x ox C od)(k:ExcK K C)(hf:findObj K C od name=some (.value v))(hh:handedIn v=true)(h:Q v { s with toks:=s.toks+1 }) :
  wpAny (model prog w) A (getAttr (.ref x) name expr) Q E s:=by
 unfold getAttr
 refine UD (wpAny_mkText ?_)
 refine v_ (s:={ s with toks:=s.toks+1 }) X I k (wa (s:={ s with toks:=s.toks+1 }) X I k ?_)
 obtain⟨hh',g,d,t,os⟩:=s
 have L0:=I.type (M:=model prog w)
 have L1:=looks_find (M:=model prog w) X I hf
 unfold Builtin.«object.__getattribute__»
 refine UD (UL (UD (UL (UD (L0.at (UD (L1.at ?_)))))))
 refine UL ?_
 show wpAny _ _ (handedOut v) _ _ _
 rw[handedOut_of hh];exact UL h
def uo{od:Obj}{Q:Option Value->Shared->Prop}(X:K.In s.heap)(I:InstAt s.heap x ox C (some od))(k:ExcK K C)(h:Q (some (.ref C)) { s with toks:=s.toks+1 }) :
  wpAny (model prog w) A (getAttr? (.ref x) "__class__") Q E s:=by
 have hf:findObj K C (some od) "__class__" = some (.bind (.builtin "getset_descriptor.__get__") (.builtin "object.__class__")):=findObj_data (by obtain⟨cd,hc,_⟩:=any_some k.dict;rw[hc];rfl) k.cl k.cg k.ct
 unfold getAttr? getAttrBy?
 refine UD (wpAny_mkText (UD (wpAny_attempt ?_)))
 refine v_ (s:={ s with toks:=s.toks+1 }) X I k (wa (s:={ s with toks:=s.toks+1 }) X I k ?_)
 obtain⟨hh',g,d,t,os⟩:=s
 have L0:=I.type (M:=model prog w)
 have L1:=looks_find (M:=model prog w) X I hf
 unfold Builtin.«object.__getattribute__»
 refine UD (UL (UD (UL (UD (L0.at (UD (L1.at ?_)))))))
 show wpAny _ _ (holding [Value.builtin "object.__class__"] (call (.builtin "getset_descriptor.__get__") [.builtin "object.__class__",.ref x,.ref C]) >>= ret) _ _ _
 refine UD (We (Yw (class_get (s:=⟨hh',g,d,t+1,os⟩) (ox:=ox) (od:=some od) X I k.ob ?_)))
 refine UL ?_
 show wpAny _ _ (handedOut (.ref C)) _ _ _
 rw[handedOut_of rfl];exact UL (UL h)
end
def kH{K:Frag}{x C:Addr}{ox od:Obj}(k:ExcK K C):KitX K (.ref x) (.ref C) (λh=>InstAt h x ox C (some od)) where
 ty:=λ_ _ _ I=>I.type
 it:=λ_ _ X _=>by
  obtain⟨cdD,NE,_⟩:=any_some k.dict
  unfold clsIn at NE
  split at NE
  .rename_i c' d' Su sl' ho
   intro A' Q' E' s' k q
   unfold isType loadHead
   exact UD (wpAny_loadPart (k _ _ (X _ _ ho)) (UL q))
  .cases NE
 ne:=λh tp dd its n sl X htp=>by
  obtain⟨cdD,NE,_⟩:=any_some k.dict
  refine Bool.eq_false_iff.mpr λq=>?_
  have e:C=tp:=Value.ref.inj (XF.mp q)
  subst e
  unfold clsIn at NE
  split at NE
  .rename_i c' d' Su sl' ho
   have z:=(X _ _ ho).symm.trans htp
   cases z
  .cases NE
 ca:=λX I q=>uo X I k q
def ph(self:Value){h:Heap}{l:Vv}(T:OwnTail h Dl l):refuseLoop self "__setattr__" l=pure ():=by
 induction T with
 |base=>exact PySem.F.store_ValueError.passes self
 |own _ _ _ _ ih=>rw[refuseLoop_ref];exact ih
section
variable {prog:Program}{w:World}{A:Around}{E:Vq}{s:Shared}{K:Frag}{x C:Addr}{ox:Obj}{od:Option Obj}{name:Str}{v:Value}{R:Result->Shared->Prop}
def z_{tk:Tok}{r:Option Value}(X:K.In s.heap)(I:InstAt s.heap x ox C od)(k:ExcK K C)(ht:takerIn K C name=some r)
  (h:∀b,wpAny (model prog w) A.in1 (match r with|some a=>setByDescriptor a (.ref x) v|none=>storeInOwnDict (.ref x) (.ref C) (.str name tk) name v b)
   (λfin s'=>match fin with | .done f=>R (.ok f) s' | .again c'=>c'.quiet=true/\codeAny (model prog w) A c' R s') (λe s'=>R (.error e) s') s) :
  codeAny (model prog w) A (.call (.builtin "object.__setattr__") ⟨[.ref x,.str name tk,v],[]⟩) R s:=by
 have SF:=PySem.F.store_object
 obtain⟨nm,qn,N,bs,bm,sn,sub,ab,col,dd,k0,k1,k2,k3,k5,hK,T⟩:=ni X k.ok
 have hc:clsIn K C=some { name:=nm,bases:=bs,mro:=.ref C::bm,ns:=N,qualname:=qn,hasDict:=true,slotNames:=sn,subclasses:=sub,abstract:=ab,collection:=col,hasDel:=false }:=by unfold clsIn;rw[hK]
 have sub:Looks (model prog w) s.heap (isInstance (.ref x) (.type "object")) true:=I.type.andThen (looks_mroIn X k.ob)
 refine codeAny_call_builtin SF.slot.plain SF.entry (@check_slot (model prog w) _ _ s "object.__setattr__" "object" "__setattr__" (.ref x) [.str name tk,v] [] _ SF.kind SF.split sub (SF.args (.ref x) (.str name tk) v) ?_)
 obtain⟨attr,ha,hr⟩:=XI.mp ht
 have hm:Looks (model prog w) s.heap (mroOf (.ref C)) (.ref C::bm):=(looks_clsIn X hc).andThen .now
 have L3:Looks (model prog w) s.heap (storeTaker? attr) r:=by
  cases attr with
  |none=>cases hr;exact .now
  |some a=>
   obtain⟨b,hb,rfl⟩:=VE.mp hr
   refine(looks_takesIn X hb).andThen ?_
   cases b<;>exact .now
 rw[osa_eq,refuse_eq]
 refine UD (UD (I.type.here (UD (hm.here ?_))))
 rw[refuseLoop_ref,ph _ T]
 refine UL (UD (I.type.here (UD ((looks_findIn X ha).here (UD (L3.here ?_))))))
 exact h _
def wb{Q:Unit->Shared->Prop}(X:K.In s.heap)(hx:s.heap.get? x=some ox)(hcl:ox.cls = .ref C)(hno:∀c,ox.data ≠ .cls c)(hd:ox.dict=none)(k:ExcK K C)(ht:takerIn K C name=some none)
  (h:∀h',h'.Ns1 s.heap.objs.size (λy=>if y=name then some v else none)->h'.get? x=some { ox with dict:=some s.heap.objs.size }->(∀b o,b≠x->s.heap.get? b=some o->h'.get? b=some o)->Q () { s with heap:=h',toks:=s.toks+2 }) :
  wpAny (model prog w) A (setAttr (.ref x) name v) Q E s:=by
 have I:InstAt s.heap x ox C none:=⟨hx,hcl,by obtain⟨a,b,c,d⟩:=ox;cases c<;>first|rfl|exact absurd rfl (hno _),by rw[hd];trivial⟩
 refine set_plain X I k.sa (z_ (s:={ s with toks:=s.toks+1 }) X I k ht λb=>?_)
 obtain⟨cd,hc,hd'⟩:=any_some k.dict
 obtain⟨oc,odd,Rk,osl⟩:=ox
 dsimp only at hcl hd hno
 subst hcl hd
 obtain⟨hp,g,d,t,os⟩:=s
 unfold storeInOwnDict ownDictForStores instanceDict
 refine UD (UL (UD (UD (wpAny_loadPart hx (UD (Looks.here (s:=⟨hp,g,d,t+1,os⟩) (looks_clsIn X hc) ?_))))))
 rw[hd']
 simp only[VW,UR,Vx]
 rw[if_neg (by simp[typeHasDict])]
 have Sv:(hp.push { cls:=.type "dict",data:=.dict #[] }).get? x=some { cls:=Value.ref C,data:=Rk,slots:=osl }:=UG _ hx
 have hxs:x≠hp.objs.size:=Vm (US hx)
 refine UD (wpAny_alloc' ?_)
 refine UD (wpAny_update' Sv ?_)
 refine UL ?_
 have hgd:((hp.push { cls:=.type "dict",data:=.dict #[] }).update x λo=>{ cls:=o.cls,dict:=some hp.objs.size,data:=o.data,slots:=o.slots }).get? hp.objs.size=some { cls:=.type "dict",data:=.dict #[] }:=
  (Heap.get?_update_ne _ _ _ _ hxs.symm).trans (Heap.get?_push_at rfl rfl)
 have hnd:((hp.push { cls:=.type "dict",data:=.dict #[] }).update x λo=>{ cls:=o.cls,dict:=some hp.objs.size,data:=o.data,slots:=o.slots }).Ns hp.objs.size (λ_=>none):=
  ⟨_,#[],_,hgd,rfl,λe he=>absurd he (by simp),λ_=>rfl⟩
 show wpAny _ _ (storeInDict hp.objs.size (.str name t) name v) _ _ _
 unfold storeInDict newKeyGuard
 refine UD (UL (UD (wpAny_nsSet1 (Heap.Ns1.of_empty hnd) λh' hn' hs=>?_)))
 obtain⟨oD,esD,epD,Tt,Tu,NE⟩:=hn'.count (Within.cons name v Within.nil)
 refine UD (wpAny_lookBehind Tt (by rw[Tu];exact pastItsLine_dict (UN NE (by rw[UQ,Wr,sizeLine_eq];omega))) ?_)
 refine UL (h h' hn' ?_ λb o hb q=>(hs.2 b (Vm (US q))).trans ((Heap.get?_update_ne _ _ _ _ hb).trans (UG _ q)))
 refine(hs.2 x hxs).trans (V1 _ Sv ?_)
 have hfr:=(Heap.get?_some_iff.mp hx).2
 cases Rk<;>first|rfl|exact hfr
end
def jF{M:Model}{A:Around}{E:Vq}{s:Shared}{K:Frag}{x C D:Addr}{ox:Obj}{b:Bool}{Q:Bool->Shared->Prop}(X:K.In s.heap)(hx:s.heap.get? x=some ox)(hcl:ox.cls = .ref C)(hb:mroIn K C (.ref D)=some b)
  (hD:typeIn K (.ref D)=some (.type "type")) (NE:(clsIn K D).isSome=true) (NB:mroIn K D (.type "BaseException")=some true) (h:Q b s):wpAny M A (excMatches (.ref x) (.ref D)) Q E s:=by
 obtain⟨hp,g,d,t,os⟩:=s
 have t1:Looks M hp (typeOf (.ref x)) (.ref C):=by rw[<-hcl];exact(Looks.ld hx).andThen .now
 have t2:Looks M hp (typeOf (.ref D)) (.type "type"):=looks_typeIn X hD
 have t3:Looks M hp (isType (.ref D)) true:=by
  unfold clsIn at NE
  split at NE
  .rename_i c' d' Su sl' ho
   intro A' Q' E' s' k q
   unfold isType loadHead
   exact UD (wpAny_loadPart (k _ _ (X _ _ ho)) (UL q))
  .cases NE
 have i1:Looks M hp (isInstance (.ref D) (.type "tuple")) false:=t2.andThen (Looks.of_pure tc_notTuple)
 have i2:Looks M hp (isExcClass (.ref D)) true:=by
  unfold isExcClass
  refine t3.andThen ?_
  exact looks_mroIn X NB
 have i3:Looks M hp (isSubtype (.ref C) (.ref D)) b:=looks_mroIn X hb
 unfold excMatches
 refine UD (m:=isInstance (.ref D) (.type "tuple")) (i1.at ?_)
 simp only[UR,Vx]
 refine UD (UL ?_)
 rw[Xz]
 refine UD (UD (UD (i2.at ?_)))
 simp only[VW,UR,Vx]
 refine UL (UL (UD (t1.at ?_)))
 rw[Xz]
 refine UD (UD (UD (i3.at ?_)))
 cases b with
 |true=>exact UL (UL (UL h))
 |false=>exact UL (UL (UL h))
end Xc
namespace L2
open PySem PySem.Spec PyProof.Rows Xc
def N8(X:Cx)(pins:Va)(H:Hp)(h:Heap)(a C dx:Addr):Prop:=
 ∃oe vs,ul h a oe vs/\oe.cls = .ref C/\oe.dict=some dx/\JV X pins H a/\(∀T,vs[1]?=some (.ref T)->JV X pins H T)/\(X.fr=true->vs[2]?=some .none)
def FU(fr:Bool)(n:Nat)(H:Hp)(h:Heap)(a C dx:Addr):Prop:=
 ∃oe vs,ul h a oe vs/\oe.cls = .ref C/\oe.dict=some dx/\H a=none/\n<=a/\(∀T,vs[1]?=some (.ref T)->H T=none/\n<=T)/\(fr=true->vs[2]?=some .none)
noncomputable def zh(fr:Bool)(P:Program)(w:World):vy:=λouter H s E e s'=>
 ∃a C dx H',e = .ref a/\s'.os=s.os/\AllBare s'.gens/\Un (frs outer) [] H H' s.heap s'.heap/\K9 P w H' s'.heap/\FU fr s.heap.objs.size H' s'.heap a C dx/\E (.ref C) (some dx) H'
section
variable {X:Cx}{pins:Va}{σ:St}{H H':Hp}{s s':Shared}{a C dx:Addr}
def Inv.noted{oe:Obj}{vs:Vw}{h':Heap}(I:Inv X pins σ H s)(n:jE X.stack a oe (d3 vs) s.heap h')(x:ul s.heap a oe vs)(hc:oe.cls = .ref C)(hd:oe.dict=some dx)(f:JV X pins H a)(fT:∀T,vs[1]?=some (.ref T)->JV X pins H T)(fx:X.fr=true->vs[2]?=some .none) :
  Inv X pins σ H { s with heap:=h' }/\N8 X pins H h' a C dx:=by
 have tr:∀b u,H b=some u->b≠a/\¬d3 vs b/\b ∉ FT X.stack:=λb u e=>⟨λz=>(by rw[z,f.1]at e;cases e),λz=>(by rw[(fT b z).1]at e;cases e),λz=>(by rw[I.Mx b z]at e;cases e)⟩
 have ff:∀b,(b=a\/d3 vs b)->JV X pins H b:=λb hb=>by
  rcases hb with rfl|hb
  .exact f
  .exact fT b hb
 have hok:K9 X.prog X.w H h':=λb u e=>(I.hok b u e).stay (λc v hc q=>by
  rcases hc with rfl|hc
  .obtain⟨t1,t2,t3⟩:=tr c u e;exact n.keep c v t1 t2 t3 q
  .obtain⟨t1,t2,t3⟩:=tr c _ hc;exact n.keep c v t1 t2 t3 q) (λ_ z=>z) λ_ _ z=>z
 have Tv:∀b o,s.heap.get? b=some o->b≠a->¬d3 vs b->∃o',h'.get? b=some o':=λb o e h1 h2=>by
  by_cases hb:b∈FT X.stack
  .obtain⟨sl,q⟩:=n.slot b o hb e;exact⟨_,q⟩
  .exact⟨o,n.keep b o h1 h2 hb e⟩
 have go:∀ch:List Addr,(∀b,b∈ch↔(b=a\/d3 vs b))->Inv X pins σ H { s with heap:=h' }:=λch hch=>by
  refine I.call (g':=s.gens) (t':=s.toks) (d':=s.drawn) (ch:=ch) ⟨λb o e n1 n2 n3=>?_,λb o e _ n2 _=>n.slot b o n2 e,λ_ _ _ z _=>z,λb o e n1=>?_,λ_ _ z=>z,λ_ _ _ z=>z,λ_ ps z=>⟨#[],by rw[z];simp⟩⟩ hok I.bare λb hb=>?_
  .exact n.keep b o (λz=>n3 ((hch b).mpr (.inl z))) (λz=>n3 ((hch b).mpr (.inr z))) n2 e
  .exact Tv b o e (λz=>n1 ((hch b).mpr (.inl z))) (λz=>n1 ((hch b).mpr (.inr z)))
  .obtain⟨f0,f1,f2,f3,f4,f5⟩:=ff b ((hch b).mp hb)
   exact⟨f3,f1,f4,f5⟩
 refine⟨?_,?_⟩
 .rcases x.tb with h1|⟨T,oT,ts,h1,_⟩
  .refine go [a] λb=>⟨λz=>.inl (by simpa using z),λz=>?_⟩
   rcases z with z|z
   .simp[z]
   .unfold d3 at z;rw[h1]at z;cases z
  .refine go [a,T] λb=>⟨λz=>?_,λz=>?_⟩
   .simp only[UI,UW,Vy]at z
    rcases z with z|z
    .exact .inl z
    .exact .inr (by rw[z];exact h1)
   .rcases z with z|z
    .simp[z]
    .unfold d3 at z;rw[h1]at z;cases z;simp
 .obtain⟨Ml,vs',T,oT,ts,a1,a2,a3,a4,a5,a6,a7,a8,a9,Pi,Qa⟩:=n.lies
  refine⟨Ml,vs',⟨a1,a4,.inr ⟨T,oT,ts,a5,a7,a8,a9,Pi⟩⟩,a2.trans hc,a3.trans hd,f,λT' hT'=>?_,λz=>(Qa _ x.dat).trans (fx z)⟩
  rw[a5]at hT'
  cases hT'
  rcases a6 with a6|a6
  .exact I.Lb a6 (I.hok.fresh a6)
  .exact fT T a6
def Inv.raised{fr:Bool}{E:XK}{e:Value}(I:Inv X pins σ H s)(ht:1<=s'.toks)(hfr:X.fr=true->fr=true)(h:zh fr X.prog X.w X.stack H s E e s'):∃a C dx H',e = .ref a/\Inv X pins σ H' s'/\N8 X pins H' s'.heap a C dx/\E (.ref C) (some dx) H':=by
 obtain⟨a,C,dx,H',rfl,os,bare,un,hok,⟨oe,vs,x,hc,hd,h0,hn,hT,hx⟩,hE⟩:=h
 refine⟨a,C,dx,H',rfl,I.N1 (ch:=[]) os un hok bare ht (λb z=>absurd z (by simp)),⟨oe,vs,x,hc,hd,I.Lb hn h0,λT z=>I.Lb (hT T z).2 (hT T z).1,λz=>hx (hfr z)⟩,hE⟩
end
noncomputable abbrev Cx.fb(X:Cx)(b:Bool):Cx:={ X with fr:=b }
def uq{fb:Bool}{P:Program}{w:World}{K:Vo}{mg:Vr}{base:Heap}{N:Vs}{qual:Str}{scope:Scope}{f:Addr}{cd:Value}{A:Around}{outer:List Env}{s s':Shared}{H H':Hp}{E:XK}{pins:Va}{σ:St}{a C dx:Addr}
  (I:Inv ((qA (zh fb P w) P w K mg base N qual scope f cd A outer s H E).fb fb) pins σ H' s') (x:N8 ((qA (zh fb P w) P w K mg base N qual scope f cd A outer s H E).fb fb) pins H' s'.heap a C dx) (hE:E (.ref C) (some dx) H') :
  (qA (zh fb P w) P w K mg base N qual scope f cd A outer s H E).xe (.ref a) s':=by
 obtain⟨oe,vs,x,hc,hd,fa,fT,fx⟩:=x
 have hfr:(qA (zh fb P w) P w K mg base N qual scope f cd A outer s H E).A.frames=some (envOfC qual scope s.heap.objs.size f cd::outer):=I.ok.frames
 have hl:=I.stack
 refine v8 (s:=s') (env:=envOfC qual scope s.heap.objs.size f cd) (outer:=outer) hfr hl rfl x λh' n=>?_
 obtain⟨I2,x2⟩:=I.noted (h':=h') n x hc hd fa fT fx
 obtain⟨Ot,LK,x2,hc2,hd2,PD,PH,QQ⟩:=x2
 have lt:∀b,JV ((qA (zh fb P w) P w K mg base N qual scope f cd A outer s H E).fb fb) pins H' b->s.heap.objs.size<=b:=λb q=>by
  rcases q.2.2.2.1 with z|z
  .exact absurd (show b∈([]:List Addr)from z) (by simp)
  .exact z
 exact⟨a,C,dx,H',rfl,I2.os,I2.bare,I2.base,I2.hok,⟨Ot,LK,x2,hc2,hd2,PD.1,lt a PD,λT z=>⟨(PH T z).1,lt T (PH T z)⟩,QQ⟩,hE⟩
section
variable {X:Cx}{k:Nat}{f C:Addr}{fd:FuncData}{ps:Vs}{sp:Sp}{x m:Str}{p pos apos:Pos}{e o:Expr}{es:List Expr}{ta:TE}{t:TA}
noncomputable def EX(X:Cx)(pins:Va)(σ:St):XK:=λc d H'=>∀s' a C dx,c = .ref C->d=some dx->Inv X pins σ H' s'->N8 X pins H' s'.heap a C dx->X.xe (.ref a) s'
def Aa{fr:Bool}{pins:Va}{σ:St}{H:Hp}{s:Shared}{Q:VK}{E:XK}{us:Vv}{vs:List V}(F:lQ X.prog X.w X.K X.mg X.base (zh fr X.prog X.w) k f fd ps sp)(hfr:X.fr=true->fr=true)(hr:gB k X.A)(hb:Binds X.K fd ps [])
  (hE:∀c d H',E c d H'->EX X pins σ c d H') (I:Inv X pins σ H s) (r:Vals vs us) (h:sp vs H Q E):wpAny (model X.prog X.w) X.A (call (.ref f) us) (EP X pins σ Q) X.xe s:=by
 have hl:(us++[]).length=ps.length:=by rw[Vp,<-r.length];exact F.len _ _ _ _ h
 have hb':=hb s us I.L_ hl
 rw[Vp]at hb'
 refine Yw (Xj (codeAny_toks_of I.tk (F.run X.A X.stack s H ⟨us,[]⟩ us vs Q E hr (.inl I.tk) I.Pa hb' r h)) λr s' ⟨ht,hq⟩=>?_)
 cases r with
 |error e=>
  obtain⟨a,C,dx,H',rfl,I',xa,he⟩:=I.raised ht hfr hq
  exact hE _ _ _ he s' a C dx rfl rfl I' xa
 |ok fl=>
  cases fl with
  |ret u=>exact I.after ht hq
  |next=>exact False.elim hq
  |brk=>exact False.elim hq
  |cont=>exact False.elim hq
def Dm(X:Cx)(sp:Sp)(t:TA):TE:=λσ H Q=>t σ H λvs H1=>∃E,sp vs H1 Q E/\∀pins c d H',E c d H'->EX X pins σ c d H'
def wc{fr:Bool}(F:lQ X.prog X.w X.K X.mg X.base (zh fr X.prog X.w) k f fd ps sp)(hfr:X.fr=true->fr=true)(hr:gB k X.A)(hg:Gl X x)(hm:X.mg x=some (.ref f))(hk:PySem.W.keepIn X.K (.ref f)=true)(hb:Binds X.K fd ps [])
  (ha:PA X (e::es) t) (hdb:(x == ("__debug__":Str))=false:=by decide) (he:starEach (e::es) X.env=(false,eval e X.env)::starEach es X.env:=by rfl) (hpl:(backTo pos (starEach es X.env)).any (·.1)=false:=by rfl) :
  PE X (.Call (.Name x p) (e::es) [] pos) (Dm X sp t):=by
 walk_at "7"
 refine Wg (d_ I hg hm ?_ hdb)
 refine Yx (h₀:=X.base) I.ok.mod.PU hk (JN (ha pos pins s σ H _ I h) λus s1 ⟨vs,H1,I1,r,E,q,hE⟩=>⟨I1.L_,?_⟩) he hpl
 exact Aa F hfr hr hb (hE pins) I1 r q
end
def XO(a C:Addr)(d:Option Addr)(h:Heap):Prop:=∃oe vs,h.get? a=some oe/\oe.cls = .ref C/\oe.dict=d/\oe.data = .fields vs/\vs[1]?=some .none/\vs[2]?=some .none/\4 < vs.size
def XD(dx:Addr)(fs:List (Str×V))(h:Heap):Prop:=∃mA,h.Ns1 dx mA/\(∀f,Ly (fs.lookup f) (mA f))/\PySem.Within mA (fs.map (·.1))
def XO.stay{a C:Addr}{d:Option Addr}{h1 h2:Heap}(x:XO a C d h1)(k:∀o,h1.get? a=some o->h2.get? a=some o):XO a C d h2:=let ⟨oe,vs,e,r⟩:=x;⟨oe,vs,k oe e,r⟩
def XD.stay{dx:Addr}{fs:List (Str×V)}{h1 h2:Heap}(x:XD dx fs h1)(k:∀o,h1.get? dx=some o->h2.get? dx=some o):XD dx fs h2:=let ⟨mA,⟨o,es,ep,e,r⟩,q⟩:=x;⟨mA,⟨o,es,ep,k o e,r⟩,q⟩
def XO.ok{P:Program}{w:World}{H:Hp}{h:Heap}{a C:Addr}{d:Option Addr}(x:XO a C d h):JS P w H h a (.ext (XO a C d)):=⟨x,let ⟨oe,_,e,_⟩:=x;⟨oe,e⟩,λ_ _ y k=>y.stay k⟩
def XD.ok{P:Program}{w:World}{H:Hp}{h:Heap}{dx:Addr}{fs:List (Str×V)}(x:XD dx fs h):JS P w H h dx (.ext (XD dx fs)):=⟨x,let ⟨_,⟨o,_,_,e,_⟩,_⟩:=x;⟨o,e⟩,λ_ _ y k=>y.stay k⟩
def XO.of{P:Program}{w:World}{H:Hp}{h:Heap}{a C:Addr}{d:Option Addr}(hok:K9 P w H h)(e:H a=some (.ext (XO a C d))):XO a C d h:=(show JS P w H h a (.ext (XO a C d))from hok a _ e).1
def XD.of{P:Program}{w:World}{H:Hp}{h:Heap}{a:Addr}{fs:List (Str×V)}(hok:K9 P w H h)(e:H a=some (.ext (XD a fs))):XD a fs h:=(show JS P w H h a (.ext (XD a fs))from hok a _ e).1
section
variable {X:Cx}{pins:Va}{σ:St}{H:Hp}{s:Shared}
def Inv.N9{D:Addr}{o:HO}(I:Inv X pins σ H s)(f:JV X pins H D)(n:JS X.prog X.w (upd H D o) s.heap D o):Inv X pins σ (upd H D o) s:=by
 obtain⟨f0,f1,f2,f3,f4,f5⟩:=f
 have nD:∀b u,H b=some u->b≠D:=λb u q=>aV q f0
 have hok:K9 X.prog X.w (upd H D o) s.heap:=λb u q=>by
  by_cases hb:b=D
  .subst hb
   rw[au]at q
   cases q
   exact n
  .rw[aw hb]at q
   exact(I.hok b u q).stay (λ_ _ _ z=>z) (λc z=>by rw[aw (nD c _ z)];exact z) λc xs z=>by rw[aw (nD c _ z)];exact z
 exact I.step (H':=upd H D o) (h':=s.heap) (g':=s.gens) (t':=s.toks) (d':=s.drawn) (ch:=[D])
  (λb hb=>by
   have z:b=D:=by simpa using hb
   subst z
   exact⟨f3,f1,f4,f5⟩)
  (λ_ _ _ _ _ q _=>q) (λ_ o _ _ _ q _=>⟨o.slots,q⟩)
  (λb o hb _ n=>by rw[aw (λz=>hb (by simp[z]))];exact n)
  (λ_ o _ q=>⟨o,q⟩) (λb xs q=>by rw[aw (nD b _ q)];exact q) (λb o u q=>by rw[aw (nD b _ q)];exact q)
  (λb ps q=>⟨#[],by rw[aw (nD b _ q),q];simp⟩) (λ_ q=>q) hok I.bare
def Inv.forget{H':Hp}{D:Addr}{φ:Heap->Prop}(I:Inv X pins σ H s)(e:H D=some (.ext φ))(h1:H' D=none)(h2:∀b,b≠D->H' b=H b):Inv X pins σ H' s:=by
 have ne:∀b u,H b=some u->u ≠ .ext φ->b≠D:=λb u q z y=>by rw[y,e]at q;exact z (VY q).symm
 refine I.un (h':=s.heap) (t':=s.toks) ⟨λ_ _ q _ _ _=>q,λ_ o q _ _ _=>⟨o.slots,q⟩,λb o q n _=>?_,λ_ o q _=>⟨o,q⟩,λb xs q=>?_,λb o u q=>?_,λb ps q=>?_⟩ λb u q=>?_
 .by_cases z:b=D
  .rw[z];exact h1
  .rw[h2 b z];exact n
 .rw[h2 b (ne b _ q λz=>nomatch z)];exact q
 .rw[h2 b (ne b _ q λz=>nomatch z)];exact q
 .exact⟨#[],by rw[h2 b (ne b _ q λz=>nomatch z),q];simp⟩
 .have hb:b≠D:=λz=>by rw[z,h1]at q;cases q
  rw[h2 b hb]at q
  exact(I.hok b u q).stay (λ_ _ _ z=>z) (λc z=>by rw[h2 c (ne c _ z λy=>nomatch y)];exact z) λc xs z=>by rw[h2 c (ne c _ z λy=>nomatch y)];exact z
end
def Ab(K:Vo)(ta tv:TE)(f:Str):TS:=λD σ H=>tv σ H λy H1=>ta σ H1 λx H2=>∃a C,x = .ref a/\H2 a=some (.ext (XO a C none))/\ExcK K C/\NoAttr K C f/\
 ∀dx,H2 dx=none->dx≠a->D.nx σ (upd (upd H2 a (.ext (XO a C (some dx)))) dx (.ext (XD dx [(f,y)])))
section
variable {X:Cx}{o value:Expr}{f:Str}{pos pos':Pos}{ta tv:TE}
def we(ha:PE X o ta)(hv:PE X value tv)(hs:swapsWith value (some (.Attribute o f pos')) pos.line X.env=pure false):PS X (.Assign [.Attribute o f pos'] value pos) (Ab X.K ta tv f):=by
 intro pins s σ H D I h
 refine plainObj_wpAny_Assign_Attribute (JN (hv pins s σ H _ I h) λu s1 ⟨y,H1,I1,ry,q⟩=>JN (ha pins s1 σ H1 _ I1 q) λov s2 ⟨x,H2,I2,rx,a,C,ex,ea,k,n,q2⟩=>?_) hs
 subst ex
 obtain rfl:ov=Value.ref a:=rx
 obtain⟨oe,vs,g1,g2,g3,g4,g5⟩:=XO.of I2.hok ea
 have ne:s2.heap.objs.size≠a:=WA (US g1)
 refine wb I2.L_ g1 g2 (λc z=>by rw[g4]at z;cases z) g3 k n.P0 λh' n1 n2 n3=>?_
 have J1:Inv X pins σ (upd H2 a (.ext (XO a C (some s2.heap.objs.size)))) { s2 with heap:=h',toks:=s2.toks+2 }:=
  I2.write (x:=a) (e:=a) (by rw[ea];exact True.intro) (.inl rfl) (λb u hb z=>n3 b u hb z) ⟨_,n2⟩ (XO.ok ⟨_,vs,n2,g2,rfl,g4,g5⟩)
 have f0:H2 s2.heap.objs.size=none:=I2.hok.fresh (UH _)
 have f1:JV X pins (upd H2 a (.ext (XO a C (some s2.heap.objs.size)))) s2.heap.objs.size:=I2.Lb (UH _) (by rw[aw ne];exact f0)
 have xd:XD s2.heap.objs.size [(f,y)] h':=⟨_,n1,λg=>by
  show Ly (List.lookup g [(f,y)]) (if g=f then some u else none)
  by_cases q:g=f
  .subst q;rw[if_pos rfl];simp;exact ry
  .rw[if_neg q,Xl,WU.mpr q];exact True.intro,λg hg=>by
  by_cases q:g=f
  .simp[q]
  .exact absurd (show(if g=f then some u else none)=none by rw[if_neg q]) hg⟩
 exact⟨σ,_,J1.N9 f1 xd.ok,q2 _ f0 ne⟩
end
noncomputable def gU(K:Vo)(C:Addr)(ks:Vs):Sp:=λvs H Q _=>∃a rest,vs = .ref a::rest/\rest.length=ks.length/\H a=some (.ext (XO a C none))/\ExcK K C/\(∀k∈ks,NoAttr K C k)/\
 ∀dx,H dx=none->dx≠a->Q .non (upd (upd H a (.ext (XO a C (some dx)))) dx (.ext (XD dx (ks.zip rest))))
section
variable {P:Program}{w:World}{K:Vo}{mg:Vr}{base:Heap}
def BL{cm:Bool}{qual:Str}{st:Stmt}{f C:Addr}{fd:FuncData}{N ps:Vs}{k1:Str}(F:N5 K "__init__" qual st f fd)(S:b5 N ps (aC st))(hp:ps.length=2)
  (hbody:∀(cdv:Value)(A:Around)(outer:List Env)(s:Shared)(H:Hp)(E:XK),Mk (gH cm oP P w K mg base N qual (aC st) f cdv A outer s H E).OR (bj st) (Ab K (oV 0) (oV 1) k1)) :
  gG cm P w K mg base oP 1 f fd ps (gU K C [k1]):=
 F.ok S (λvs H Q E ⟨a,rest,e,l,_⟩=>by rw[e,UQ,l,hp];rfl) λcdv A outer s H vs Q E hr ⟨a,rest,e,l,ea,ek,en,q⟩=>by
  obtain⟨x,rfl⟩:=XR.mp l
  subst e
  refine⟨_,hbody cdv A outer s H E,?_⟩
  exact⟨x,rfl,.ref a,rfl,a,C,rfl,ea,ek,en k1 (by simp),λdx h1 h2=>q dx h1 h2⟩
end
section
variable {cm:Bool}{X:Cx}{f C:Addr}{fd:FuncData}{ps ks:Vs}{x:Str}{p cpos pos:Pos}{e:Expr}{es:List Expr}{t:TA}
def wf(X:Cx)(C:Addr)(ks:Vs)(t:TA):TS:=λD σ H=>t σ H λvs H1=>vs.length=ks.length/\∀pins dx od,H1 dx=none->EX X pins σ (.ref C) (some dx) (upd H1 dx (.frz od (.ext (XD dx (ks.zip vs)))))
def pk{pins:Va}{s:Shared}{σ:St}{H:Hp}{Z:List V->Hp->Prop}{R:Vq}(F:gG cm X.prog X.w X.K X.mg X.base oP 1 f fd ps (gU X.K C ks))(hps:ps.length=ks.length+1)(hks:ks.length<=1000)(ek:ExcK X.K C)(en:∀k∈ks,NoAttr X.K C k)(hi:PySem.W.findIn X.K (.ref C) "__init__" = some (some (.ref f)))(hf:PySem.W.isFn X.K (.ref f)=true)(hkp:PySem.W.keepIn X.K (.ref C)=true)
  (hr:RoomG cm 2 X.A) (hg:Gl X x) (hm:X.mg x=some (.ref C)) (hb:Binds X.K fd ps []) (ha:PA X (e::es) t) (hdb:(x == ("__debug__":Str))=false) (he:starEach (e::es) X.env=(false,eval e X.env)::starEach es X.env) (hpl:(backTo cpos (starEach es X.env)).any (·.1)=false)
  (I:Inv X pins σ H s) (h:t σ H λvs H1=>vs.length=ks.length/\Z vs H1)
  (q:∀a oe ws vs H1 dx od s',Z vs H1->H1 dx=none->s'.heap.get? a=some oe->oe.cls = .ref C->oe.dict=some dx->oe.data = .fields ws->ws[1]?=some .none->ws[2]?=some .none->4 < ws.size->
   Inv X pins σ (upd H1 dx (.frz od (.ext (XD dx (ks.zip vs))))) s'->JV X pins (upd H1 dx (.frz od (.ext (XD dx (ks.zip vs))))) a->R (.ref a) s') :
  wpAny (model X.prog X.w) X.A (do let v <-eval (.Call (.Name x p) (e::es) [] cpos) X.env;standAt pos;pure v) R X.xe s:=by
 refine UD (Wg (d_ I hg hm ?_ hdb))
 refine Yx (h₀:=X.base) I.ok.mod.PU hkp (JN (ha cpos pins s σ H _ I h) λus s1 ⟨vs,H1,I1,r,hl,hz⟩=>⟨I1.L_,?_⟩) he hpl
 have Sw:us.length=ks.length:=by rw[<-r.length];exact hl
 obtain⟨hp,g,d,tk,os⟩:=s1
 have e1:(hp.push (eu us)).objs.size=hp.objs.size+1:=Wk _ _
 have Tw:Inv X pins σ H1 ⟨hp.push (eu us),g,d,tk,os⟩:=I1.kept (t':=tk) λb o q=>UG _ q
 have ex:((hp.push (eu us)).push (eA C hp.objs.size)).get? (hp.objs.size+1)=some (eA C hp.objs.size):=by heap_get
 have I2:Inv X pins σ (upd H1 (hp.objs.size+1) (.ext (XO (hp.objs.size+1) C none))) ⟨(hp.push (eu us)).push (eA C hp.objs.size),g,d,tk,os⟩:=
  Tw.laid (a:=hp.objs.size+1) (t':=tk) (λb o q=>UG _ q) (Nat.le_of_eq e1) (XO.ok ⟨_,_,ex,rfl,rfl,rfl,rfl,rfl,V3 rfl⟩)
 have n0:H1 (hp.objs.size+1)=none:=I1.hok.fresh (YA _)
 have r2:Vals (V.ref (hp.objs.size+1)::vs) (Value.ref (hp.objs.size+1)::us):=.cons rfl r
 have Nc:(Value.ref (hp.objs.size+1)::us++[]).length=ps.length:=by rw[Vp,UQ,Sw,hps]
 have hb':=hb _ (Value.ref (hp.objs.size+1)::us) I2.L_ Nc
 rw[Vp]at hb'
 refine Yw (v7 (f:=f) I1.L_ ek.ok hi (XF.mp hf) (by rw[VT,Sw];exact Xi (d0 hks)) (Xj (codeAny_toks_of I2.tk (F.run _ X.stack _ _ ⟨Value.ref (hp.objs.size+1)::us,[]⟩ (Value.ref (hp.objs.size+1)::us) _
  (λv H2=>v = .non/\∃dx,H1 dx=none/\dx≠hp.objs.size+1/\H2=upd (upd (upd H1 (hp.objs.size+1) (.ext (XO (hp.objs.size+1) C none))) (hp.objs.size+1) (.ext (XO (hp.objs.size+1) C (some dx)))) dx (.ext (XD dx (ks.zip vs)))) (λ_ _ _=>False) (hr.make C us []) (.inl I2.tk)
  (I2.Pa.make C us []) hb' r2 ⟨_,vs,rfl,hl,au,ek,en,λdx h1 h2=>⟨rfl,dx,by rw[aw h2]at h1;exact h1,h2,rfl⟩⟩)) λr s' ⟨ht,hq'⟩=>?_))
 cases r with
 |error e=>exact hq'.elim
 |ok fl=>
  cases fl with
  |ret u=>
   obtain⟨v,H',I3,rv,ev,dx,d1,d2,rfl⟩:=I2.after ht hq'
   subst ev
   refine⟨rv,UD (WQ (UL ?_))⟩
   obtain⟨oe,ws,g1,g2,g3,g4,g5,g6,g7⟩:=XO.of (a:=hp.objs.size+1) (C:=C) (d:=some dx) I3.hok (by rw[aw d2.symm,au])
   have xd:XD dx (ks.zip vs) s'.heap:=XD.of I3.hok au
   obtain⟨od,hod⟩:∃o,s'.heap.get? dx=some o:=let ⟨_,⟨o,_,_,e,_⟩,_⟩:=xd;⟨o,e⟩
   have I4:Inv X pins σ (upd (upd (upd (upd H1 (hp.objs.size+1) (.ext (XO (hp.objs.size+1) C none))) (hp.objs.size+1) (.ext (XO (hp.objs.size+1) C (some dx)))) dx (.ext (XD dx (ks.zip vs)))) dx (.frz od (.ext (XD dx (ks.zip vs))))) s':=by
    have J:=I3.write (x:=dx) (e:=dx) (o:=.frz od (.ext (XD dx (ks.zip vs)))) (h':=s'.heap) (t':=s'.toks) (by rw[au];exact True.intro) (.inl rfl) (λ_ _ _ z=>z) ⟨od,hod⟩ ⟨hod,xd.ok⟩
    exact J
   have I5:Inv X pins σ (upd H1 dx (.frz od (.ext (XD dx (ks.zip vs))))) s':=I4.forget (D:=hp.objs.size+1) (φ:=XO (hp.objs.size+1) C (some dx)) (by rw[zo,aw d2.symm,au]) (by rw[aw d2.symm];exact n0) λb hb=>by
    by_cases z:b=dx
    .rw[z,au,au]
    .rw[aw z,aw z,aw z,aw hb,aw hb]
   exact q _ oe ws vs H1 dx od s' hz d1 g1 g2 g3 g4 g5 g6 g7 I5 (I1.Lb (YA _) (by rw[aw d2.symm];exact n0))
  |next=>exact hq'.elim
  |brk=>exact hq'.elim
  |cont=>exact hq'.elim
def wg(F:gG cm X.prog X.w X.K X.mg X.base oP 1 f fd ps (gU X.K C ks))(hps:ps.length=ks.length+1)(hks:ks.length<=1000)(ek:ExcK X.K C)(en:∀k∈ks,NoAttr X.K C k)(hi:PySem.W.findIn X.K (.ref C) "__init__" = some (some (.ref f)))(hf:PySem.W.isFn X.K (.ref f)=true)(hkp:PySem.W.keepIn X.K (.ref C)=true)
  (hr:RoomG cm 2 X.A) (MK:X.calm=true) (hg:Gl X x) (hm:X.mg x=some (.ref C)) (hb:Binds X.K fd ps []) (ha:PA X (e::es) t)
  (hdb:(x == ("__debug__":Str))=false:=by decide) (he:starEach (e::es) X.env=(false,eval e X.env)::starEach es X.env:=by rfl) (hpl:(backTo cpos (starEach es X.env)).any (·.1)=false:=by rfl) :
  PS X (.Raise (some (.Call (.Name x p) (e::es) [] cpos)) none pos) (wf X C ks t):=by
 intro pins s σ H D I h
 rw[arm_exec_Raise]
 refine UD (WQ (um (K:=X.K) (C:=C) ek.ok (I.ok.hd MK) (pk F hps hks ek en hi hf hkp hr hg hm hb ha hdb he hpl I h λa oe ws vs H1 dx od s' q d1 g1 g2 g3 g4 g5 g6 g7 I5 fp=>?_)))
 exact⟨a,oe,ws,rfl,I5.L_,g1,g2,g4,g5,q pins dx od d1 s' a C dx rfl rfl I5 ⟨oe,ws,⟨g1,g4,.inl g5⟩,g2,g3,fp,λT z=>(by rw[g5]at z;cases z),λ_=>g6⟩⟩
end
noncomputable abbrev Cx.tr(X:Cx)(E:Vq)(pins:Va)(b:Bool:=true):Cx:={ X with xe:=E,pn:=X.pn++pins,fr:=b }
noncomputable abbrev Cx.Mf(X:Cx)(a:Addr):Cx:={ X with A:=X.A.mark (some (.ref a)),calm:=false,xe:=λ_ _=>False }
section
variable {X:Cx}{pins pins':Va}{σ:St}{H H':Hp}{s s':Shared}{E:Vq}{tb:Bool}
theorem Cx.Ok.tr(ok:X.Ok):(X.tr E pins tb).Ok:=⟨ok.mod,ok.kind,ok.glob,ok.blt,ok.above,ok.inj,ok.has,ok.Nm,ok.hd,ok.frames,ok.stk,ok.NZ,ok.bs,ok.MH,ok.LF,ok.LL,ok.KB,ok.M6⟩
def Cx.Ok.Lw(ok:(X.tr E pins tb).Ok):X.Ok:=⟨ok.mod,ok.kind,ok.glob,ok.blt,ok.above,ok.inj,ok.has,ok.Nm,ok.hd,ok.frames,ok.stk,ok.NZ,ok.bs,ok.MH,ok.LF,ok.LL,ok.KB,ok.M6⟩
theorem Cx.Ok.Mf{a:Addr}(ok:X.Ok):(X.Mf a).Ok:=⟨ok.mod,ok.kind,ok.glob,ok.blt,ok.above,ok.inj,ok.has,ok.Nm,λz=>absurd (show false=true from z) (by decide),ok.frames,ok.stk,ok.NZ,ok.bs,ok.MH,ok.LF,ok.LL,ok.KB,ok.M6⟩
def Cx.Ok.OF{a:Addr}(hc:X.calm=true->X.A.handled=none)(ok:(X.Mf a).Ok):X.Ok:=⟨ok.mod,ok.kind,ok.glob,ok.blt,ok.above,ok.inj,ok.has,ok.Nm,hc,ok.frames,ok.stk,ok.NZ,ok.bs,ok.MH,ok.LF,ok.LL,ok.KB,ok.M6⟩
theorem Inv.tr(I:Inv X pins σ H s):Inv (X.tr E pins tb) [] σ H s:=⟨I.ok.tr,I.os,I.bare,I.base,I.loc,I.cell,I.free,I.J6,λp hp=>I.pin p (by simpa using hp),I.hok,I.len,I.tk⟩
theorem Inv.Lw(I:Inv (X.tr E pins tb) pins' σ H s):Inv X pins σ H s:=⟨I.ok.Lw,I.os,I.bare,I.base,I.loc,I.cell,I.free,I.J6,λp hp=>I.pin p (VA _ hp),I.hok,I.len,I.tk⟩
theorem Inv.Mf{a:Addr}(I:Inv X pins σ H s):Inv (X.Mf a) pins σ H s:=⟨I.ok.Mf,I.os,I.bare,I.base,I.loc,I.cell,I.free,I.J6,I.pin,I.hok,I.len,I.tk⟩
theorem Inv.OF{a:Addr}(hc:X.calm=true->X.A.handled=none)(I:Inv (X.Mf a) pins σ H s):Inv X pins σ H s:=⟨I.ok.OF hc,I.os,I.bare,I.base,I.loc,I.cell,I.free,I.J6,I.pin,I.hok,I.len,I.tk⟩
def JV.Lw{b:Addr}(f:JV (X.tr E pins tb) pins' H b):JV X pins H b:=⟨f.1,f.2.1,f.2.2.1,f.2.2.2.1,f.2.2.2.2.1,λp hp=>f.2.2.2.2.2 p (VA _ hp)⟩
theorem SP.Lw{D:ik}{f:Flow}(h:SP (X.tr E pins tb) [] D f s'):SP X pins D f s':=by
 cases f with
 |next=>obtain⟨a,b,I,q⟩:=h;exact⟨a,b,I.Lw,q⟩
 |brk=>obtain⟨a,b,I,q⟩:=h;exact⟨a,b,I.Lw,q⟩
 |cont=>obtain⟨a,b,I,q⟩:=h;exact⟨a,b,I.Lw,q⟩
 |ret v=>obtain⟨v,a,b,I,r,q⟩:=h;exact⟨v,a,b,I.Lw,r,q⟩
def Cx.Ok.Qb(ok:X.Ok):(X.fb tb).Ok:=⟨ok.mod,ok.kind,ok.glob,ok.blt,ok.above,ok.inj,ok.has,ok.Nm,ok.hd,ok.frames,ok.stk,ok.NZ,ok.bs,ok.MH,ok.LF,ok.LL,ok.KB,ok.M6⟩
def Cx.Ok.OS(ok:(X.fb tb).Ok):X.Ok:=⟨ok.mod,ok.kind,ok.glob,ok.blt,ok.above,ok.inj,ok.has,ok.Nm,ok.hd,ok.frames,ok.stk,ok.NZ,ok.bs,ok.MH,ok.LF,ok.LL,ok.KB,ok.M6⟩
theorem Inv.Qb(I:Inv X pins σ H s):Inv (X.fb tb) pins σ H s:=⟨I.ok.Qb,I.os,I.bare,I.base,I.loc,I.cell,I.free,I.J6,I.pin,I.hok,I.len,I.tk⟩
theorem Inv.OS(I:Inv (X.fb tb) pins σ H s):Inv X pins σ H s:=⟨I.ok.OS,I.os,I.bare,I.base,I.loc,I.cell,I.free,I.J6,I.pin,I.hok,I.len,I.tk⟩
def ur{A:Around}{E:Vq}{i:Nat}{n:Str}{pos:Pos}{Q:Unit->Shared->Prop}(I:Inv X pins σ H s)(hN:X.N.Nodup)(hi:X.N[i]?=some n)(hk:X.env.scope.names.lookup n=some .local)(h:∀s',Inv X pins (σ.set i none) H s'->Q () s') :
  wpAny (model X.prog X.w) A (do bindName X.env n .none;unbindBehindTheSuite X.env n pos) Q E s:=by
 obtain⟨m,hn,hl⟩:=id I.loc
 have hcls:(X.env.scope.kind == .class || (X.env.scope.kind == .module&&X.env.locals != X.env.globals))=false:=by rw[I.ok.kind];rfl
 have N0:=I.N0
 refine wpAny_nameGoes_keeps hk hn hcls λh' v hn' hs=>h _ ?_
 have Rl:∀b o,X.s₀.heap.get? b=some o->b≠X.env.locals:=λb o e=>Vm (UU (US e) I.ok.above)
 refine⟨I.ok,I.os,I.bare,⟨λb o e n hb hx=>(hs.2 b (Rl b o e)).trans (I.base.keep b o e n hb hx),λb o e n hb hx=>?_,I.base.free,λb o e hx=>?_,I.base.tups,I.base.Mn,I.base.Mw⟩,⟨_,hn',λj y v' e1 e2 e3=>?_⟩,λy c e=>?_,I.free,I.J6,λp hp=>?_,λb ob e=>?_,by simpa using I.len,by first|exact I.tk|exact V0 (UZ _)⟩
 .obtain⟨sl,e1⟩:=I.base.slot b o e n hb hx
  exact⟨sl,(hs.2 b (Rl b o e)).trans e1⟩
 .obtain⟨o',e1⟩:=I.base.there b o e hx
  exact⟨o',(hs.2 b (Rl b o e)).trans e1⟩
 .by_cases hj:j=i
  .subst hj
   rw[Xa]at e2
   split at e2
   .split at e2
    .cases e2
    .cases e2
   .rename_i z;exact absurd rfl z
  .rw[Yj (VI hj)]at e2
   obtain⟨u',r',q⟩:=hl j y v' e1 e2 e3
   refine⟨u',r',?_⟩
   rcases q with⟨k,e⟩|⟨k,c,e,z⟩
   .refine .inl ⟨k,?_⟩
    have:y≠n:=λe=>hj (ko hN e1 (e▸hi))
    simp[this,e]
   .exact .inr ⟨k,c,e,z.sameBut hs (N0 y c e)⟩
 .obtain⟨w',z⟩:=I.cell y c e
  exact⟨w',z.sameBut hs (N0 y c e)⟩
 .obtain⟨e,n,ne,nf,d⟩:=I.pin p hp
  exact⟨(hs.2 p.1 ne).trans e,n,ne,nf,d⟩
 .refine(I.hok b ob e).stay (λc w' hc q=>(hs.2 c ?_).trans q) (λ_ q=>q) λ_ _ q=>q
  rintro rfl
  rcases hc with rfl|hc
  .rw[I.free]at e;cases e
  .rw[I.free]at hc;cases hc
end
structure Ac(K:Vo)(Dc:Addr):Prop where
 ty:PySem.W.typeIn K (.ref Dc)=some (.type "type")
 cl:(PySem.W.clsIn K Dc).isSome=true
 be:PySem.W.mroIn K Dc (.type "BaseException")=some true
noncomputable abbrev wj(D:ik)(i:Nat):ik:={ nx:=λσ H=>D.nx (σ.set i none) H,rt:=D.rt,bk:=λσ H=>D.bk (σ.set i none) H,ct:=λσ H=>D.ct (σ.set i none) H }
section
variable {X:Cx}{pins pins':Va}{σ:St}{H:Hp}{s':Shared}{E:Vq}{a C dx Dc:Addr}{i:Nat}{n x:Str}{np hpos:Pos}{b₀:Stmt}{suite:List Stmt}{th:Addr->TS}{D:ik}
def Dn{tb:Bool}(hst:X.stack=X.env::X.outer)(LN:X.env.frame=some X.env.locals)(hN:X.N.Nodup)(hi:X.N[i]?=some n)(hk:X.env.scope.names.lookup n=some .local)(hg:Gl X x)(hm:X.mg x=some (.ref Dc))(hD:Ac X.K Dc)
  (hs:∀a,Mk (X.Mf a) (b₀::suite) (th a)) (I:Inv (X.tr E pins tb) pins' σ H s') (xa:N8 (X.tr E pins tb) pins' H s'.heap a C dx) (hb:PySem.W.mroIn X.K C (.ref Dc)=some true)
  (q:∀oe:Obj,oe.cls = .ref C->oe.dict=some dx->(∀c,oe.data ≠ .cls c)->th a (wj D i) (σ.set i (some (.ref a))) (upd H a (.frz oe (.ext λ_=>True))))
  (hdb:(x == ("__debug__":Str))=false:=by decide) :
  wpAny (model X.prog X.w) X.A (noteFrame (.ref a) X.env) (λ_ s₂=>wpAny (model X.prog X.w) X.A (setFlight (.ref a) none) (λ_ s₃=>wpAny (model X.prog X.w) X.A (handleBy (.ref a) X.env [.ExceptHandler (some (.Name x np)) (some n) (b₀::suite) hpos]) (SP X pins D) X.xe s₃) X.xe s₂) X.xe s':=by
 have I0:Inv X pins σ H s':=I.Lw
 obtain⟨oe,vs,lx,hc,hd,fa,fT,fx⟩:=xa
 have hfr:X.A.frames=some (X.env::X.outer):=by rw[<-hst];exact I0.ok.frames
 refine nj (base:=X.base) hfr (by rw[<-hst];exact I0.stack) LN lx λh' nt=>?_
 obtain⟨Rm,Ot,LK,Ms,hc2,hd2,PD,PH,QQ⟩:=(I0.Qb (tb:=tb)).noted (h':=h') (by show jE X.stack _ _ _ _ _;rw[hst];exact nt) lx hc hd fa.Lw (λT z=>(fT T z).Lw) fx
 have I2:=Rm.OS
 refine PySem.wpAny_handleBy_cons (codeAny_handlers_test ?_) (by intro q;cases q)
 have IH:=I2.Mf (a:=a)
 refine d_ (X:=X.Mf a) IH hg hm ?_ hdb
 refine jF IH.L_ Ms.at_ hc2 hb hD.ty hD.cl hD.be ?_
 refine codeAny_handlers_suite_as ?_
 -- the flight is none already
 have flight:∀{Q:Unit->Shared->Prop} {E:Vq},(∀h3,Inv (X.Mf a) pins σ H { s' with heap:=h3 }->h3.get? a=some Ot->Q () { s' with heap:=h3 })->wpAny (model X.prog X.w) (X.Mf a).A (setFlight (.ref a) none) Q E { s' with heap:=h' }:=by
  intro Q E hQ
  rcases Ms.tb with t1|⟨T,oT,ts,t1,t2,t3,t4,t5⟩
  .unfold setFlight
   refine UD (Vt Ms.at_ Ms.dat t1 ?_)
   rw[if_neg (by decide)]
   exact UL (hQ _ IH Ms.at_)
  .have N_:=PH T t1
   refine Yl Ms.at_ Ms.dat t1 t3 t4 t5 (hQ _ ?_ ((Vc _ _ t2).trans Ms.at_))
   exact Inv.turned (s:={ s' with heap:=h' }) IH (t':=s'.toks) (it:=T) (λb o hb e=>(Vc _ _ (VI hb)).trans e) N_.1 N_.2.1 N_.2.2.2.1 N_.2.2.2.2.1 N_.2.2.2.2.2
 refine flight λh3 I3 ga=>?_
 have f3:JV (X.Mf a) pins H a:=PD
 have I4:Inv (X.Mf a) pins σ (upd H a (.frz Ot (.ext λ_=>True))) { s' with heap:=h3 }:=I3.N9 f3 ⟨ga,True.intro,⟨_,ga⟩,λ_ _ _ _=>True.intro⟩
 refine iZ (X:=X.Mf a) I4 hN hi (.inl hk) (v:=.ref a) rfl (λs5 I5 _=>?_) (.inr hk)
 refine V8 (hs a pins s5 _ _ (wj D i) I5 (q Ot hc2 hd2 λc z=>by rw[Ms.dat]at z;cases z)) (λf s6 hf=>?_) λ_ _ z=>False.elim z
 have fin:∀{σ6:St}{H6:Hp}{Q:Unit->Shared->Prop},Inv (X.Mf a) pins σ6 H6 s6->(∀s7,Inv X pins (σ6.set i none) H6 s7->Q () s7)->wpAny (model X.prog X.w) X.A (do bindName X.env n .none;unbindBehindTheSuite X.env n hpos) Q X.xe s6:=λI6 hq=>
  ur (I6.OF I0.ok.hd) hN hi hk λs7 I7=>hq s7 I7
 cases f with
 |next=>obtain⟨σ6,H6,I6,q6⟩:=hf;exact fin I6 λs7 I7=>⟨_,_,I7,q6⟩
 |brk=>obtain⟨σ6,H6,I6,q6⟩:=hf;exact fin I6 λs7 I7=>⟨_,_,I7,q6⟩
 |cont=>obtain⟨σ6,H6,I6,q6⟩:=hf;exact fin I6 λs7 I7=>⟨_,_,I7,q6⟩
 |ret u=>obtain⟨v6,σ6,H6,I6,r6,q6⟩:=hf;exact fin I6 λs7 I7=>⟨_,_,_,I7,r6,q6⟩
end
noncomputable def tryXe(X:Cx)(pins:Va)(D:ik)(hs:List ExceptHandler):Value->Shared->Prop:=λe s₁=>
 wpAny (model X.prog X.w) X.A (noteFrame e X.env) (λ_ s₂=>wpAny (model X.prog X.w) X.A (setFlight e none) (λ_ s₃=>wpAny (model X.prog X.w) X.A (handleBy e X.env hs) (SP X pins D) X.xe s₃) X.xe s₂) X.xe s₁
def tryXe.passes{X:Cx}{pins:Va}{D:ik}{hs:List ExceptHandler}:PassesOwn (model X.prog X.w) X.A X.env (tryXe X pins D hs):=PassesOwn.looking
def wk{X:Cx}{h₀:ExceptHandler}{body:List Stmt}{pos:Pos}{tb:(E:Vq)->List (Addr×Obj)->TS}
  {fb:Bool} (hb:∀E pins,PassesOwn (model X.prog X.w) X.A X.env E->Mk (X.tr E pins fb) body (tb E pins)) :
  PS X (.Try body [h₀] [] [] pos) (λD σ H=>∀pins,tb (tryXe X pins D [h₀]) pins D σ H):=by
 intro pins s σ H D I h
 refine wpAny_Try_except ?_
 refine V8 (hb (tryXe X pins D [h₀]) pins tryXe.passes [] s σ H D I.tr (h pins)) (λf s1 q=>?_) λe s1 q=>q
 have q':=SP.Lw q
 cases f with
 |next=>exact Xy q'
 |ret v=>exact q'
 |brk=>exact q'
 |cont=>exact q'
end L2
namespace L3
open PySem L2
inductive PV where
 |non|bl (b:Bool)|int (i:Int)|str (x:Str)|tup (xs:List PV)|cl (xs:List PV)|ref (a:Addr)|ty (n:String)|exc (c:Str) (ks:Vs) (ps:List PV)|cls (c:Str)
def PJ(K:Vo)(H:Hp)(a:Addr)(xs:List V):Prop:=
 (∃o,H a=some (.frz o (.lst xs))) \/
  ∃(o:Obj) (its:Vw) (n:Nat),K.lookup a=some o/\o.cls = .type "list"/\o.dict=none/\o.data = .seq its n/\its.size<=sizeLine/\Vals xs its.toList
def PJ.sq{K:Vo}{H:Hp}{a:Addr}{xs:List V}(h:PJ K H a xs):SqL K H a xs:=h.elim (λz=>.inl (.inr z)) .inr
def Qc(H:Hp)(a C:Addr)(ks:Vs)(vs:List V):Prop:=
 ∃oe dx od,H a=some (.frz oe (.ext λ_=>True))/\oe.cls = .ref C/\oe.dict=some dx/\(∀c,oe.data ≠ .cls c)/\H dx=some (.frz od (.ext (XD dx (ks.zip vs))))
def Kl(K:Vo)(c:Str)(C:Addr):Prop:=PySem.W.nsIn K mainGlobals c=some (some (.ref C))
mutual
inductive Rep(K:Vo)(H:Hp):V->PV->Prop
 |non:Rep K H .non .non
 |bl (b:Bool):Rep K H (.bl b) (.bl b)
 |int (i:Int):Rep K H (.int i) (.int i)
 |str (x:Str):Rep K H (.str x) (.str x)
 |ty (n:String):Rep K H (.ty n) (.ty n)
 |ref (a:Addr):Rep K H (.ref a) (.ref a)
 |tup {a:Addr} {vs:List V} {ps:List PV}:SqT K H a vs->Reps K H vs ps->Rep K H (.ref a) (.tup ps)
 |cl {a:Addr} {vs:List V} {ps:List PV}:PJ K H a vs->Reps K H vs ps->Rep K H (.ref a) (.cl ps)
 |exc {a C:Addr} {c:Str} {ks:Vs} {vs:List V} {ps:List PV}:Kl K c C->Qc H a C ks vs->Reps K H vs ps->Rep K H (.ref a) (.exc c ks ps)
 |cls {C:Addr} {c:Str}:Kl K c C->Rep K H (.ref C) (.cls c)
inductive Reps(K:Vo)(H:Hp):List V->List PV->Prop
 |nil:Reps K H [] []
 |cons {v:V} {p:PV} {vs:List V} {ps:List PV}:Rep K H v p->Reps K H vs ps->Reps K H (v::vs) (p::ps)
end
structure Grow(K:Vo)(H H':Hp):Prop where
 t:∀a vs,SqT K H a vs->SqT K H' a vs
 c:∀a vs,PJ K H a vs->PJ K H' a vs
 x:∀a o u,H a=some (.frz o u)->H' a=some (.frz o u)
def Grow.refl{K:Vo}{H:Hp}:Grow K H H:=⟨λ_ _ h=>h,λ_ _ h=>h,λ_ _ _ h=>h⟩
def Grow.trans{K:Vo}{H H1 H2:Hp}(a:Grow K H H1)(b:Grow K H1 H2):Grow K H H2:=⟨λx vs h=>b.t x vs (a.t x vs h),λx vs h=>b.c x vs (a.c x vs h),λx o u h=>b.x x o u (a.x x o u h)⟩
def Qc.mono{K:Vo}{H H':Hp}(g:Grow K H H'){a C:Addr}{ks:Vs}{vs:List V}(h:Qc H a C ks vs):Qc H' a C ks vs:=let ⟨oe,dx,od,h1,h2,h3,h4,h5⟩:=h;⟨oe,dx,od,g.x _ _ _ h1,h2,h3,h4,g.x _ _ _ h5⟩
def Grow.of{K:Vo}{H H':Hp}(h:∀a xs,H a=some (.tup xs)->H' a=some (.tup xs))(h2:∀a o u,H a=some (.frz o u)->H' a=some (.frz o u)):Grow K H H':=by
 refine⟨λa vs q=>?_,λa vs q=>?_,h2⟩
 .rcases q with(q|⟨o,q⟩)|q
  .exact .inl (.inl (h a vs q))
  .exact .inl (.inr ⟨o,h2 a o _ q⟩)
  .exact .inr q
 .rcases q with⟨o,q⟩|q
  .exact .inl ⟨o,h2 a o _ q⟩
  .exact .inr q
def Grow.same{K:Vo}{H H':Hp}(h:∀c o,H c=some o->H' c=some o):Grow K H H':=.of (λa _ q=>h a _ q) (λa _ _ q=>h a _ q)
def Grow.new{K:Vo}{H:Hp}{p:Addr}{o:HO}(h:H p=none):Grow K H (upd H p o):=.same λc u q=>by rw[aw (aV q h)];exact q
noncomputable def Mu:HO->Prop
 | .tup _=>False
 | .frz _ _=>False
 |_=>True
def Grow.mut{K:Vo}{H:Hp}{p:Addr}{o u:HO}(h:H p=some u)(m:Mu u):Grow K H (upd H p o):=
 .of (λa xs q=>by rw[aw (λe=>by subst e;rw[h]at q;cases q;exact m)];exact q) (λa _ _ q=>by rw[aw (λe=>by subst e;rw[h]at q;cases q;exact m)];exact q)
mutual
theorem Rep.mono{K:Vo}{H H':Hp}(g:Grow K H H'):∀{v:V}{p:PV},Rep K H v p->Rep K H' v p
 |_,_,.non=>.non
 |_,_,.bl b=>.bl b
 |_,_,.int i=>.int i
 |_,_,.str x=>.str x
 |_,_,.ty n=>.ty n
 |_,_,.ref a=>.ref a
 |_,_,.tup h r=>.tup (g.t _ _ h) (Reps.mono g r)
 |_,_,.cl h r=>.cl (g.c _ _ h) (Reps.mono g r)
 |_,_,.exc n h r=>.exc n (h.mono g) (Reps.mono g r)
 |_,_,.cls n=>.cls n
theorem Reps.mono{K:Vo}{H H':Hp}(g:Grow K H H'):∀{vs:List V}{ps:List PV},Reps K H vs ps->Reps K H' vs ps
 |_,_,.nil=>.nil
 |_,_,.cons a r=>.cons (Rep.mono g a) (Reps.mono g r)
end
theorem Reps.length{K:Vo}{H:Hp}:∀{vs:List V}{ps:List PV},Reps K H vs ps->vs.length=ps.length
 |_,_,.nil=>rfl
 |_,_,.cons _ r=>by rw[UQ,UQ,Reps.length r]
theorem Reps.append{K:Vo}{H:Hp}:∀{vs us:List V}{ps qs:List PV},Reps K H vs ps->Reps K H us qs->Reps K H (vs++us) (ps++qs)
 |_,_,_,_,.nil,s=>s
 |_,_,_,_,.cons a r,s=>.cons a (Reps.append r s)
theorem Reps.get{K:Vo}{H:Hp}:∀{vs:List V}{ps:List PV}{i:Nat}{p:PV},Reps K H vs ps->ps[i]?=some p->∃v,vs[i]?=some v/\Rep K H v p
 |_,_,_,_,.nil,e=>by simp at e
 |_,_,0,_,.cons a r,e=>by simp at e;subst e;exact⟨_,rfl,a⟩
 |_,_,i+1,p,.cons a r,e=>by
  obtain⟨v,h1,h2⟩:=Reps.get (i:=i) (p:=p) r (by simpa using e)
  exact⟨v,by simpa using h1,h2⟩
theorem Reps.take{K:Vo}{H:Hp}:∀{vs:List V}{ps:List PV}(n:Nat),Reps K H vs ps->Reps K H (vs.take n) (ps.take n)
 |_,_,0,_=>.nil
 |_,_,_+1,.nil=>.nil
 |_,_,n+1,.cons a r=>.cons a (Reps.take n r)
theorem Reps.drop{K:Vo}{H:Hp}:∀{vs:List V}{ps:List PV}(n:Nat),Reps K H vs ps->Reps K H (vs.drop n) (ps.drop n)
 |_,_,0,r=>r
 |_,_,_+1,.nil=>.nil
 |_,_,n+1,.cons _ r=>Reps.drop n r
theorem Reps.set{K:Vo}{H:Hp}{v:V}{p:PV}(q:Rep K H v p):∀{vs:List V}{ps:List PV}(n:Nat),Reps K H vs ps->Reps K H (vs.set n v) (ps.set n p)
 |_,_,_,.nil=>.nil
 |_,_,0,.cons _ r=>.cons q r
 |_,_,n+1,.cons a r=>.cons a (Reps.set q n r)
theorem Reps.eraseIdx{K:Vo}{H:Hp}:∀{vs:List V}{ps:List PV}(n:Nat),Reps K H vs ps->Reps K H (vs.eraseIdx n) (ps.eraseIdx n)
 |_,_,_,.nil=>.nil
 |_,_,0,.cons _ r=>r
 |_,_,n+1,.cons a r=>.cons a (Reps.eraseIdx n r)
theorem Reps.reverse{K:Vo}{H:Hp}:∀{vs:List V}{ps:List PV},Reps K H vs ps->Reps K H vs.reverse ps.reverse
 |_,_,.nil=>.nil
 |_,_,.cons a r=>by rw[Wy,Wy];exact(Reps.reverse r).append (.cons a .nil)
theorem Reps.dropLast{K:Vo}{H:Hp}{vs:List V}{ps:List PV}(r:Reps K H vs ps):Reps K H vs.dropLast ps.dropLast:=by
 rw[List.dropLast_eq_take,List.dropLast_eq_take,r.length]
 exact r.take _
inductive SO where
 |lst (xs:List PV)
 |dct (kvs:List (bp×PV))
 |ins (c:Str) (fs:List (Str×PV))
abbrev aq:=Addr->Option SO
noncomputable def JH(S:aq)(a:Addr)(o:SO):aq:=λb=>if b=a then some o else S b
def aa{S:aq}{a:Addr}{o:SO}:JH S a o a=some o:=by unfold JH;rw[if_pos rfl]
def aj{S:aq}{a b:Addr}{o:SO}(h:b≠a):JH S a o b=S b:=by unfold JH;rw[if_neg h]
inductive JZ(K:Vo)(H:Hp){κ:Type}:List (κ×V)->List (κ×PV)->Prop
 |nil:JZ K H [] []
 |cons {k:κ} {v:V} {p:PV} {vs:List (κ×V)} {ps:List (κ×PV)}:Rep K H v p->JZ K H vs ps->JZ K H ((k,v)::vs) ((k,p)::ps)
theorem JZ.mono{K:Vo}{H H':Hp}(g:Grow K H H'){κ:Type}:∀{vs:List (κ×V)}{ps:List (κ×PV)},JZ K H vs ps->JZ K H' vs ps
 |_,_,.nil=>.nil
 |_,_,.cons a r=>.cons (a.mono g) (JZ.mono g r)
theorem JZ.length{K:Vo}{H:Hp}{κ:Type}:∀{vs:List (κ×V)}{ps:List (κ×PV)},JZ K H vs ps->vs.length=ps.length
 |_,_,.nil=>rfl
 |_,_,.cons _ r=>by rw[UQ,UQ,JZ.length r]
noncomputable def ML(K:Vo)(H:Hp)(a:Addr):SO->Prop
 | .lst xs=>∃vs,H a=some (.lst vs)/\Reps K H vs xs
 | .dct kvs=>∃kv,H a=some (.dK kv)/\JZ K H kv kvs
 | .ins c fs=>∃C dx f',Kl K c C/\H a=some (.ins C dx f')/\JZ K H f' fs
theorem ML.stay{K:Vo}{H H':Hp}(g:Grow K H H'){a:Addr}(e:H' a=H a):∀{o:SO},ML K H a o->ML K H' a o
 | .lst _,⟨vs,h,r⟩=>⟨vs,e.trans h,r.mono g⟩
 | .dct _,⟨vs,h,r⟩=>⟨vs,e.trans h,r.mono g⟩
 | .ins _ _,⟨C,dx,vs,n,h,r⟩=>⟨C,dx,vs,n,e.trans h,r.mono g⟩
theorem ML.some{K:Vo}{H:Hp}{a:Addr}:∀{o:SO},ML K H a o->∃u,H a=Option.some u/\Mu u
 | .lst _,⟨_,h,_⟩=>⟨_,h,trivial⟩
 | .dct _,⟨_,h,_⟩=>⟨_,h,trivial⟩
 | .ins _ _,⟨_,_,_,_,h,_⟩=>⟨_,h,trivial⟩
def JM(K:Vo)(H:Hp)(S:aq):Prop:=∀a o,S a=some o->ML K H a o
def JM.free{K:Vo}{H:Hp}{S:aq}(r:JM K H S){p:Addr}(h:H p=none):S p=none:=by
 cases e:S p with
 |none=>rfl
 |some o=>
  obtain⟨u,q,_⟩:=(r p o e).some
  rw[h]at q;cases q
def JM.grow{K:Vo}{H H':Hp}{S:aq}(r:JM K H S)(h:∀c o,H c=some o->H' c=some o):JM K H' S:=λa o e=>by
 obtain⟨u,q,_⟩:=(r a o e).some
 exact(r a o e).stay (.same h) ((h a u q).trans q.symm)
def JM.other{K:Vo}{H:Hp}{S:aq}(r:JM K H S){p:Addr}{o:HO}(h:H p=none):JM K (upd H p o) S:=r.grow λc u q=>by rw[aw (aV q h)];exact q
theorem JM.new{K:Vo}{H:Hp}{S:aq}(r:JM K H S){p:Addr}{u:HO}{o:SO}(h:H p=none)(q:ML K (upd H p u) p o):JM K (upd H p u) (JH S p o):=λa x e=>by
 by_cases z:a=p
 .subst z;rw[aa]at e;cases e;exact q
 .rw[aj z]at e;exact(r a x e).stay (.new h) (aw z)
def JM.put{K:Vo}{H:Hp}{S:aq}(r:JM K H S){p:Addr}{u0 u:HO}{o:SO}(h:H p=some u0)(m:Mu u0)(q:ML K (upd H p u) p o):JM K (upd H p u) (JH S p o):=λa x e=>by
 by_cases z:a=p
 .subst z;rw[aa]at e;cases e;exact q
 .rw[aj z]at e;exact(r a x e).stay (.mut h m) (aw z)
abbrev bZ:=List (Option PV)
noncomputable def lk:bZ->Nat->Option PV
 |[],_=>none
 |x::_,0=>x
 |_::r,i+1=>lk r i
def wm{σ:bZ}{i:Nat}{p:PV}(h:lk σ i=some p):σ[i]?=some (some p):=by
 induction σ generalizing i with
 |nil=>cases h
 |cons x r ih=>
  cases i with
  |zero=>exact U4 some h
  |succ i=>exact ih h
structure JR(K:Vo)(H:Hp)(σ:St)(σ3:bZ):Prop where
 len:σ.length=σ3.length
 at':∀(i:Nat) (p:PV),σ3[i]?=some (some p)->∃v,σ[i]?=some (some v)/\Rep K H v p
theorem JR.mono{K:Vo}{H H':Hp}{σ:St}{σ3:bZ}(r:JR K H σ σ3)(g:Grow K H H'):JR K H' σ σ3:=⟨r.len,λi p e=>let ⟨v,h,q⟩:=r.at' i p e;⟨v,h,q.mono g⟩⟩
theorem JR.set{K:Vo}{H:Hp}{σ:St}{σ3:bZ}(r:JR K H σ σ3){v:V}{p:PV}(q:Rep K H v p)(i:Nat):JR K H (σ.set i (some v)) (σ3.set i (some p)):=by
 refine⟨by rw[Wq,Wq,r.len],λj x e=>?_⟩
 rw[Xa]at e ⊢
 split at e
 .rename_i hij
  rw[if_pos hij]
  subst hij
  split at e
  .rename_i hl
   cases e
   rw[if_pos (by rw[r.len];exact hl)]
   exact⟨v,rfl,q⟩
  .cases e
 .rename_i hij
  rw[if_neg hij]
  exact r.at' j x e
abbrev bP:=PV->aq->Prop
abbrev cq:=PV->bZ->aq->Prop
abbrev aO:=bZ->aq->bP->cq->Prop
abbrev iw:=bZ->aq->(Bool->aq->Prop)->cq->Prop
abbrev Jl:=bZ->aq->(List PV->aq->Prop)->cq->Prop
structure ix where
 nx:bZ->aq->Prop
 rt:bP
 ex:cq
 bk:bZ->aq->Prop:=λ_ _=>False
 ct:bZ->aq->Prop:=λ_ _=>False
abbrev bB:=ix->bZ->aq->Prop
def NX(X:Cx)(H:Hp)(E:cq):Prop:=∀(c:Str)(ks:Vs)(ps:List PV)(σ3:bZ)(S':aq)(H':Hp)(pins:Va)(σ:St)(s':Shared)(a C dx:Addr)(od:Obj)(vs:List V),E (.exc c ks ps) σ3 S'->Kl X.K c C->vs.length=ks.length->
 H' dx=some (.frz od (.ext (XD dx (ks.zip vs))))->Reps X.K H' vs ps->JM X.K H' S'->JR X.K H' σ σ3->Grow X.K H H'->Inv X pins σ H' s'->N8 X pins H' s'.heap a C dx->X.xe (.ref a) s'
def NX.mono{X:Cx}{H H':Hp}{E:cq}(x:NX X H E)(g:Grow X.K H H'):NX X H' E:=λc ks ps σ3 S' H2 pins σ s' a C dx od vs h1 h2 h3 h4 h5 h6 h7 h8 h9 Tx=>x c ks ps σ3 S' H2 pins σ s' a C dx od vs h1 h2 h3 h4 h5 h6 h7 (g.trans h8) h9 Tx
def NF(K:Vo)(H:Hp)(Q3:bP)(Q:VK):Prop:=∀p S' v H',Q3 p S'->Rep K H' v p->JM K H' S'->Grow K H H'->Q v H'
def NF.mono{K:Vo}{H H':Hp}{Q3:bP}{Q:VK}(r:NF K H Q3 Q)(g:Grow K H H'):NF K H' Q3 Q:=λp S' v H2 h1 h2 h3 h4=>r p S' v H2 h1 h2 h3 (g.trans h4)
def OG(K:Vo)(H:Hp)(N3:bZ->aq->Prop)(N:St->Hp->Prop):Prop:=∀σ3 S' σ H',N3 σ3 S'->JR K H' σ σ3->JM K H' S'->Grow K H H'->N σ H'
def OG.mono{K:Vo}{H H':Hp}{Q3:bZ->aq->Prop}{Q:St->Hp->Prop}(r:OG K H Q3 Q)(g:Grow K H H'):OG K H' Q3 Q:=λp S' v H2 h1 h2 h3 h4=>r p S' v H2 h1 h2 h3 (g.trans h4)
inductive LE(X:Cx)(t:aO)(σ:L2.St)(H:Hp)(Q:VK):Prop
 |mk (σ3 S Q3 E3) (rσ:JR X.K H σ σ3) (rS:JM X.K H S) (h:t σ3 S Q3 E3) (xo:NX X H E3) (k:NF X.K H Q3 Q):LE X t σ H Q
inductive LT(X:Cx)(t:iw)(σ:L2.St)(H:Hp)(Q:Bool->Hp->Prop):Prop
 |mk (σ3 S Q3 E3) (rσ:JR X.K H σ σ3) (rS:JM X.K H S) (h:t σ3 S Q3 E3) (xo:NX X H E3) (k:∀b S' H',Q3 b S'->JM X.K H' S'->Grow X.K H H'->Q b H'):LT X t σ H Q
inductive LS(X:Cx)(t:bB)(D:ik)(σ:L2.St)(H:Hp):Prop
 |mk (σ3 S D3) (rσ:JR X.K H σ σ3) (rS:JM X.K H S) (h:t D3 σ3 S) (xo:NX X H D3.ex) (nx:OG X.K H D3.nx D.nx) (rt:NF X.K H D3.rt D.rt) (bk:OG X.K H D3.bk D.bk) (ct:OG X.K H D3.ct D.ct):LS X t D σ H
structure aY(X:Cx)(e:Expr)(t:aO):Prop where
 ok:PE X e (LE X t)
structure pp(X:Cx)(e:Expr)(t:iw):Prop where
 ok:PT X e (LT X t)
structure Do(X:Cx)(e:Expr)(t:iw):Prop where
 ok:PW X e (LT X t)
structure ml(X:Cx)(st:Stmt)(t:bB):Prop where
 ok:PS X st (LS X t)
structure eB(X:Cx)(st:List Stmt)(t:bB):Prop where
 ok:Mk X st (LS X t)
def aK{X:Cx}{e:Expr}{t t':TE}(h:PE X e t)(k:∀σ H Q,t' σ H Q->t σ H Q):PE X e t':=λpins s σ H Q I q=>h pins s σ H Q I (k σ H Q q)
def kI{X:Cx}{e:Expr}{t t':TT}(h:PT X e t)(k:∀σ H Q,t' σ H Q->t σ H Q):PT X e t':=λpins s σ H Q I q=>h pins s σ H Q I (k σ H Q q)
def wn{X:Cx}{e:Expr}{t t':TT}(h:PW X e t)(k:∀σ H Q,t' σ H Q->t σ H Q):PW X e t':=λwh pins s σ H Q I q=>h wh pins s σ H Q I (k σ H Q q)
def b7{X:Cx}{e:Stmt}{t t':TS}(h:PS X e t)(k:∀D σ H,t' D σ H->t D σ H):PS X e t':=λpins s σ H D I q=>h pins s σ H D I (k D σ H q)
def su{X:Cx}{e:List Stmt}{t t':TS}(h:Mk X e t)(k:∀D σ H,t' D σ H->t D σ H):Mk X e t':=λpins s σ H D I q=>h pins s σ H D I (k D σ H q)
section
variable {X:Cx}{a b c e o:Expr}{es:List Expr}{ta tb tc te:aO}{pos:Pos}
def v3(i:Nat):aO:=λσ S Q _=>match lk σ i with|some p=>Q p S|none=>False
def ah(i:Nat){x:Str}(hN:X.N[i]?=some x:=by rfl)(hv:Fk X.env.scope x:=by walk_at "c")(hd:(x == ("__debug__":Str))=false:=by decide)
  (hcd:(x == ("__classdict__":Str))=false:=by decide):aY X (.Name x pos) (v3 i):=
 ⟨aK (vg hN hv hd hcd) λσ H Q ⟨σ3,S,Q3,E3,rσ,rS,h,xo,k⟩=>by
  unfold v3 at h
  split at h
  .rename_i p e
   obtain⟨v,ev,rv⟩:=rσ.at' i p (wm e)
   exact⟨v,ev,k p S v H h rv rS .refl⟩
  .exact h.elim⟩
def c3(p:PV):aO:=λ_ S Q _=>Q p S
def ad{i:Int}{j:Nat}:aY X (.Constant (.int i) j pos) (c3 (.int i)):=⟨aK Cq λσ H Q ⟨σ3,S,Q3,E3,rσ,rS,h,xo,k⟩=>k _ S _ H h (.int i) rS .refl⟩
def Ad{i:Bool}{j:Nat}:aY X (.Constant (.bool i) j pos) (c3 (.bl i)):=⟨aK Fl λσ H Q ⟨σ3,S,Q3,E3,rσ,rS,h,xo,k⟩=>k _ S _ H h (.bl i) rS .refl⟩
def ag{i:Str}{j:Nat}:aY X (.Constant (.str i) j pos) (c3 (.str i)):=⟨aK Cs λσ H Q ⟨σ3,S,Q3,E3,rσ,rS,h,xo,k⟩=>k _ S _ H h (.str i) rS .refl⟩
def b9{j:Nat}:aY X (.Constant .none j pos) (c3 .non):=⟨aK Cr λσ H Q ⟨σ3,S,Q3,E3,rσ,rS,h,xo,k⟩=>k _ S _ H h .non rS .refl⟩
def HS{x:Str}{n:String}(hg:Gl X x)(hm:X.mg x=none)(hv:bootBuiltins x=some (.type n))(hn:x ≠ "__name__":=by decide)(hd:(x == ("__debug__":Str))=false:=by decide):aY X (.Name x pos) (c3 (.ty n)):=
 ⟨aK (zq (v:=.ty n) hg hm hv rfl hn hd) λσ H Q ⟨σ3,S,Q3,E3,rσ,rS,h,xo,k⟩=>k _ S _ H h (.ty n) rS .refl⟩
def Dp{x z:Str}{t:Tok}(hg:Gl X x)(hm:X.mg x=some (.str z t))(hd:(x == ("__debug__":Str))=false:=by decide):aY X (.Name x pos) (c3 (.str z)):=
 ⟨aK (il (v:=.str z) hg hm ⟨t,rfl⟩ hd) λσ H Q ⟨σ3,S,Q3,E3,rσ,rS,h,xo,k⟩=>k _ S _ H h (.str z) rS .refl⟩
noncomputable def al:List aO->Jl
 |[],_,S,Q,_=>Q [] S
 |t::ts,σ,S,Q,E=>t σ S (λx S1=>al ts σ S1 (λxs S2=>Q (x::xs) S2) E) E
noncomputable def G9:List TE->TA
 |[]=>CP
 |t::ts=>BE t (G9 ts)
structure jG(X:Cx)(es:List Expr)(ts:List aO):Prop where
 ok:PA X es (G9 (ts.map (LE X)))
def jH:jG X [] []:=⟨CQ⟩
def wo{ts:List aO}(hs:starEach (e::es) X.env=(false,eval e X.env)::starEach es X.env)(ha:aY X e te)(hr:jG X es ts):jG X (e::es) (te::ts):=⟨zF ha.ok hr.ok hs⟩
theorem bQ:∀{ts:List aO}{σ:L2.St}{H:Hp}{Q:List V->Hp->Prop}{σ3:bZ}{S:aq}{Q3:List PV->aq->Prop}{E3:cq},JR X.K H σ σ3->JM X.K H S->al ts σ3 S Q3 E3->NX X H E3->
  (∀ps S' vs H',ps.length=ts.length->Q3 ps S'->Reps X.K H' vs ps->JM X.K H' S'->Grow X.K H H'->Q vs H')->G9 (ts.map (LE X)) σ H Q
 |[],σ,H,Q,σ3,S,Q3,E3,rσ,rS,h,xo,k=>k [] S [] H rfl h .nil rS .refl
 |t::ts,σ,H,Q,σ3,S,Q3,E3,rσ,rS,h,xo,k=>
  ⟨σ3,S,_,E3,rσ,rS,h,xo,λp S1 v H1 h1 rv JT g1=>bQ (rσ.mono g1) JT h1 (xo.mono g1) λps S2 vs H2 hl h2 Ro KY g2=>k (p::ps) S2 (v::vs) H2 (by rw[UQ,UQ,hl]) h2 (.cons (rv.mono g2) Ro) KY (g1.trans g2)⟩
def bG(ts:List aO):aO:=λσ S Q E=>al ts σ S (λxs S1=>Q (.tup xs) S1) E
def bK{ts:List aO}{x1:Nat}(h:jG X es ts)(hn:ts.length<=1000:=by exact V3 rfl):aY X (.Tuple es x1 pos) (bG ts):=
 ⟨aK (CS h.ok) λσ H Q ⟨σ3,S,Q3,E3,rσ,rS,hq,xo,k⟩=>bQ rσ rS hq xo λps S' vs H' hl q rv KE g=>
  ⟨Xi (d0 (by rw[rv.length,hl];exact hn)),λp hp=>k _ S' _ _ q (.tup (SqT.of au) (rv.mono (.new hp))) (KE.other hp) (g.trans (.new hp))⟩⟩
def aS(ts:List aO):aO:=λσ S Q E=>al ts σ S (λxs S1=>∀p,S1 p=none->Q (.ref p) (JH S1 p (.lst xs))) E
def bb{ts:List aO}(h:jG X es ts)(hn:ts.length<=1000:=by exact V3 rfl):aY X (.List es pos) (aS ts):=
 ⟨aK (CT h.ok) λσ H Q ⟨σ3,S,Q3,E3,rσ,rS,hq,xo,k⟩=>bQ rσ rS hq xo λps S' vs H' hl q rv KE g=>
  ⟨Xi (d0 (by rw[rv.length,hl];exact hn)),λp hp=>k _ _ _ _ (q p (KE.free hp)) (.ref p) (KE.new hp ⟨vs,au,rv.mono (.new hp)⟩) (g.trans (.new hp))⟩⟩
abbrev R3:=PV->PV->aq->bP->Prop
inductive LR(X:Cx)(r:R3)(x y:V)(H:Hp)(Q:VK):Prop
 |mk (px py S Q3) (rx:Rep X.K H x px) (ry:Rep X.K H y py) (rS:JM X.K H S) (h:r px py S Q3) (k:NF X.K H Q3 Q):LR X r x y H Q
structure ic(X:Cx)(f:Value->Value->Sem Value)(r:R3):Prop where
 ok:gi X f (LR X r)
def am(r:R3)(ta tb:aO):aO:=λσ S Q E=>ta σ S (λx S1=>tb σ S1 (λy S2=>r x y S2 Q) E) E
def j7{r:R3}{σ:L2.St}{H:Hp}{Q:VK}:LE X (am r ta tb) σ H Q->Fx (LR X r) (LE X ta) (LE X tb) σ H Q:=λ⟨σ3,S,Q3,E3,rσ,rS,h,xo,k⟩=>
 ⟨σ3,S,_,E3,rσ,rS,h,xo,λx S1 v H1 h1 rx JT g1=>⟨σ3,S1,_,E3,rσ.mono g1,JT,h1,xo.mono g1,λy S2 u H2 h2 ry KY g2=>⟨x,y,S2,Q3,rx.mono g2,ry,KY,h2,k.mono (g1.trans g2)⟩⟩⟩
def aD{op:Operator}{r:R3}(ho:ic X (binaryOp op) r)(ha:aY X a ta)(hb:aY X b tb):aY X (.BinOp a op b pos) (am r ta tb):=⟨aK (Fy ho.ok ha.ok hb.ok) λ_ _ _=>j7⟩
def pq{op:CmpOp}{r:R3}(ho:ic X (compareOp op) r)(ha:aY X a ta)(hb:aY X b tb)(hm:behindInMarks op b=false):aY X (.Compare a [op] [b] pos) (am r ta tb):=⟨aK (zD ho.ok ha.ok hb.ok hm) λ_ _ _=>j7⟩
def aH(t:aO):iw:=λσ S Q E=>t σ S (λv S'=>match v with | .bl k=>Q k S'|_=>False) E
def wq{σ:L2.St}{H:Hp}{Q:Bool->Hp->Prop}:LT X (aH te) σ H Q->LE X te σ H (λx H'=>∃k,x = .bl k/\Q k H'):=λ⟨σ3,S,Q3,E3,rσ,rS,h,xo,k⟩=>
 ⟨σ3,S,_,E3,rσ,rS,h,xo,λp S' v H' h1 rv KE g=>by
  cases p with
  |bl z=>cases rv;exact⟨z,rfl,k z S' H' h1 KE g⟩
  |_=>exact h1.elim⟩
def aZ{op:CmpOp}{r:R3}(ho:ic X (compareOp op) r)(ha:aY X a ta)(hb:aY X b tb)(hm:behindInMarks op b=false):pp X (.Compare a [op] [b] pos) (aH (am r ta tb)):=
 ⟨kI (rZ ho.ok ha.ok hb.ok hm) λσ H Q ⟨σ3,S,Q3,E3,rσ,rS,h,xo,k⟩=>j7 ⟨σ3,S,_,E3,rσ,rS,h,xo,λp S' v H' h1 rv KE g=>by
  cases p with
  |bl z=>cases rv;exact⟨z,rfl,k z S' H' h1 KE g⟩
  |_=>exact h1.elim⟩⟩
def dj(h:aY X e te)(he:∀whole,isTrue e X.env whole=(do let v <-whole;standAt e.pos;holding [v] (truthy v)):=by intro _;rfl):pp X e (aH te):=
 ⟨kI (Ct h.ok he) λσ H Q q=>wq q⟩
end
section
variable {X:Cx}{a b c:Expr}{rest:List Expr}{ta tb te:aO}{tA tB:iw}{pos:Pos}
def kJ(t u:iw):iw:=λσ S Q E=>t σ S (λc S1=>if c=true then u σ S1 Q E else Q false S1) E
def fc(t u:iw):iw:=λσ S Q E=>t σ S (λc S1=>if c=true then Q true S1 else u σ S1 Q E) E
def eZ(t:iw):iw:=λσ S Q E=>t σ S (λc S1=>Q (!c) S1) E
def i7(ha:pp X a tA):Do X (.BoolOp .And [a] pos) tA:=⟨zr ha.ok⟩
def cE(ha:pp X a tA):Do X (.BoolOp .Or [a] pos) tA:=⟨Cu ha.ok⟩
def mm(ha:pp X a tA)(hb:Do X (.BoolOp .And (b::rest) pos) tB):Do X (.BoolOp .And (a::b::rest) pos) (kJ tA tB):=
 ⟨wn (Cv ha.ok hb.ok) λσ H Q ⟨σ3,S,Q3,E3,rσ,rS,h,xo,k⟩=>⟨σ3,S,_,E3,rσ,rS,h,xo,λc S1 H1 h1 JT g1=>by
  cases c with
  |true=>rw[if_pos rfl]at h1 ⊢;exact⟨σ3,S1,Q3,E3,rσ.mono g1,JT,h1,xo.mono g1,λb S2 H2 h2 KY g2=>k b S2 H2 h2 KY (g1.trans g2)⟩
  |false=>rw[if_neg (by decide)]at h1 ⊢;exact k false S1 H1 h1 JT g1⟩⟩
def cY(ha:pp X a tA)(hb:Do X (.BoolOp .Or (b::rest) pos) tB):Do X (.BoolOp .Or (a::b::rest) pos) (fc tA tB):=
 ⟨wn (Fm ha.ok hb.ok) λσ H Q ⟨σ3,S,Q3,E3,rσ,rS,h,xo,k⟩=>⟨σ3,S,_,E3,rσ,rS,h,xo,λc S1 H1 h1 JT g1=>by
  cases c with
  |true=>rw[if_pos rfl]at h1 ⊢;exact k true S1 H1 h1 JT g1
  |false=>rw[if_neg (by decide)]at h1 ⊢;exact⟨σ3,S1,Q3,E3,rσ.mono g1,JT,h1,xo.mono g1,λb S2 H2 h2 KY g2=>k b S2 H2 h2 KY (g1.trans g2)⟩⟩⟩
def kK(h:Do X a tA):pp X a tA:=⟨h.ok.pt⟩
def iy(ha:pp X a tA):pp X (.UnaryOp .Not a pos) (eZ tA):=
 ⟨kI (Cw ha.ok) λσ H Q ⟨σ3,S,Q3,E3,rσ,rS,h,xo,k⟩=>⟨σ3,S,_,E3,rσ,rS,h,xo,λc S1 H1 h1 JT g1=>k (!c) S1 H1 h1 JT g1⟩⟩
def mn(t u:aO):aO:=λσ S Q E=>t σ S (λv S1=>match v with | .bl c=>if c=true then u σ S1 Q E else Q (.bl false) S1|_=>False) E
def FV{op:BoolOp}(h:aY X a ta):aY X (.BoolOp op [a] pos) ta:=⟨Cy h.ok⟩
def FW(ha:aY X a ta)(hb:aY X (.BoolOp .And (b::rest) pos) tb):aY X (.BoolOp .And (a::b::rest) pos) (mn ta tb):=
 ⟨aK (Cz ha.ok hb.ok) λσ H Q ⟨σ3,S,Q3,E3,rσ,rS,h,xo,k⟩=>⟨σ3,S,_,E3,rσ,rS,h,xo,λp S1 v H1 h1 rv JT g1=>by
  cases p with
  |bl z=>
   cases rv
   refine⟨z,rfl,?_⟩
   cases z with
   |true=>rw[if_pos rfl];exact⟨σ3,S1,Q3,E3,rσ.mono g1,JT,h1,xo.mono g1,k.mono g1⟩
   |false=>rw[if_neg (by decide)];exact k _ S1 _ H1 h1 (.bl false) JT g1
  |_=>exact h1.elim⟩⟩
def ut(t:iw)(ta tb:aO):aO:=λσ S Q E=>t σ S (λc S1=>if c=true then ta σ S1 Q E else tb σ S1 Q E) E
def BM(hc:pp X c tA)(ha:aY X a ta)(hb:aY X b tb):aY X (.IfExp c a b pos) (ut tA ta tb):=
 ⟨aK (vh hc.ok ha.ok hb.ok) λσ H Q ⟨σ3,S,Q3,E3,rσ,rS,h,xo,k⟩=>⟨σ3,S,_,E3,rσ,rS,h,xo,λc S1 H1 h1 JT g1=>by
  cases c with
  |true=>rw[if_pos rfl]at h1 ⊢;exact⟨σ3,S1,Q3,E3,rσ.mono g1,JT,h1,xo.mono g1,k.mono g1⟩
  |false=>rw[if_neg (by decide)]at h1 ⊢;exact⟨σ3,S1,Q3,E3,rσ.mono g1,JT,h1,xo.mono g1,k.mono g1⟩⟩⟩
abbrev FX:=PV->aq->bP->Prop
noncomputable def Jm(X:Cx)(r:FX):V->Hp->VK->Prop:=λx H Q=>∃px S Q3,Rep X.K H x px/\JM X.K H S/\r px S Q3/\NF X.K H Q3 Q
structure IQ(X:Cx)(f:Value->Sem Value)(r:FX):Prop where
 ok:G5 X f (Jm X r)
def u5(r:FX)(ta:aO):aO:=λσ S Q E=>ta σ S (λx S1=>r x S1 Q) E
def uu{op:UnaryOp}{r:FX}(ho:IQ X (unaryOp op) r)(ha:aY X a ta):aY X (.UnaryOp op a pos) (u5 r ta):=
 ⟨aK (Fz ho.ok ha.ok) λσ H Q ⟨σ3,S,Q3,E3,rσ,rS,h,xo,k⟩=>⟨σ3,S,_,E3,rσ,rS,h,xo,λp S1 v H1 h1 rv JT g1=>⟨p,S1,Q3,rv,JT,h1,k.mono g1⟩⟩⟩
noncomputable def jZ:FX:=λx S Q=>match x with | .int i=>Q (.int (-i)) S|_=>False
def i8:IQ X (unaryOp .USub) jZ:=⟨λpins s σ H x v Q I rx ⟨px,S,Q3,r1,rS,h,k⟩=>by
 cases px with
 |int i=>cases r1;exact CN pins s σ H _ v Q I rx ⟨i,rfl,k _ S _ H h (.int _) rS .refl⟩
 |_=>exact h.elim⟩
end
section
variable {X:Cx}
def e9(g:Int->Int->PV):R3:=λx y S Q=>match x,y with | .int i,.int j=>Q (g i j) S|_,_=>False
def gK(C:Int->Int->Prop)(g:Int->Int->PV):R3:=λx y S Q=>match x,y with | .int i,.int j=>C i j/\Q (g i j) S|_,_=>False
def Dq{f:Value->Value->Sem Value}{g:Int->Int->Int}(h:gi X f (zy λi j=>.int (g i j))):ic X f (e9 λi j=>.int (g i j)):=⟨λpins s σ H x y v u Q I rx ry ⟨px,py,S,Q3,r1,r2,rS,q,k⟩=>by
 cases px with
 |int i=>
  cases py with
  |int j=>cases r1;cases r2;exact h pins s σ H _ _ v u Q I rx ry ⟨i,j,rfl,rfl,k _ S _ H q (.int _) rS .refl⟩
  |_=>exact q.elim
 |_=>exact q.elim⟩
def nk{f:Value->Value->Sem Value}{g:Int->Int->Bool}(h:gi X f (zy λi j=>.bl (g i j))):ic X f (e9 λi j=>.bl (g i j)):=⟨λpins s σ H x y v u Q I rx ry ⟨px,py,S,Q3,r1,r2,rS,q,k⟩=>by
 cases px with
 |int i=>
  cases py with
  |int j=>cases r1;cases r2;exact h pins s σ H _ _ v u Q I rx ry ⟨i,j,rfl,rfl,k _ S _ H q (.bl _) rS .refl⟩
  |_=>exact q.elim
 |_=>exact q.elim⟩
def nn{f:Value->Value->Sem Value}{C:Int->Int->Prop}{g:Int->Int->Int}(h:gi X f (rI C λi j=>.int (g i j))):ic X f (gK C λi j=>.int (g i j)):=⟨λpins s σ H x y v u Q I rx ry ⟨px,py,S,Q3,r1,r2,rS,q,k⟩=>by
 cases px with
 |int i=>
  cases py with
  |int j=>cases r1;cases r2;exact h pins s σ H _ _ v u Q I rx ry ⟨i,j,rfl,rfl,q.1,k _ S _ H q.2 (.int _) rS .refl⟩
  |_=>exact q.elim
 |_=>exact q.elim⟩
def pr(i j:Int):Prop:=j≠0/\j.natAbs < 2 ^ 8000
def qM{n:Nat}(h:n < 2 ^ 8000):n.log2 < 9000:=by
 by_cases z:n=0
 .rw[z];decide +kernel
 .exact Xk ((Nat.log2_lt z).mpr h) (by decide)
def Dr:ic X (binaryOp .Sub) (e9 λi j=>.int (i - j)):=Dq CL
def Ds:ic X (binaryOp .Mod) (gK (λ_ j=>j≠0) λi j=>.int (i.fmod j)):=nn zB
def Ae:ic X (binaryOp .FloorDiv) (gK pr λi j=>.int (i.fdiv j)):=nn (G6 λ_ _ _ _ _ _ _ hc q=>PyProof.Rows.floordiv_int hc.1 q (.inl (PyProof.noPylong_of_log2 (qM hc.2))))
def Dt:ic X (binaryOp .Pow) (gK zA λi j=>.int (i ^ j.toNat)):=nn CM
def FY:ic X (compareOp .Lt) (e9 λi j=>.bl (decide (i < j))):=nk FC
def FZ:ic X (compareOp .Gt) (e9 λi j=>.bl (decide (j < i))):=nk FD
def F1:ic X (compareOp .GtE) (e9 λi j=>.bl (decide (j<=i))):=nk FE
end
end L3
namespace L2
open PySem PySem.Spec PyProof.Rows
section
variable {X:Cx}
def F2(K:Vo):R2:=λx y H Q=>∃a b xs ys,x = .ref a/\y = .ref b/\SqT K H a xs/\SqT K H b ys/\xs.length+ys.length<=sizeLine/\∀r H',(∀c o,H c=some o->H' c=some o)->SqT K H' r (xs++ys)->Q (.ref r) H'
def Af:gi X (binaryOp .Add) (F2 X.K):=by
 walk_at "3"
 obtain⟨a,b,xs,ys,rfl,rfl,ha,hb,hz,q⟩:=h
 by_cases hx:xs=[]
 .subst hx
  cases rx
  cases ry
  obtain⟨its,r1,p1,_⟩:=I.tuple ha
  obtain⟨its2,r2,p2,_⟩:=I.tuple hb
  cases r1
  obtain⟨⟨cls,dd,data,sl⟩,ho,hc,n,hd⟩:=id p1
  obtain⟨⟨Q9,dd2,data2,sl2⟩,ho2,hc2,n2,hd2⟩:=id p2
  simp only at hc hd hc2 hd2
  subst hc hd hc2 hd2
  exact concat_meets ⟨_,ho,rfl⟩ ⟨_,ho2,rfl⟩ noFill_tuple_add seq_tuple_add XM XH (Xv _ _)
   (tuple_addW0 a b _ its2.toArray n n2 dd dd2 sl sl2 rfl) ⟨ho,ho2,⟨.ref b,H,I,rfl,q b H (λ_ _ e=>e) hb⟩⟩
 .exact zL pins s σ H _ _ v u Q I rx ry ⟨a,b,xs,ys,rfl,rfl,ha,hb,hx,hz,λe=>q a H (λ_ _ e=>e) (by rw[e,Vp];exact ha),
   λ_ p hp=>q p _ (λc o e=>by rw[aw (aV e hp)];exact e) (SqT.of au)⟩
end
end L2
namespace L3
open PySem L2
section
variable {X:Cx}
def aG:R3:=λx y S Q=>match x,y with
 | .int i,.int j=>Q (.int (i+j)) S
 | .str i,.str j=>i.length+j.length<=sizeLine/\Q (.str (i++j)) S
 | .tup i,.tup j=>i.length+j.length<=sizeLine/\Q (.tup (i++j)) S
 | .ref i,.ref j=>match S i,S j with
  |some (.lst xs),some (.lst ys)=>xs.length+ys.length<=sizeLine/\∀p,S p=none->Q (.ref p) (JH S p (.lst (xs++ys)))
  |_,_=>False
 |_,_=>False
def ay:ic X (binaryOp .Add) aG:=⟨λpins s σ H x y v u Q I rx ry ⟨px,py,S,Q3,r1,r2,rS,q,k⟩=>by
 unfold aG at q
 split at q
 .cases r1;cases r2
  exact CK pins s σ H _ _ v u Q I rx ry ⟨_,_,rfl,rfl,k _ S _ H q (.int _) rS .refl⟩
 .cases r1;cases r2
  exact qx pins s σ H _ _ v u Q I rx ry ⟨_,_,rfl,rfl,q.1,k _ S _ H q.2 (.str _) rS .refl⟩
 .cases r1 with
  |tup h1 s1=>
   cases r2 with
   |tup h2 s2=>
    refine Af pins s σ H _ _ v u Q I rx ry ⟨_,_,_,_,rfl,rfl,h1,h2,by rw[s1.length,s2.length];exact q.1,λr H' hs hr=>?_⟩
    exact k _ S _ H' q.2 (.tup hr ((s1.mono (.same hs)).append (s2.mono (.same hs)))) (rS.grow hs) (.same hs)
 .cases r1;cases r2
  split at q
  .rename_i i j xs ys e1 e2
   obtain⟨vs,h1,s1⟩:=rS _ _ e1
   obtain⟨us,h2,s2⟩:=rS _ _ e2
   exact C6 pins s σ H _ _ v u Q I rx ry ⟨_,_,_,_,rfl,rfl,h1,h2,by rw[s1.length,s2.length];exact q.1,λp hp=>k _ _ _ _ (q.2 p (rS.free hp)) (.ref p) (rS.new hp ⟨_,au,(s1.append s2).mono (.new hp)⟩) (.new hp)⟩
  .exact q.elim
 .exact q.elim⟩
end
mutual
inductive Dat(S:aq):PV->PyData->Prop
 |non:Dat S .non .none
 |bl (b:Bool):Dat S (.bl b) (.bool b)
 |int (i:Int):Dat S (.int i) (.int i)
 |str (x:Str):Dat S (.str x) (.str x)
 |tup {ps:List PV} {ds:List PyData}:KZ S ps ds->Dat S (.tup ps) (.tuple ds)
 |cl {ps:List PV} {ds:List PyData}:KZ S ps ds->Dat S (.cl ps) (.list ds)
 |ref {a:Addr} {ps:List PV} {ds:List PyData}:S a=some (.lst ps)->KZ S ps ds->Dat S (.ref a) (.list ds)
inductive KZ(S:aq):List PV->List PyData->Prop
 |nil:KZ S [] []
 |cons {p:PV} {d:PyData} {ps:List PV} {ds:List PyData}:Dat S p d->KZ S ps ds->KZ S (p::ps) (d::ds)
end
section
variable {X:Cx}{pins:Va}{σ:L2.St}{H:Hp}{s:Shared}{S:aq}
def qN(I:Inv X pins σ H s)(rS:JM X.K H S):(∀{p:PV}{d:PyData},Dat S p d->∀{v:V}{u:Value},Rep X.K H v p->RelV v u->∃as,Reads s.heap u d as)/\∀{ps:List PV}{ds:List PyData},KZ S ps ds->∀{vs:List V}{us:Vv},Reps X.K H vs ps->Vals vs us->∃as,ReadsAll s.heap us ds as:=by
 have one:=@Dat.rec S (motive_1:=λp d _=>∀{v:V}{u:Value},Rep X.K H v p->RelV v u->∃as,Reads s.heap u d as) (motive_2:=λps ds _=>∀{vs:List V}{us:Vv},Reps X.K H vs ps->Vals vs us->∃as,ReadsAll s.heap us ds as)
 have two:=@KZ.rec S (motive_1:=λp d _=>∀{v:V}{u:Value},Rep X.K H v p->RelV v u->∃as,Reads s.heap u d as) (motive_2:=λps ds _=>∀{vs:List V}{us:Vv},Reps X.K H vs ps->Vals vs us->∃as,ReadsAll s.heap us ds as)
 have c1:∀{v:V}{u:Value},Rep X.K H v .non->RelV v u->∃as,Reads s.heap u .none as:=λh r=>by cases h;cases r;exact⟨_,.none⟩
 have c2:∀(b:Bool){v:V}{u:Value},Rep X.K H v (.bl b)->RelV v u->∃as,Reads s.heap u (.bool b) as:=λb _ _ h r=>by cases h;cases r;exact⟨_,.bool b⟩
 have c3:∀(i:Int){v:V}{u:Value},Rep X.K H v (.int i)->RelV v u->∃as,Reads s.heap u (.int i) as:=λi _ _ h r=>by cases h;obtain⟨t,rfl⟩:=r;exact⟨_,.int i t⟩
 have c4:∀(x:Str){v:V}{u:Value},Rep X.K H v (.str x)->RelV v u->∃as,Reads s.heap u (.str x) as:=λx _ _ h r=>by cases h;obtain⟨t,rfl⟩:=r;exact⟨_,.str x t⟩
 have c5:∀{ps:List PV}{ds:List PyData},KZ S ps ds->(∀{vs:List V}{us:Vv},Reps X.K H vs ps->Vals vs us->∃as,ReadsAll s.heap us ds as)->∀{v:V}{u:Value},Rep X.K H v (.tup ps)->RelV v u->∃as,Reads s.heap u (.tuple ds) as:=λ_ ih _ _ h r=>by
  cases h with
  |tup h rs=>
   cases r
   obtain⟨its,rv,⟨o,ho,hc,n,hd⟩,hz⟩:=I.tuple h
   obtain⟨as,q⟩:=ih rs rv
   exact⟨as,.tuple ho hc hd (by simpa using q)⟩
 have c6:∀{ps:List PV}{ds:List PyData},KZ S ps ds->(∀{vs:List V}{us:Vv},Reps X.K H vs ps->Vals vs us->∃as,ReadsAll s.heap us ds as)->∀{v:V}{u:Value},Rep X.K H v (.cl ps)->RelV v u->∃as,Reads s.heap u (.list ds) as:=λ_ ih _ _ h r=>by
  cases h with
  |cl h rs=>
   cases r
   obtain⟨its,rv,⟨o,n,ho,hc,_,hd⟩,hz⟩:=I.list h.sq
   obtain⟨as,q⟩:=ih rs rv
   exact⟨_,.list ho hc hd (by simpa using q)⟩
 have c7:∀{a:Addr}{ps:List PV}{ds:List PyData},S a=some (.lst ps)->KZ S ps ds->(∀{vs:List V}{us:Vv},Reps X.K H vs ps->Vals vs us->∃as,ReadsAll s.heap us ds as)->∀{v:V}{u:Value},Rep X.K H v (.ref a)->RelV v u->∃as,Reads s.heap u (.list ds) as:=λe _ ih _ _ h r=>by
  cases h
  cases r
  obtain⟨vs,hv,rs⟩:=rS _ _ e
  obtain⟨its,rv,⟨o,n,ho,hc,_,hd⟩,hz⟩:=I.list (SqL.of hv)
  obtain⟨as,q⟩:=ih rs rv
  exact⟨_,.list ho hc hd (by simpa using q)⟩
 have c8:∀{vs:List V}{us:Vv},Reps X.K H vs []->Vals vs us->∃as,ReadsAll s.heap us [] as:=λh r=>by cases h;cases r;exact⟨_,.nil⟩
 have c9:∀{p:PV}{d:PyData}{ps:List PV}{ds:List PyData},Dat S p d->KZ S ps ds->(∀{v:V}{u:Value},Rep X.K H v p->RelV v u->∃as,Reads s.heap u d as)->(∀{vs:List V}{us:Vv},Reps X.K H vs ps->Vals vs us->∃as,ReadsAll s.heap us ds as)->∀{vs:List V}{us:Vv},Reps X.K H vs (p::ps)->Vals vs us->∃as,ReadsAll s.heap us (d::ds) as:=λ_ _ i1 i2 _ _ h r=>by
  cases h with
  |cons a rs=>
   cases r with
   |cons r1 r2=>
    obtain⟨as,q⟩:=i1 a r1
    obtain⟨bs,q2⟩:=i2 rs r2
    exact⟨_,.cons q q2⟩
 exact⟨λh=>one c1 c2 c3 c4 c5 c6 c7 c8 c9 h,λh=>two c1 c2 c3 c4 c5 c6 c7 c8 c9 h⟩
def Dat.reads(I:Inv X pins σ H s)(rS:JM X.K H S){p:PV}{d:PyData}{v:V}{u:Value}(h:Dat S p d)(r:Rep X.K H v p)(r2:RelV v u):∃as,Reads s.heap u d as:=(qN I rS).1 h r r2
end
section
variable {X:Cx}
def bo(neg:Bool):R3:=λx y S Q=>match x,y with
 | .int i,.int j=>Q (.bl (neg != decide (i=j))) S
 | .str i,.str j=>Q (.bl (neg != decide (i=j))) S
 | .bl i,.bl j=>Q (.bl (neg != decide (i=j))) S
 |x,y=>∃d d',Dat S x d/\Dat S y d'/\d.canLay0=true/\d'.canLay0=true/\min d.depth d'.depth<=150/\Q (.bl (neg != PyData.eqv d d')) S
def BN(hu:X.A.units+150 < cLine):ic X (compareOp .Eq) (bo false):=⟨λpins s σ H x y v u Q I rx ry ⟨px,py,S,Q3,r1,r2,rS,q,k⟩=>by
 unfold bo at q
 split at q
 .cases r1;cases r2
  exact vo pins s σ H _ _ v u Q I rx ry ⟨rfl,k _ S _ H (by simpa using q) (.bl _) rS .refl⟩
 .cases r1;cases r2
  exact vo pins s σ H _ _ v u Q I rx ry ⟨rfl,k _ S _ H (by simpa using q) (.bl _) rS .refl⟩
 .cases r1;cases r2
  exact vo pins s σ H _ _ v u Q I rx ry ⟨rfl,k _ S _ H (by simpa using q) (.bl _) rS .refl⟩
 .obtain⟨d,d',h1,h2,c1,c2,hd,q⟩:=q
  obtain⟨as,a1⟩:=h1.reads I rS r1 rx
  obtain⟨bs,a2⟩:=h2.reads I rS r2 ry
  exact SeqAt.compareEq_reads a1 a2 c1 c2 (by omega) ⟨.bl _,H,I,rfl,k _ S _ H (by simpa using q) (.bl _) rS .refl⟩⟩
def F3(hu:X.A.units+150 < cLine):ic X (compareOp .NotEq) (bo true):=⟨λpins s σ H x y v u Q I rx ry ⟨px,py,S,Q3,r1,r2,rS,q,k⟩=>by
 unfold bo at q
 split at q
 .cases r1;cases r2
  exact vp pins s σ H _ _ v u Q I rx ry ⟨rfl,k _ S _ H (by simpa using q) (.bl _) rS .refl⟩
 .cases r1;cases r2
  exact vp pins s σ H _ _ v u Q I rx ry ⟨rfl,k _ S _ H (by simpa using q) (.bl _) rS .refl⟩
 .cases r1;cases r2
  exact vp pins s σ H _ _ v u Q I rx ry ⟨rfl,k _ S _ H (by simpa using q) (.bl _) rS .refl⟩
 .obtain⟨d,d',h1,h2,c1,c2,hd,q⟩:=q
  obtain⟨as,a1⟩:=h1.reads I rS r1 rx
  obtain⟨bs,a2⟩:=h2.reads I rS r2 ry
  exact SeqAt.compareNe_reads a1 a2 c1 c2 (by omega) ⟨.bl _,H,I,rfl,k _ S _ H (by simpa using q) (.bl _) rS .refl⟩⟩
def pA(neg:Bool):R3:=λx y S Q=>match y with
 | .non=>Q (.bl (neg != match x with | .non=>true|_=>false)) S
 | .bl true=>match x with | .bl true=>Q (.bl (neg != true)) S|_=>False
 |_=>False
def wt:ic X (compareOp .Is) (pA false):=⟨λpins s σ H x y v u Q I rx ry ⟨px,py,S,Q3,r1,r2,rS,q,k⟩=>by
 unfold pA at q
 split at q
 .cases r2
  refine CO pins s σ H _ _ v u Q I rx ry ⟨rfl,?_⟩
  cases r1<;>exact k _ S _ H (by simpa using q) (.bl _) rS .refl
 .cases r2
  split at q
  .cases r1
   exact Dg pins s σ H _ _ v u Q I rx ry ⟨rfl,rfl,k _ S _ H (by simpa using q) (.bl _) rS .refl⟩
  .exact q.elim
 .exact q.elim⟩
def wu:ic X (compareOp .IsNot) (pA true):=⟨λpins s σ H x y v u Q I rx ry ⟨px,py,S,Q3,r1,r2,rS,q,k⟩=>by
 unfold pA at q
 split at q
 .cases r2
  refine zC pins s σ H _ _ v u Q I rx ry ⟨rfl,?_⟩
  cases r1<;>exact k _ S _ H (by simpa using q) (.bl _) rS .refl
 .cases r2
  split at q
  .cases r1
   exact uk pins s σ H _ _ v u Q I rx ry ⟨rfl,rfl,k _ S _ H (by simpa using q) (.bl _) rS .refl⟩
  .exact q.elim
 .exact q.elim⟩
noncomputable def cJ(S:aq):PV->Option (List PV)
 | .tup xs=>some xs
 | .cl xs=>some xs
 | .ref a=>match S a with|some (.lst xs)=>some xs|_=>none
 |_=>none
def wv{H:Hp}{S:aq}{v:V}{p:PV}{xs:List PV}(rS:JM X.K H S)(r:Rep X.K H v p)(h:cJ S p=some xs):∃a vs,v = .ref a/\(SqL X.K H a vs\/SqT X.K H a vs)/\Reps X.K H vs xs:=by
 unfold cJ at h
 split at h
 .cases h;cases r with|tup h1 rs=>exact⟨_,_,rfl,.inr h1,rs⟩
 .cases h;cases r with|cl h1 rs=>exact⟨_,_,rfl,.inl h1.sq,rs⟩
 .cases r
  split at h
  .rename_i e
   cases h
   obtain⟨vs,hv,rs⟩:=rS _ _ e
   exact⟨_,vs,rfl,.inl (SqL.of hv),rs⟩
  .cases h
 .cases h
noncomputable def gL(x:PyData)(xs:List PyData):Bool:=xs.any λy=>PyData.eqv y x
def kL(neg:Bool):R3:=λx y S Q=>match x,y with
 | .str i,.str j=>Q (.bl (neg != !(Builtin.Str.occurrences j i 0 j.length 1).isEmpty)) S
 |x,y=>match y with
  | .ref a=>match S a with
   |some (.lst xs)=>∃d ds,Dat S x d/\KZ S xs ds/\d.canLay0=true/\PyData.canLayAll0 ds=true/\d.depth<=150/\Q (.bl (neg != gL d ds)) S
   |some (.dct kvs)=>match x with
    | .str z=>Q (.bl (neg != (kvs.any λkv=>decide (kv.1=Sum.inr z)))) S
    | .int z=>Q (.bl (neg != (kvs.any λkv=>decide (kv.1=Sum.inl z)))) S
    |_=>False
   |_=>False
  | .tup xs=>∃d ds,Dat S x d/\KZ S xs ds/\d.canLay0=true/\PyData.canLayAll0 ds=true/\d.depth<=150/\Q (.bl (neg != gL d ds)) S
  |_=>False
theorem JZ.any{K:Vo}{H:Hp}{κ:Type} [DecidableEq κ](k:κ):∀{vs:List (κ×V)}{ps:List (κ×PV)},JZ K H vs ps->(fj vs k).isSome=ps.any λkv=>decide (kv.1=k)
 |_,_,.nil=>rfl
 |_,_,.cons (k:=k') a r=>by
  rw[W8,<-JZ.any k r]
  by_cases e:k'=k
  .rw[KU e];simp[e]
  .rw[KW e];simp[e]
def mo(hu:X.A.units+160 < cLine):ic X (compareOp .In) (kL false):=⟨λpins s σ H x y v u Q I rx ry ⟨px,py,S,Q3,r1,r2,rS,q,k⟩=>by
 unfold kL at q
 split at q
 .cases r1;cases r2
  exact tV pins s σ H _ _ v u Q I rx ry ⟨_,_,rfl,rfl,k _ S _ H (by simpa using q) (.bl _) rS .refl⟩
 .split at q
  .cases r2
   cases ry
   split at q
   .rename_i xs e
    obtain⟨d,ds,h1,h2,c1,c2,hd,q⟩:=q
    obtain⟨as,a1⟩:=h1.reads I rS r1 rx
    obtain⟨bs,a2⟩:=(Dat.ref e h2).reads I rS (.ref _) (rfl:RelV (.ref _) (.ref _))
    exact SeqAt.in_list_reads a2 a1 c2 c1 (by omega) ⟨.bl _,H,I,rfl,k _ S _ H (by simpa [gL]using q) (.bl _) rS .refl⟩
   .rename_i kvs e
    obtain⟨kv,hv,rk⟩:=rS _ _ e
    split at q
    .cases r1
     exact FN (by omega) I (DGet.k (k:=Sum.inr _) hv) rx λs3 I3=>⟨.bl _,H,I3,rfl,k _ S _ H (by rw[rk.any];simpa using q) (.bl _) rS .refl⟩
    .cases r1
     exact FN (by omega) I (DGet.k (k:=Sum.inl _) hv) rx λs3 I3=>⟨.bl _,H,I3,rfl,k _ S _ H (by rw[rk.any];simpa using q) (.bl _) rS .refl⟩
    .exact q.elim
   .exact q.elim
  .rename_i xs
   obtain⟨d,ds,h1,h2,c1,c2,hd,q⟩:=q
   obtain⟨as,a1⟩:=h1.reads I rS r1 rx
   obtain⟨bs,a2⟩:=(Dat.tup h2).reads I rS r2 ry
   exact SeqAt.in_tuple_reads a2 a1 c2 c1 (by omega) ⟨.bl _,H,I,rfl,k _ S _ H (by simpa [gL]using q) (.bl _) rS .refl⟩
  .exact q.elim⟩
def fo(hu:X.A.units+160 < cLine):ic X (compareOp .NotIn) (kL true):=⟨λpins s σ H x y v u Q I rx ry ⟨px,py,S,Q3,r1,r2,rS,q,k⟩=>by
 unfold kL at q
 split at q
 .cases r1;cases r2
  exact mX pins s σ H _ _ v u Q I rx ry ⟨_,_,rfl,rfl,k _ S _ H (by simpa using q) (.bl _) rS .refl⟩
 .split at q
  .cases r2
   cases ry
   split at q
   .rename_i xs e
    obtain⟨d,ds,h1,h2,c1,c2,hd,q⟩:=q
    obtain⟨as,a1⟩:=h1.reads I rS r1 rx
    obtain⟨bs,a2⟩:=(Dat.ref e h2).reads I rS (.ref _) (rfl:RelV (.ref _) (.ref _))
    exact SeqAt.notIn_list_reads a2 a1 c2 c1 (by omega) ⟨.bl _,H,I,rfl,k _ S _ H (by simpa [gL]using q) (.bl _) rS .refl⟩
   .rename_i kvs e
    obtain⟨kv,hv,rk⟩:=rS _ _ e
    split at q
    .cases r1
     exact sj (by omega) I (DGet.k (k:=Sum.inr _) hv) rx λs3 I3=>⟨.bl _,H,I3,rfl,k _ S _ H (by rw[rk.any];simpa using q) (.bl _) rS .refl⟩
    .cases r1
     exact sj (by omega) I (DGet.k (k:=Sum.inl _) hv) rx λs3 I3=>⟨.bl _,H,I3,rfl,k _ S _ H (by rw[rk.any];simpa using q) (.bl _) rS .refl⟩
    .exact q.elim
   .exact q.elim
  .rename_i xs
   obtain⟨d,ds,h1,h2,c1,c2,hd,q⟩:=q
   obtain⟨as,a1⟩:=h1.reads I rS r1 rx
   obtain⟨bs,a2⟩:=(Dat.tup h2).reads I rS r2 ry
   exact SeqAt.notIn_tuple_reads a2 a1 c2 c1 (by omega) ⟨.bl _,H,I,rfl,k _ S _ H (by simpa [gL]using q) (.bl _) rS .refl⟩
  .exact q.elim⟩
end
end L3
namespace HT
open PySem PySem.Spec PyProof.Rows
section
variable {prog:Program}{w:World}{A:Around}{E:Vq}{s:Shared}
def iz{t sl:Addr}{items:Vw}{vl vu:Value}{lo hi:Option Int}{Q:Vq}(ht:IsTup s.heap t items)(hs:s.heap.IsSliceOf sl vl vu .none)(pl:IsPart vl lo)(pu:IsPart vu hi)
  (hw:JY items.size 0 lo=0/\JY items.size items.size hi=items.size)
  (h:Q (.ref t) s):wpAny (model prog w) A (getItem (.ref t) (.ref sl)) Q E s:=by
 obtain⟨os,hos,hcs,hds⟩:=id hs
 have Q_:s.TypeIs (.ref sl) "slice":=⟨os,hos,hcs⟩
 unfold getItem
 try with_reducible refine We ?_
 first|refine UD (UL ?_)|skip
 refine UD (wpAny_sequenceKey ht.typeIs (by decide) ?_)
 refine UD (Wi (name:=Str.ofString "__getitem__") ht.typeIs VP
  (WW VP ht.typeIs entry_tuple_getitem ?_ (args_tuple_getitem _ _)))
 show wpAny _ _ (Builtin.Tuple.tupleItemsOf (.ref t) >>= _) _ _ s
 refine UD (tupleItemsOf_ ht ?_)
 refine UD (wpAny_typeOf Q_ ?_)
 rw[if_pos (by decide)]
 refine UD (dZ hs pl pu ?_)
 have hyes:(((JY items.size 0 lo:Nat):Int) == 0&&(1:Int) == 1&&(JY items.size items.size hi - JY items.size 0 lo) == items.size)=true:=by
  rw[hw.1,hw.2];simp
 show wpAny _ _ (if (((JY items.size 0 lo:Nat):Int) == 0&&(1:Int) == 1&&(JY items.size items.size hi - JY items.size 0 lo) == items.size)=true then _ else _) _ _ s
 rw[if_pos hyes]
 unfold Builtin.Tuple.tupleIsExact
 refine UD (UD (wpAny_typeOf ht.typeIs (UL ?_)))
 rw[if_pos (by decide)]
 first
  |exact UD (Yb (UL ⟨_,rfl,UL h⟩))
  |exact UD (Yb (UD (UL (UL ⟨_,rfl,UL h⟩))))
  |exact UD (Yb (UD (UL ⟨_,rfl,UL h⟩)))
end
end HT
namespace L2
open PySem PySem.Spec PyProof.Rows
section
variable {X:Cx}
noncomputable def F4(K:Vo):V->Option Int->Option Int->Hp->VK->Prop:=λx lo hi H Q=>∃a xs,x = .ref a/\SqT K H a xs/\∀r H',(∀c o,H c=some o->H' c=some o)->SqT K H' r (kB xs lo hi)->Q (.ref r) H'
def Ag:E7 X (F4 X.K):=by
 intro pins s σ H x v vl vu lo hi sl Q I rx hs pl pu h
 obtain⟨a,xs,rfl,hx,q⟩:=h
 by_cases hw:HT.JY xs.length 0 lo=0/\HT.JY xs.length xs.length hi=xs.length
 .cases rx
  obtain⟨its,r,ht,hz⟩:=I.tuple hx
  have hlen:its.toArray.size=xs.length:=by rw[UX];exact r.length.symm
  refine⟨"tuple",_,VP.lookup,ht.typeIs,HT.iz ht hs pl pu (by rw[hlen];exact hw) ⟨.ref a,H,I,rfl,q a H (λ_ _ e=>e) ?_⟩⟩
  have e:kB xs lo hi=xs:=by unfold kB;rw[hw.1,hw.2];simp
  rw[e];exact hx
 .exact CV pins s σ H _ v vl vu lo hi sl Q I rx hs pl pu ⟨a,xs,rfl,hx,hw,λp hp=>q p _ (λc o e=>by rw[aw (aV e hp)];exact e) (SqT.of au)⟩
def Ah(hu:X.A.units+1 < cLine):CW X (λx y H Q=>∃a v,x = .ref a/\DGet H a y (some v)/\Q v H):=by
 intro value slice pins s σ H x y v u Q I rx ry h hs
 obtain⟨a,z,rfl,g,q⟩:=h
 cases rx
 exact tail_any (o9 I g) PySem.F.slot_dict_getitem.lookup (t7 hu I g ry λw' s3 I3 rw'=>⟨z,H,I3,rw',q⟩) hs
def ww(hu:X.A.units+1 < cLine):zv X (λo i v H Q=>∃a H',o = .ref a/\N4 H a i v H'/\Q H'):=by
 intro pins s σ H o i v ov iv u Q I ro ri rv h
 obtain⟨a,H',rfl,g,q⟩:=h
 cases ro
 exact t8 hu I g ri rv λs' I'=>⟨H',I',q⟩
end
end L2
namespace L3
open PySem L2
theorem Reps.Kn{K:Vo}{H:Hp}{vs:List V}{ps:List PV}{i:Int}{p:PV}(r:Reps K H vs ps)(h:L2.Kn ps i=some p):∃v,L2.Kn vs i=some v/\Rep K H v p:=by
 unfold L2.Kn at h ⊢
 rw[r.length]
 cases e:r_ ps.length i with
 |none=>rw[e]at h;cases h
 |some j=>
  rw[e]at h
  obtain⟨v,h1,h2⟩:=r.get h
  exact⟨v,h1,h2⟩
noncomputable def nq:PV->Option bp
 | .int i=>some (.inl i)
 | .str x=>some (.inr x)
 |_=>none
def eh{K:Vo}{H:Hp}{v:V}{p:PV}{k:bp}(r:Rep K H v p)(h:nq p=some k):v=kV k:=by
 cases p with
 |int i=>cases h;cases r;rfl
 |str i=>cases h;cases r;rfl
 |_=>cases h
noncomputable def i9{κ:Type} [DecidableEq κ]:List (κ×PV)->κ->Option PV
 |[],_=>none
 |(k',v)::r,k=>if k'=k then some v else i9 r k
theorem JZ.val{K:Vo}{H:Hp}{κ:Type} [DecidableEq κ]{k:κ}{p:PV}:∀{vs:List (κ×V)}{ps:List (κ×PV)},JZ K H vs ps->i9 ps k=some p->∃v,fj vs k=some v/\Rep K H v p
 |_,_,.nil,h=>by cases h
 |_,_,.cons (k:=k') a r,h=>by
  unfold i9 at h
  split at h
  .rename_i e;cases h;exact⟨_,KU e,a⟩
  .rename_i e;rw[KW e];exact JZ.val r h
section
variable {X:Cx}{a b e lo hi:Expr}{ta tb te:aO}{pos p2:Pos}
structure IS(X:Cx)(r:R3):Prop where
 ok:CW X (LR X r)
def F5{r:R3}(hr:IS X r)(ha:aY X a ta)(hb:aY X b tb)(hs:ip b):aY X (.Subscript a b pos) (am r ta tb):=⟨aK (BI hr.ok ha.ok hb.ok hs) λ_ _ _=>j7⟩
def az:R3:=λx y S Q=>match x with
 | .tup xs=>match y with | .int i=>(match Kn xs i with|some v=>Q v S|none=>False)|_=>False
 | .cl xs=>match y with | .int i=>(match Kn xs i with|some v=>Q v S|none=>False)|_=>False
 | .str z=>match y with | .int i=>z.length<=sizeLine/\(match Kn z.cps.toList i with|some c=>Q (.str ⟨#[c]⟩) S|none=>False)|_=>False
 | .ref a=>match S a with
  |some (.lst xs)=>(match y with | .int i=>(match Kn xs i with|some v=>Q v S|none=>False)|_=>False)
  |some (.dct kvs)=>(match nq y with|some k=>(match i9 kvs k with|some v=>Q v S|none=>False)|none=>False)
  |_=>False
 |_=>False
def IU(hu:X.A.units+1 < cLine):IS X az:=⟨λvalue slice pins s σ H x y v u Q I rx ry ⟨px,py,S,Q3,r1,r2,rS,q,k⟩ hs=>by
 unfold az at q
 split at q
 .split at q
  .split at q
   .rename_i e
    cases r2
    cases r1 with
    |tup h1 rs=>
     obtain⟨w,hw,rw'⟩:=rs.Kn e
     exact C0 value slice pins s σ H _ _ v u Q I rx ry ⟨_,_,_,w,rfl,rfl,h1,hw,k _ S _ H q rw' rS .refl⟩ hs
   .exact q.elim
  .exact q.elim
 .split at q
  .split at q
   .rename_i e
    cases r2
    cases r1 with
    |cl h1 rs=>
     obtain⟨w,hw,rw'⟩:=rs.Kn e
     exact sf value slice pins s σ H _ _ v u Q I rx ry ⟨_,_,_,w,rfl,rfl,h1.sq,hw,k _ S _ H q rw' rS .refl⟩ hs
   .exact q.elim
  .exact q.elim
 .split at q
  .obtain⟨hz,q⟩:=q
   split at q
   .rename_i e
    cases r1;cases r2
    exact C1 value slice pins s σ H _ _ v u Q I rx ry ⟨_,_,_,rfl,rfl,hz,e,k _ S _ H q (.str _) rS .refl⟩ hs
   .exact q.elim
  .exact q.elim
 .split at q
  .rename_i e0
   split at q
   .split at q
    .rename_i e
     cases r1;cases r2
     obtain⟨vs,hv,rs⟩:=rS _ _ e0
     obtain⟨w,hw,rw'⟩:=rs.Kn e
     exact sf value slice pins s σ H _ _ v u Q I rx ry ⟨_,_,_,w,rfl,rfl,SqL.of hv,hw,k _ S _ H q rw' rS .refl⟩ hs
    .exact q.elim
   .exact q.elim
  .rename_i e0
   split at q
   .rename_i ek
    split at q
    .rename_i ev
     cases r1
     have e1:=eh r2 ek
     subst e1
     obtain⟨kv,hv,rk⟩:=rS _ _ e0
     obtain⟨w,hw,rw'⟩:=rk.val ev
     refine Ah hu value slice pins s σ H _ _ v u Q I rx ry ⟨_,w,rfl,?_,k _ S _ H q rw' rS .refl⟩ hs
     rw[<-hw]
     exact DGet.k hv
    .exact q.elim
   .exact q.elim
  .exact q.elim
 .exact q.elim⟩
abbrev E9:=bZ->aq->(Option Int->aq->Prop)->cq->Prop
inductive LO(X:Cx)(t:E9)(σ:L2.St)(H:Hp)(Q:Option Int->Hp->Prop):Prop
 |mk (σ3 S Q3 E3) (rσ:JR X.K H σ σ3) (rS:JM X.K H S) (h:t σ3 S Q3 E3) (xo:NX X H E3) (k:∀o S' H',Q3 o S'->JM X.K H' S'->Grow X.K H H'->Q o H'):LO X t σ H Q
structure G_(X:Cx)(e:Option Expr)(t:E9):Prop where
 ok:PO X e (LO X t)
noncomputable def de:E9:=λ_ S Q _=>Q none S
noncomputable def cz(t:aO):E9:=λσ S Q E=>t σ S (λv S'=>match v with | .int i=>Q (some i) S'|_=>False) E
def wx{e:Option Expr}{t t':TO}(h:PO X e t)(k:∀σ H Q,t' σ H Q->t σ H Q):PO X e t':=λpins s σ H Q I q=>h pins s σ H Q I (k σ H Q q)
def bc:G_ X none de:=⟨wx zJ λσ H Q ⟨σ3,S,Q3,E3,rσ,rS,h,xo,k⟩=>k none S H h rS .refl⟩
def aP(h:aY X e te):G_ X (some e) (cz te):=⟨wx (zK h.ok) λσ H Q ⟨σ3,S,Q3,E3,rσ,rS,h,xo,k⟩=>⟨σ3,S,_,E3,rσ,rS,h,xo,λp S' v H' h1 rv KE g=>by
 cases p with
 |int i=>cases rv;exact⟨i,rfl,k _ S' H' h1 KE g⟩
 |_=>exact h1.elim⟩⟩
noncomputable def cu{α:Type}(xs:List α)(lo hi:Option Int):List α:=(xs.drop (HT.JY xs.length 0 lo)).take (HT.JY xs.length xs.length hi - HT.JY xs.length 0 lo)
def Reps.cut{K:Vo}{H:Hp}{vs:List V}{ps:List PV}(r:Reps K H vs ps)(lo hi:Option Int):Reps K H (kB vs lo hi) (cu ps lo hi):=by
 unfold kB cu
 rw[r.length]
 exact(r.drop _).take _
def cK(x:PV)(lo hi:Option Int)(S:aq)(Q:bP):Prop:=match x with
 | .tup xs=>Q (.tup (cu xs lo hi)) S
 | .cl xs=>∀p,S p=none->Q (.ref p) (JH S p (.lst (cu xs lo hi)))
 | .str z=>z.length<=sizeLine/\Q (.str (Txt.slice z lo hi)) S
 | .ref a=>match S a with|some (.lst xs)=>∀p,S p=none->Q (.ref p) (JH S p (.lst (cu xs lo hi)))|_=>False
 |_=>False
noncomputable def Jn(X:Cx):V->Option Int->Option Int->Hp->VK->Prop:=λx lo hi H Q=>∃px S Q3,Rep X.K H x px/\JM X.K H S/\cK px lo hi S Q3/\NF X.K H Q3 Q
def Jo:E7 X (Jn X):=by
 intro pins s σ H x v vl vu lo hi sl Q I rx hs pl pu ⟨px,S,Q3,r1,rS,q,k⟩
 unfold cK at q
 split at q
 .cases r1 with
  |tup h1 rs=>exact Ag pins s σ H _ v vl vu lo hi sl Q I rx hs pl pu ⟨_,_,rfl,h1,λr H' hh hr=>k _ S _ H' q (.tup hr ((rs.cut lo hi).mono (.same hh))) (rS.grow hh) (.same hh)⟩
 .cases r1 with
  |cl h1 rs=>exact sh pins s σ H _ v vl vu lo hi sl Q I rx hs pl pu ⟨_,_,rfl,h1.sq,λp hp=>k _ _ _ _ (q p (rS.free hp)) (.ref p) (rS.new hp ⟨_,au,(rs.cut lo hi).mono (.new hp)⟩) (.new hp)⟩
 .cases r1
  exact Db pins s σ H _ v vl vu lo hi sl Q I rx hs pl pu ⟨_,rfl,q.1,k _ S _ H q.2 (.str _) rS .refl⟩
 .split at q
  .rename_i e
   cases r1
   obtain⟨vs,hv,rs⟩:=rS _ _ e
   exact sh pins s σ H _ v vl vu lo hi sl Q I rx hs pl pu ⟨_,_,rfl,SqL.of hv,λp hp=>k _ _ _ _ (q p (rS.free hp)) (.ref p) (rS.new hp ⟨_,au,(rs.cut lo hi).mono (.new hp)⟩) (.new hp)⟩
  .exact q.elim
 .exact q.elim
def aA(te:aO)(tl th:E9):aO:=λσ S Q E=>te σ S (λx S1=>tl σ S1 (λl S2=>th σ S2 (λu S3=>cK x l u S3 Q) E) E) E
def aL{lo hi:Option Expr}{tl th:E9}(he:aY X e te)(hl:G_ X lo tl)(hu:G_ X hi th):aY X (.Subscript e (.Slice lo hi none p2) pos) (aA te tl th):=
 ⟨aK (vG Jo he.ok hl.ok hu.ok) λσ H Q ⟨σ3,S,Q3,E3,rσ,rS,h,xo,k⟩=>⟨σ3,S,_,E3,rσ,rS,h,xo,λx S1 v H1 h1 rx JT g1=>⟨σ3,S1,_,E3,rσ.mono g1,JT,h1,xo.mono g1,λl S2 H2 h2 KY g2=>
  ⟨σ3,S2,_,E3,rσ.mono (g1.trans g2),KY,h2,xo.mono (g1.trans g2),λu S3 H3 h3 NY g3=>⟨x,S3,Q3,rx.mono (g2.trans g3),NY,h3,k.mono (g1.trans (g2.trans g3))⟩⟩⟩⟩⟩
def Ai:gi X (binaryOp .Mult) (rI IntMulOk λi j=>.int (i * j)):=G6 λ_ _ _ _ _ _ _ hc q=>PyProof.Rows.mul_int q hc
def j0:R3:=λx y S Q=>match x,y with
 | .int i,.int j=>IntMulOk i j/\Q (.int (i * j)) S
 | .ref a,.int j=>(match S a with|some (.lst xs)=>-(2 ^ 63)<=j/\j < 2 ^ 63/\xs.length * j.toNat<=sizeLine/\∀p,S p=none->Q (.ref p) (JH S p (.lst (List.replicate j.toNat xs).flatten))|_=>False)
 |_,_=>False
theorem Reps.rep{K:Vo}{H:Hp}{vs:List V}{ps:List PV}(r:Reps K H vs ps):∀n:Nat,Reps K H (List.replicate n vs).flatten (List.replicate n ps).flatten
 |0=>.nil
 |n+1=>by
  rw[V9,V9,WN,WN]
  exact r.append (Reps.rep r n)
def gV:ic X (binaryOp .Mult) j0:=⟨λpins s σ H x y v u Q I rx ry ⟨px,py,S,Q3,r1,r2,rS,q,k⟩=>by
 unfold j0 at q
 split at q
 .cases r1;cases r2
  exact Ai pins s σ H _ _ v u Q I rx ry ⟨_,_,rfl,rfl,q.1,k _ S _ H q.2 (.int _) rS .refl⟩
 .split at q
  .rename_i e
   cases r1;cases r2
   obtain⟨vs,hv,rs⟩:=rS _ _ e
   exact C7 pins s σ H _ _ v u Q I rx ry ⟨_,_,_,rfl,rfl,hv,q.1,q.2.1,by rw[rs.length];exact q.2.2.1,λp hp=>k _ _ _ _ (q.2.2.2 p (rS.free hp)) (.ref p) (rS.new hp ⟨_,au,(rs.rep _).mono (.new hp)⟩) (.new hp)⟩
  .exact q.elim
 .exact q.elim⟩
end
end L3
namespace L2
open PySem PySem.Spec PyProof.Rows
section
variable {X:Cx}
def qO{pins:Va}{σ:St}{H:Hp}{s:Shared}{x:Value}{t:Value}{p:Heap->Prop}{vs:List V}{tp:Addr}{b:Bool}{Q:Vq}{E:Vq}(I:Inv X pins σ H s)(Z:PySem.W.KitX X.K x t p)(hp:p s.heap)(hx:x ≠ .builtin "__main__.__loader__#opaque")
  (ht:SqT X.K H tp vs) (e:∀its,Vals vs its->PySem.W.kitAny X.K t its=some b) (h:∀tk,Q (.bool b) { s with toks:=tk }):wpAny (model X.prog X.w) X.A (call (.builtin "isinstance") [x,.ref tp]) Q E s:=by
 obtain⟨its,rv,⟨⟨cls,dd,data,sl⟩,ho,hc,n,hd⟩,hz⟩:=I.tuple ht
 simp only at hc hd
 subst hc hd
 exact PySem.W.kia_tup Z I.L_ hp ho (e its rv) hx h
end
end L2
namespace L3
open PySem L2
abbrev lW:=List PV->aq->bP->Prop
section
variable {X:Cx}{e o:Expr}{es:List Expr}{te to:aO}{ts:List aO}{x:Str}{p pos apos cpos:Pos}
inductive LC(X:Cx)(r:lW)(xs:List V)(H:Hp)(Q:VK):Prop
 |mk (ps S Q3) (rx:Reps X.K H xs ps) (rS:JM X.K H S) (h:r ps S Q3) (k:NF X.K H Q3 Q):LC X r xs H Q
structure cF(X:Cx)(f:Value)(r:lW):Prop where
 ok:dg X f (LC X r)
def af(r:lW)(ts:List aO):aO:=λσ S Q E=>al ts σ S (λps S1=>r ps S1 Q) E
def sv{r:lW}{σ:L2.St}{H:Hp}{Q:VK}:LE X (af r ts) σ H Q->G9 (ts.map (LE X)) σ H λvs H1=>LC X r vs H1 Q:=λ⟨σ3,S,Q3,E3,rσ,rS,h,xo,k⟩=>
 bQ rσ rS h xo λps S' vs H' hl q rv KE g=>⟨ps,S',Q3,rv,KE,q,k.mono g⟩
def Aj{id:String}{r:lW}(hc:cF X (.builtin id) r)(hg:Gl X x)(hm:X.mg x=none)(hv:bootBuiltins x=some (.builtin id))(he:starEach (e::es) X.env=(false,eval e X.env)::starEach es X.env)(ha:jG X (e::es) ts)
  (hn:x ≠ "__name__":=by decide) (hdb:(x == ("__debug__":Str))=false:=by decide) (hpl:(backTo pos (starEach es X.env)).any (·.1)=false:=by rfl):aY X (.Call (.Name x p) (e::es) [] pos) (af r ts):=
 ⟨aK (vE hc.ok hg hm hv ha.ok hn hdb he hpl) λ_ _ _=>sv⟩
def Ak{id:String}{r:lW}(hc:cF X (.type id) r)(hg:Gl X x)(hm:X.mg x=none)(hv:bootBuiltins x=some (.type id))(he:starEach (e::es) X.env=(false,eval e X.env)::starEach es X.env)(ha:jG X (e::es) ts)
  (hn:x ≠ "__name__":=by decide) (hdb:(x == ("__debug__":Str))=false:=by decide) (hpl:(backTo pos (starEach es X.env)).any (·.1)=false:=by rfl):aY X (.Call (.Name x p) (e::es) [] pos) (af r ts):=
 ⟨aK (t0 hc.ok hg hm hv ha.ok hn hdb he hpl) λ_ _ _=>sv⟩
def aT:lW:=λps S Q=>match ps with
 |[.tup xs]=>Q (.int xs.length) S
 |[.cl xs]=>Q (.int xs.length) S
 |[.str z]=>z.length<=sizeLine/\Q (.int z.length) S
 |[.ref a]=>(match S a with|some (.lst xs)=>Q (.int xs.length) S|some (.dct kvs)=>Q (.int kvs.length) S|_=>False)
 |_=>False
def aU:cF X (.builtin "len") aT:=⟨λpins s σ H xs us Q I r ⟨ps,S,Q3,rp,rS,q,k⟩=>by
 unfold aT at q
 split at q
 .cases rp with|cons a rr=>cases rr;cases a with|tup h rs=>exact eg pins s σ H _ us Q I r ⟨_,_,rfl,.inr h,by rw[rs.length];exact k _ S _ H q (.int _) rS .refl⟩
 .cases rp with|cons a rr=>cases rr;cases a with|cl h rs=>exact eg pins s σ H _ us Q I r ⟨_,_,rfl,.inl h.sq,by rw[rs.length];exact k _ S _ H q (.int _) rS .refl⟩
 .cases rp with|cons a rr=>cases rr;cases a;exact mY pins s σ H _ us Q I r ⟨_,rfl,q.1,k _ S _ H q.2 (.int _) rS .refl⟩
 .cases rp with
  |cons a rr=>
   cases rr;cases a
   split at q
   .rename_i e
    obtain⟨vs,hv,rs⟩:=rS _ _ e
    exact eg pins s σ H _ us Q I r ⟨_,_,rfl,.inl (SqL.of hv),by rw[rs.length];exact k _ S _ H q (.int _) rS .refl⟩
   .rename_i e
    obtain⟨vs,hv,rs⟩:=rS _ _ e
    exact ua pins s σ H _ us Q I r ⟨_,_,rfl,hv,by rw[rs.length];exact k _ S _ H q (.int _) rS .refl⟩
   .exact q.elim
 .exact q.elim⟩
def uv:lW:=λps S Q=>match ps with|[.int i]=>Q (.int (if i < 0 then -i else i)) S|_=>False
def F6:cF X (.builtin "abs") uv:=⟨λpins s σ H xs us Q I r ⟨ps,S,Q3,rp,rS,q,k⟩=>by
 unfold uv at q
 split at q
 .cases rp with|cons a rr=>cases rr;cases a;exact vv pins s σ H _ us Q I r ⟨_,rfl,k _ S _ H q (.int _) rS .refl⟩
 .exact q.elim⟩
def kM:lW:=λps S Q=>match ps with|[.int i,.int j]=>Q (.int (if j > i then j else i)) S|_=>False
def wy(hc:X.calm=true):cF X (.builtin "max") kM:=⟨λpins s σ H xs us Q I r ⟨ps,S,Q3,rp,rS,q,k⟩=>by
 unfold kM at q
 split at q
 .cases rp with|cons a rr=>cases rr with|cons b r3=>cases r3;cases a;cases b;exact tW hc pins s σ H _ us Q I r ⟨_,_,rfl,k _ S _ H q (.int _) rS .refl⟩
 .exact q.elim⟩
def iA:lW:=λps S Q=>match ps with|[.int i]=>Q (.int i) S|[.bl b]=>Q (.int (if b then 1 else 0)) S|_=>False
def Qd:cF X (.type "int") iA:=⟨λpins s σ H xs us Q I r ⟨ps,S,Q3,rp,rS,q,k⟩=>by
 unfold iA at q
 split at q
 .cases rp with|cons a rr=>cases rr;cases a;exact l8 pins s σ H _ us Q I r (.inl ⟨_,rfl,k _ S _ H q (.int _) rS .refl⟩)
 .cases rp with|cons a rr=>cases rr;cases a;exact l8 pins s σ H _ us Q I r (.inr ⟨_,rfl,k _ S _ H q (.int _) rS .refl⟩)
 .exact q.elim⟩
def iB:lW:=λps S Q=>match ps with|[.int i]=>i.natAbs.log2 < 1920/\Q (.str (toString i)) S|_=>False
def sw:cF X (.type "str") iB:=⟨λpins s σ H xs us Q I r ⟨ps,S,Q3,rp,rS,q,k⟩=>by
 unfold iB at q
 split at q
 .cases rp with|cons a rr=>cases rr;cases a;exact mT pins s σ H _ us Q I r ⟨_,rfl,q.1,k _ S _ H q.2 (.str _) rS .refl⟩
 .exact q.elim⟩
def gW:lW:=λps S Q=>match ps with
 |[.str z]=>z.length<=sizeLine/\∀p,S p=none->Q (.ref p) (JH S p (.lst (z.cps.toList.map λc=>.str (sgn c))))
 |[v]=>(match cJ S v with|some xs=>∀p,S p=none->Q (.ref p) (JH S p (.lst xs))|none=>False)
 |_=>False
theorem kN{K:Vo}{H:Hp}:∀cs:List Nat,Reps K H (cs.map λc=>V.str (sgn c)) (cs.map λc=>PV.str (sgn c))
 |[]=>.nil
 |c::r=>.cons (.str _) (kN r)
def Du(hc:X.calm=true):cF X (.type "list") gW:=⟨λpins s σ H xs us Q I r ⟨ps,S,Q3,rp,rS,q,k⟩=>by
 unfold gW at q
 split at q
 .cases rp with|cons a rr=>cases rr;cases a;exact i6 hc pins s σ H _ us Q I r ⟨_,rfl,q.1,λp hp=>k _ _ _ _ (q.2 p (rS.free hp)) (.ref p) (rS.new hp ⟨_,au,(kN _)⟩) (.new hp)⟩
 .cases rp with
  |cons a rr=>
   cases rr
   split at q
   .rename_i e
    obtain⟨b,vs,rfl,hs,rs⟩:=wv rS a e
    exact mZ pins s σ H _ us Q I r ⟨_,_,rfl,hs,λp hp=>k _ _ _ _ (q p (rS.free hp)) (.ref p) (rS.new hp ⟨_,au,rs.mono (.new hp)⟩) (.new hp)⟩
   .exact q.elim
 .exact q.elim⟩
def bC:lW:=λps S Q=>match ps with
 |[v]=>(match cJ S v with|some xs=>Q (.tup xs) S|none=>False)
 |_=>False
def gj:cF X (.type "tuple") bC:=⟨λpins s σ H xs us Q I r ⟨ps,S,Q3,rp,rS,q,k⟩=>by
 unfold bC at q
 split at q
 .cases rp with
  |cons a rr=>
   cases rr
   split at q
   .rename_i e
    obtain⟨b,vs,rfl,hs,rs⟩:=wv rS a e
    rcases hs with hs|hs
    .exact gJ pins s σ H _ us Q I r ⟨_,_,rfl,.inl ⟨hs,λp hp=>k _ S _ _ q (.tup (SqT.of au) (rs.mono (.new hp))) (rS.other hp) (.new hp)⟩⟩
    .exact gJ pins s σ H _ us Q I r ⟨_,_,rfl,.inr ⟨hs,k _ S _ _ q (.tup hs rs) rS .refl⟩⟩
   .exact q.elim
 .exact q.elim⟩
noncomputable def jI:List PV->Option (List Bool)
 |[]=>some []
 | .bl b::r=>(jI r).map (b::·)
 |_::_=>none
theorem kO{K:Vo}{H:Hp}:∀{vs:List V}{ps:List PV}{bs:List Bool},Reps K H vs ps->jI ps=some bs->vs=bs.map V.bl
 |_,_,_,.nil,h=>by cases h;rfl
 |_,_,bs,.cons (p:=p) a r,h=>by
  cases p with
  |bl b=>
   cases a
   unfold jI at h
   cases e:jI _ with
   |none=>rw[e]at h;cases h
   |some l=>rw[e]at h;cases h;rw[kO r e];rfl
  |_=>cases h
def nr:lW:=λps S Q=>match ps with
 |[.ref a]=>(match S a with|some (.lst xs)=>(match jI xs with|some bs=>Q (.bl (bs.all id)) S|none=>False)|_=>False)
 |_=>False
def wD(hc:X.calm=true):cF X (.builtin "all") nr:=⟨λpins s σ H xs us Q I r ⟨ps,S,Q3,rp,rS,q,k⟩=>by
 unfold nr at q
 split at q
 .cases rp with
  |cons a rr=>
   cases rr;cases a
   split at q
   .rename_i e
    split at q
    .rename_i eb
     obtain⟨vs,hv,rs⟩:=rS _ _ e
     have e2:=kO rs eb
     subst e2
     exact ud hc pins s σ H _ us Q I r ⟨_,_,rfl,SqL.of hv,k _ S _ H q (.bl _) rS .refl⟩
    .exact q.elim
   .exact q.elim
 .exact q.elim⟩
def pB:lW:=λps S Q=>match ps with
 |[.int _]=>False
 |[.str _]=>False
 |[.bl _]=>False
 |[.non]=>False
 |[.ty _]=>False
 |[v]=>∃d,Dat S v d/\d.showable=true/\d.hasDict=false/\d.depth<=100/\d.shown.length<=sizeLine/\Q (.str d.shown) S
 |_=>False
def Dv(hu:X.A.units+150 < cLine)(hg:X.A.guards=some []):cF X (.builtin "repr") pB:=⟨λpins s σ H xs us Q I r ⟨ps,S,Q3,rp,rS,q,k⟩=>by
 unfold pB at q
 have main:∀{v:PV} {x:V} {u:Value} {a:Addr},u = .ref a->Rep X.K H x v->RelV x u->(∃d,Dat S v d/\d.showable=true/\d.hasDict=false/\d.depth<=100/\d.shown.length<=sizeLine/\Q3 (.str d.shown) S)->wpAny (model X.prog X.w) X.A (call (.builtin "repr") [u]) (EP X pins σ Q) X.xe s:=by
  rintro v x u a rfl rv rx ⟨d,hd,h1,h2,h3,h4,q⟩
  obtain⟨as,R⟩:=hd.reads I rS rv rx
  exact Vg I.tk (repr_of_reads' R h1 (PyData.noDict_hsm h2) hg (by omega) (λ_ _ e=>e) (λh' u tk hk ht=>⟨.str _,H,I.kept hk,⟨u,rfl⟩,k _ S _ H q (.str _) rS .refl⟩) h4)
 split at q
 .exact q.elim
 .exact q.elim
 .exact q.elim
 .exact q.elim
 .exact q.elim
 .rename_i n1 n2 n3 n4 n5
  cases rp with
  |cons a rr=>
   cases rr
   cases r with
   |cons r1 r2=>
    cases r2
    cases a with
    |non=>exact absurd rfl n4
    |bl b=>exact absurd rfl (n3 b)
    |int i=>exact absurd rfl (n1 i)
    |str i=>exact absurd rfl (n2 i)
    |ty i=>exact absurd rfl (n5 i)
    |ref b=>cases r1;exact main rfl (.ref b) rfl q
    |tup h rs=>cases r1;exact main rfl (.tup h rs) rfl q
    |cl h rs=>cases r1;exact main rfl (.cl h rs) rfl q
    |exc h1 h2 rs=>cases r1;exact main rfl (.exc h1 h2 rs) rfl q
    |cls h=>cases r1;exact main rfl (.cls h) rfl q
 .exact q.elim⟩
end
noncomputable def dk(t c:String):Bool:=t == c || (t == "bool" && c == "int")
noncomputable def pC(S:aq):PV->Option String
 | .non=>some "NoneType"
 | .bl _=>some "bool"
 | .int _=>some "int"
 | .str _=>some "str"
 | .tup _=>some "tuple"
 | .cl _=>some "list"
 | .ref a=>(match S a with|some (.lst _)=>some "list" | some (.dct _)=>some "dict" | _=>none)
 | .ty _=>none
 | .exc _ _ _=>none
 | .cls _=>none
noncomputable def cN(c:String):Bool:=["int","str","bool","tuple","list","dict"].contains c
def wE(K:Vo)(t c:String):PySem.W.kitCls K (.type t) (.type c)=(if PySem.W.kitMeta c=true then (PySem.fastBuiltinMro t).map (·.contains (Value.type c)) else none):=rfl
def sx{K:Vo}{t c:String}(ht:t∈["NoneType","bool","int","str","tuple","list","dict"])(hc:cN c=true):PySem.W.kitOne K (.type t) (.type c)=some (dk t c):=by
 have hc':c∈["int","str","bool","tuple","list","dict"]:=by
  have:=hc
  unfold cN at this
  simpa using this
 simp only[UI,UW,Vy]at ht hc'
 rcases ht with rfl|rfl|rfl|rfl|rfl|rfl|rfl<;>rcases hc' with rfl|rfl|rfl|rfl|rfl|rfl <;>
  first
   |(unfold PySem.W.kitOne;rw[if_pos (by decide)];rfl)
   |(unfold PySem.W.kitOne;rw[if_neg (by decide),wE];decide +kernel)
def wF{S:aq}{p:PV}{t:String}(h:pC S p=some t):t∈["NoneType","bool","int","str","tuple","list","dict"]:=by
 unfold pC at h
 split at h<;>first|(cases h;decide)|(split at h<;>first|(cases h;decide)|cases h)|cases h
section
variable {X:Cx}
noncomputable def F7:List PV->Option (List String)
 |[]=>some []
 | .ty c::r=>if cN c then (F7 r).map (c::·) else none
 |_::_=>none
def eC:lW:=λps S Q=>match ps with
 |[x,.ty c]=>(match pC S x with|some t=>cN c=true/\Q (.bl (dk t c)) S|none=>False)
 |[x,.tup cs]=>(match pC S x,F7 cs with|some t,some l=>Q (.bl (l.any (dk t))) S|_,_=>False)
 |_=>False
def Al{K:Vo}{H:Hp}{t:String}(ht:t∈["NoneType","bool","int","str","tuple","list","dict"]):∀(cs:List PV){l:List String}{vs:List V}{its:Vv},F7 cs=some l->Reps K H vs cs->Vals vs its->PySem.W.kitAny K (.type t) its=some (l.any (dk t)):=by
 intro cs
 induction cs with
 |nil=>intro l vs its h rs r;cases h;cases rs;cases r;rfl
 |cons p cs ih=>
  intro l vs its h rs r
  cases p with
  |ty c=>
   unfold F7 at h
   split at h
   .rename_i hc
    cases e:F7 cs with
    |none=>rw[e]at h;cases h
    |some l'=>
     rw[e]at h
     cases h
     cases rs with
     |cons a rs=>
      cases a
      cases r with
      |@cons _ u _ us r1 r2=>
       cases (show u=Value.type c from r1)
       show(match PySem.W.kitOne K (.type t) (.type c)with|some true=>some true|some false=>PySem.W.kitAny K (.type t) us|none=>none)=_
       rw[sx ht hc,W8]
       cases dk t c with
       |true=>rfl
       |false=>exact ih e rs r2
   .cases h
  |_=>cases h
def jJ:cF X (.builtin "isinstance") eC:=⟨λpins s σ H xs us Q I r ⟨ps,S,Q3,rp,rS,q,k⟩=>by
 have main:∀{v:PV} {x:V} {u:Value} {t:String},Rep X.K H x v->RelV x u->pC S v=some t->∃(h:Heap->Prop),PySem.W.KitX X.K u (.type t) h/\h s.heap/\u ≠ .builtin "__main__.__loader__#opaque":=by
  intro v x u t rv rx ht
  cases rv with
  |non=>cases ht;cases rx;exact⟨_,PySem.W.kitx_none,True.intro,λz=>nomatch z⟩
  |bl b=>cases ht;cases rx;exact⟨_,PySem.W.kitx_bool,True.intro,λz=>nomatch z⟩
  |int b=>cases ht;obtain⟨t,rfl⟩:=rx;exact⟨_,PySem.W.kitx_int,True.intro,λz=>nomatch z⟩
  |str b=>cases ht;obtain⟨t,rfl⟩:=rx;exact⟨_,PySem.W.kitx_str,True.intro,λz=>nomatch z⟩
  |ty b=>cases ht
  |exc _ _ _=>cases ht
  |cls _=>cases ht
  |tup h rs=>
   cases ht;cases rx
   obtain⟨its,_,⟨o,ho,hc,_⟩,_⟩:=I.tuple h
   exact⟨_,PySem.W.kitx_tuple,⟨o,ho,hc⟩,λz=>nomatch z⟩
  |cl h rs=>
   cases ht;cases rx
   obtain⟨its,_,⟨o,n,ho,hc,_⟩,_⟩:=I.list h.sq
   exact⟨_,PySem.W.kitx_list,⟨o,ho,hc⟩,λz=>nomatch z⟩
  |ref a=>
   cases rx
   unfold pC at ht
   simp only at ht
   split at ht
   .rename_i e
    cases ht
    obtain⟨vs,hv,_⟩:=rS _ _ e
    obtain⟨its,_,⟨o,n,ho,hc,_⟩,_⟩:=I.list (SqL.of hv)
    exact⟨_,PySem.W.kitx_list,⟨o,ho,hc⟩,λz=>nomatch z⟩
   .rename_i e
    cases ht
    obtain⟨vs,hv,_⟩:=rS _ _ e
    obtain⟨_,_,vs',_,p⟩:=(show JS X.prog X.w H s.heap _ (.dK vs)from I.hok _ _ hv)
    obtain⟨o,es,ep,h1,h2,_⟩:=p
    exact⟨_,PySem.W.kitx_dict,⟨o,h1,h2.1⟩,λz=>nomatch z⟩
   .cases ht
 unfold eC at q
 split at q
 .split at q
  .rename_i ht
   cases rp with
   |cons a rr=>
    cases rr with
    |cons b r3=>
     cases r3;cases b
     cases r with
     |cons r1 r2=>
      cases r2 with
      |cons r4 r5=>
       cases r5
       cases (show _=Value.type _ from r4)
       obtain⟨h,Z,hp,hx⟩:=main a r1 ht
       exact Vg I.tk (PySem.W.kia_one Z I.L_ hp (sx (wF ht) q.1) hx λtk ht=>⟨.bl _,H,I.tok _,rfl,k _ S _ H q.2 (.bl _) rS .refl⟩)
  .exact q.elim
 .split at q
  .rename_i ht hl
   cases rp with
   |cons a rr=>
    cases rr with
    |cons b r3=>
     cases r3
     cases b with
     |tup h1 rs=>
      cases r with
      |cons r1 r2=>
       cases r2 with
       |cons r4 r5=>
        cases r5
        cases r4
        obtain⟨h,Z,hp,hx⟩:=main a r1 ht
        exact Vg I.tk (qO I Z hp hx h1 (λits rv=>Al (wF ht) _ hl rs rv) λtk ht=>⟨.bl _,H,I.tok _,rfl,k _ S _ H q (.bl _) rS .refl⟩)
  .exact q.elim
 .exact q.elim⟩
end
abbrev uw:=PV->List PV->aq->bP->Prop
section
variable {X:Cx}{e o:Expr}{es:List Expr}{te to:aO}{ts:List aO}{name:Str}{p pos apos cpos:Pos}{T id:String}
inductive LM(X:Cx)(r:uw)(x:V)(xs:List V)(H:Hp)(Q:VK):Prop
 |mk (px ps S Q3) (rx:Rep X.K H x px) (rs:Reps X.K H xs ps) (rS:JM X.K H S) (h:r px ps S Q3) (k:NF X.K H Q3 Q):LM X r x xs H Q
structure wG(X:Cx)(id:String)(r:uw):Prop where
 ok:CZ X id (LM X r)
def gC(T:String)(x:PV)(S:aq):Prop:=match x with
 | .str _=>T = "str"
 | .ref a=>(match S a with|some (.lst _)=>T = "list" | some (.dct _)=>T = "dict" | _=>False)
 | .cl _=>T = "list"
 |_=>False
def wH{H:Hp}{S:aq}{v:V}{p:PV}(rS:JM X.K H S)(r:Rep X.K H v p)(h:gC T p S):G7 X.K T v H:=by
 cases r with
 |str x=>exact h
 |ref a=>
  unfold gC at h
  simp only at h
  split at h
  .rename_i e
   obtain⟨vs,hv,_⟩:=rS _ _ e
   exact .inl ⟨h,_,SqL.of hv⟩
  .rename_i e
   obtain⟨vs,hv,_⟩:=rS _ _ e
   exact .inr (.inr (.inl ⟨h,.inl ⟨_,hv⟩⟩))
  .exact h.elim
 |cl h1 _=>exact .inl ⟨h,_,h1.sq⟩
 |_=>exact h.elim
def bL(T:String)(r:uw)(to:aO)(ts:List aO):aO:=λσ S Q E=>to σ S (λx S1=>gC T x S1/\al ts σ S1 (λps S2=>r x ps S2 Q) E) E
def HU{r:uw}(pa:PlainAttrs T)(slot:Slot T name id)(hty:typeOf (.builtin id)=pure (.type "method_descriptor"))(hm:wG X id r)(hs:starEach (e::es) X.env=(false,eval e X.env)::starEach es X.env)(ho:aY X o to)(ha:jG X (e::es) ts)
  (hbase:attributeBase o name X.env (eval o X.env)=eval o X.env:=by rfl)
  (hfew:((backTo cpos (starEach (e::es) X.env)).all (λx=>!x.1)&&(backToKw cpos (keywordEach [] X.env)).all (λx=>x.1.isSome)
   && decide ((e::es).length+([]:List Keyword).length+(if ([]:List Keyword).isEmpty then 0 else 1) < 30))=true:=by rfl)
  (hline:(apos.endLine == cpos.line)=true:=by rfl) (hplain:(backTo cpos (starEach es X.env)).any (·.1)=false:=by rfl):aY X (.Call (.Attribute o name apos) (e::es) [] cpos) (bL T r to ts):=
 ⟨aK (FJ pa slot hty hm.ok ho.ok ha.ok hbase hfew hline hs hplain) λσ H Q ⟨σ3,S,Q3,E3,rσ,rS,h,xo,k⟩=>⟨σ3,S,_,E3,rσ,rS,h,xo,λx S1 v H1 h1 rx JT g1=>
  ⟨wH JT rx h1.1,bQ (rσ.mono g1) JT h1.2 (xo.mono g1) λps S2 vs H2 hl q rv KY g2=>⟨x,ps,S2,Q3,rx.mono g2,rv,KY,q,k.mono (g1.trans g2)⟩⟩⟩⟩
def F8{r:uw}(pa:PlainAttrs T)(slot:Slot T name id)(hty:typeOf (.builtin id)=pure (.type "method_descriptor"))(hm:wG X id r)(ho:aY X o to)
  (hbase:attributeBase o name X.env (eval o X.env)=eval o X.env:=by rfl) (hline:(apos.endLine == cpos.line)=true:=by rfl):aY X (.Call (.Attribute o name apos) [] [] cpos) (bL T r to []):=
 ⟨aK (C3 pa slot hty hm.ok ho.ok hbase hline) λσ H Q ⟨σ3,S,Q3,E3,rσ,rS,h,xo,k⟩=>⟨σ3,S,_,E3,rσ,rS,h,xo,λx S1 v H1 h1 rx JT g1=>
  ⟨wH JT rx h1.1,⟨x,[],S1,Q3,rx,.nil,JT,h1.2,k.mono g1⟩⟩⟩⟩
def aI:uw:=λx ps S Q=>match x,ps with
 | .ref a,[y]=>(match S a with|some (.lst xs)=>xs.length < sizeLine/\Q .non (JH S a (.lst (xs++[y])))|_=>False)
 |_,_=>False
def bz:wG X "list.append" aI:=⟨λpins s σ H x xs v us Q I rx rs ⟨px,ps,S,Q3,r1,rp,rS,q,k⟩=>by
 unfold aI at q
 split at q
 .split at q
  .rename_i e
   cases r1
   cases rp with
   |cons b rr=>
    cases rr
    obtain⟨vs,hv,rl⟩:=rS _ _ e
    exact t6 pins s σ H _ _ v us Q I rx rs ⟨_,_,_,rfl,rfl,hv,by rw[rl.length];exact q.1,k _ _ _ _ q.2 .non (rS.put hv trivial ⟨_,au,(rl.append (.cons b .nil)).mono (.mut hv trivial)⟩) (.mut hv trivial)⟩
  .exact q.elim
 .exact q.elim⟩
def qP:uw:=λx ps S Q=>match x,ps with
 | .ref a,[]=>(match S a with|some (.lst xs)=>(match xs[xs.length - 1]? with|some y=>Q y (JH S a (.lst xs.dropLast))|none=>False)|_=>False)
 | .ref a,[.int i]=>(match S a with|some (.lst xs)=>-(2 ^ 63)<=i/\i < 2 ^ 63/\(match seqIndex? i xs.length with|some j=>(match xs[j]? with|some y=>Q y (JH S a (.lst (xs.eraseIdx j)))|none=>False)|none=>False)|_=>False)
 |_,_=>False
def BO:wG X "list.pop" qP:=⟨λpins s σ H x xs v us Q I rx rs ⟨px,ps,S,Q3,r1,rp,rS,q,k⟩=>by
 unfold qP at q
 split at q
 .split at q
  .rename_i e
   split at q
   .rename_i ey
    cases r1
    cases rp
    obtain⟨vs,hv,rl⟩:=rS _ _ e
    rw[<-rl.length]at ey
    obtain⟨y',Rp,ry⟩:=rl.get ey
    exact C4 pins s σ H _ _ v us Q I rx rs ⟨_,_,_,rfl,rfl,hv,Rp,k _ _ _ _ q (ry.mono (.mut hv trivial)) (rS.put hv trivial ⟨_,au,rl.dropLast.mono (.mut hv trivial)⟩) (.mut hv trivial)⟩
   .exact q.elim
  .exact q.elim
 .split at q
  .rename_i e
   obtain⟨h1,h2,q⟩:=q
   split at q
   .rename_i ej
    split at q
    .rename_i ey
     cases r1
     cases rp with
     |cons b rr=>
      cases rr;cases b
      obtain⟨vs,hv,rl⟩:=rS _ _ e
      obtain⟨y',Rp,ry⟩:=rl.get ey
      rw[<-rl.length]at ej
      exact vK pins s σ H _ _ v us Q I rx rs ⟨_,_,_,_,_,rfl,rfl,hv,h1,h2,ej,Rp,k _ _ _ _ q (ry.mono (.mut hv trivial)) (rS.put hv trivial ⟨_,au,(rl.eraseIdx _).mono (.mut hv trivial)⟩) (.mut hv trivial)⟩
    .exact q.elim
   .exact q.elim
  .exact q.elim
 .exact q.elim⟩
noncomputable def texts:List PV->Option (List Str)
 |[]=>some []
 | .str b::r=>(texts r).map (b::·)
 |_::_=>none
theorem kP{K:Vo}{H:Hp}:∀{vs:List V}{ps:List PV}{bs:Vs},Reps K H vs ps->texts ps=some bs->vs=bs.map V.str
 |_,_,_,.nil,h=>by cases h;rfl
 |_,_,bs,.cons (p:=p) a r,h=>by
  cases p with
  |str b=>
   cases a
   unfold texts at h
   cases e:texts _ with
   |none=>rw[e]at h;cases h
   |some l=>rw[e]at h;cases h;rw[kP r e];rfl
  |_=>cases h
def cG:uw:=λx ps S Q=>match x,ps with
 | .str z,[.ref a]=>(match S a with|some (.lst xs)=>(match texts xs with|some ys=>(ys.map (·.length)).sum+ys.length * z.length<=1000000/\Q (.str (Txt.join z ys)) S|none=>False)|_=>False)
 |_,_=>False
def fq:wG X "str.join" cG:=⟨λpins s σ H x xs v us Q I rx rs ⟨px,ps,S,Q3,r1,rp,rS,q,k⟩=>by
 unfold cG at q
 split at q
 .split at q
  .rename_i e
   split at q
   .rename_i et
    cases r1
    cases rp with
    |cons b rr=>
     cases rr;cases b
     obtain⟨vs,hv,rl⟩:=rS _ _ e
     have e2:=kP rl et
     subst e2
     exact zW pins s σ H _ _ v us Q I rx rs ⟨_,_,_,rfl,rfl,SqL.of hv,q.1,k _ S _ H q.2 (.str _) rS .refl⟩
   .exact q.elim
  .exact q.elim
 .exact q.elim⟩
end
section
variable {X:Cx}{e c:Expr}{te:aO}{st:Stmt}{rest a b:List Stmt}{t u:bB}{tc:iw}{pos:Pos}
def aJ:bB:=λD σ S=>D.nx σ S
def ae(t u:bB):bB:=λD σ S=>t { D with nx:=u D } σ S
def aE:eB X [] aJ:=⟨su zt λD σ H ⟨σ3,S,D3,rσ,rS,h,xo,n,r,bk,ct⟩=>n σ3 S σ H h rσ rS .refl⟩
def ac(h1:ml X st t)(h2:eB X rest u):eB X (st::rest) (ae t u):=
 ⟨su (vi h1.ok h2.ok) λD σ H ⟨σ3,S,D3,rσ,rS,h,xo,n,r,bk,ct⟩=>⟨σ3,S,{ D3 with nx:=u D3 },rσ,rS,h,xo,λσ4 S' σ' H' h' Ou KE g=>⟨σ4,S',D3,Ou,KE,h',xo.mono g,n.mono g,r.mono g,bk.mono g,ct.mono g⟩,r,bk,ct⟩⟩
def ai(h1:ml X st t):eB X [st] t:=⟨mR h1.ok⟩
def bh(te:aO):bB:=λD σ S=>te σ S (λ_ S1=>D.nx σ S1) D.ex
def b_(he:aY X e te)(hs:swapsWith e none pos.line X.env=pure false:=by rfl):ml X (.Expr e pos) (bh te):=
 ⟨b7 (zu he.ok hs) λD σ H ⟨σ3,S,D3,rσ,rS,h,xo,n,r,bk,ct⟩=>⟨σ3,S,_,D3.ex,rσ,rS,h,xo,λp S1 v H1 h1 rv JT g1=>n σ3 S1 σ H1 h1 (rσ.mono g1) JT g1⟩⟩
def ax(te:aO):bB:=λD σ S=>te σ S D.rt D.ex
def av(he:aY X e te):ml X (.Return (some e) pos) (ax te):=
 ⟨b7 (CA he.ok) λD σ H ⟨σ3,S,D3,rσ,rS,h,xo,n,r,bk,ct⟩=>⟨σ3,S,D3.rt,D3.ex,rσ,rS,h,xo,r⟩⟩
def a_(c:iw)(t u:bB):bB:=λD σ S=>c σ S (λb S1=>if b=true then t D σ S1 else u D σ S1) D.ex
def aN(hc:pp X c tc)(ha:eB X a t)(hb:eB X b u):ml X (.If c a b pos) (a_ tc t u):=
 ⟨b7 (Fq hc.ok ha.ok hb.ok) λD σ H ⟨σ3,S,D3,rσ,rS,h,xo,n,r,bk,ct⟩=>⟨σ3,S,_,D3.ex,rσ,rS,h,xo,λz S1 H1 h1 JT g1=>by
  cases z with
  |true=>rw[if_pos rfl]at h1 ⊢;exact⟨σ3,S1,D3,rσ.mono g1,JT,h1,xo.mono g1,n.mono g1,r.mono g1,bk.mono g1,ct.mono g1⟩
  |false=>rw[if_neg (by decide)]at h1 ⊢;exact⟨σ3,S1,D3,rσ.mono g1,JT,h1,xo.mono g1,n.mono g1,r.mono g1,bk.mono g1,ct.mono g1⟩⟩⟩
def ap(i:Nat)(te:aO):bB:=λD σ S=>te σ S (λv S1=>D.nx (σ.set i (some v)) S1) D.ex
def wI{i:Nat}{D:ik}{σ:L2.St}{H:Hp}:LS X (ap i te) D σ H->zx (LE X te) (oX i) D σ H:=λ⟨σ3,S,D3,rσ,rS,h,xo,n,r,bk,ct⟩=>
 ⟨σ3,S,_,D3.ex,rσ,rS,h,xo,λp S1 v H1 h1 rv JT g1=>n _ S1 _ H1 h1 ((rσ.mono g1).set rv i) JT g1⟩
def F9{i:Nat}{x:Str}{pos':Pos}(hN:X.N.Nodup)(hi:X.N[i]?=some x)(hx:Bz X.env.scope x)(he:aY X e te)(hs:swapsWith e (some (.Name x pos')) pos.line X.env=pure false:=by rfl)
  (hf:X.fn x=true\/X.env.scope.names.lookup x=some .local:=by walk_at "9"):ml X (.Assign [.Name x pos'] e pos) (ap i te):=⟨b7 (CD hN hi hx he.ok hs hf) λ_ _ _=>wI⟩
def ux(i j:Nat)(ta tb:aO):bB:=λD σ S=>ta σ S (λv S1=>tb σ S1 (λw S2=>D.nx ((σ.set i (some v)).set j (some w)) S2) D.ex) D.ex
def BP{i j:Nat}{x y:Str}{a b:Expr}{ta tb:aO}{px py pt:Pos}{kt k2 O_}(hc:X.calm=true)(hN:X.N.Nodup)(hi:X.N[i]?=some x)(hj:X.N[j]?=some y)(hij:i≠j)
  (hx:X.env.scope.names.lookup x=some .local) (hy:X.env.scope.names.lookup y=some .local) (ha:jG X [a,b] [ta,tb])
  (hw:swappedStores [.Tuple [.Name x px,.Name y py] kt pt] (.Tuple [a,b] k2 O_) X.env=pure (some [x,y]):=by rfl)
  (hs:swapsWithSole [.Tuple [.Name x px,.Name y py] kt pt] (.Tuple [a,b] k2 O_) pos.line X.env=pure false:=by rfl) :
  ml X (.Assign [.Tuple [.Name x px,.Name y py] kt pt] (.Tuple [a,b] k2 O_) pos) (ux i j ta tb):=
 ⟨b7 (CF hc hN hi hj hij hx hy ha.ok hw hs) λD σ H ⟨σ3,S,D3,rσ,rS,h,xo,n,r,bk,ct⟩=>
  ⟨σ3,S,_,D3.ex,rσ,rS,h,xo,λv S1 v' H1 h1 rv JT g1=>⟨σ3,S1,_,D3.ex,rσ.mono g1,JT,h1,xo.mono g1,λw S2 w' H2 h2 rw' KY g2=>
   ⟨v',w',rfl,n _ S2 _ H2 h2 (((rσ.mono (g1.trans g2)).set (rv.mono g2) i).set rw' j) KY (g1.trans g2)⟩⟩⟩⟩
inductive Tg where
 |n (i:Nat)|tp (l:Tg)|nil|cons (a r:Tg)
mutual
noncomputable def Tg.put:Tg->PV->bZ->Option bZ
 | .n i,p,σ=>some (σ.set i (some p))
 | .tp l,.tup xs,σ=>l.K6 xs σ
 |_,_,_=>none
noncomputable def Tg.K6:Tg->List PV->bZ->Option bZ
 | .nil,[],σ=>some σ
 | .cons a r,x::xs,σ=>(match a.put x σ with|some σ'=>r.K6 xs σ'|none=>none)
 |_,_,_=>none
end
noncomputable def Tg.len:Tg->Nat
 | .cons _ r=>r.len+1
 |_=>0
mutual
noncomputable def Tg.g2(K:Vo):Tg->TG
 | .n i=>oX i
 | .tp l=>Ft K l.len (l.OT K)
 |_=>λ_ _ _ _=>False
noncomputable def Tg.OT(K:Vo):Tg->BA
 | .nil=>Fs
 | .cons a r=>BB (a.g2 K) (r.OT K)
 |_=>λ_ _ _ _=>False
end
noncomputable def Tg.under(own:Nat):Tg->Bool
 | .n i=>decide (i < own)
 | .tp l=>l.under own
 | .nil=>true
 | .cons a r=>a.under own&&r.under own
theorem Tg.MM:∀(g:Tg){ps:List PV}{σ3 σ4:bZ},g.K6 ps σ3=some σ4->ps.length=g.len
 | .nil,ps,σ3,σ4,h=>by
  cases ps with
  |nil=>rfl
  |cons _ _=>unfold Tg.K6 at h;cases h
 | .cons a r,ps,σ3,σ4,h=>by
  cases ps with
  |nil=>unfold Tg.K6 at h;cases h
  |cons x xs=>
   unfold Tg.K6 at h
   split at h
   .rw[UQ,Tg.MM r h];rfl
   .cases h
 | .n _,ps,σ3,σ4,h=>by unfold Tg.K6 at h;cases h
 | .tp _,ps,σ3,σ4,h=>by unfold Tg.K6 at h;cases h
mutual
theorem Tg.Mz{K:Vo}{H:Hp}{own:Nat}:∀(g:Tg){v:V}{p:PV}{σ:L2.St}{σ3 σ4:bZ}{Q:L2.St->Hp->Prop},Rep K H v p->JR K H σ σ3->g.put p σ3=some σ4->(∀σ',JR K H σ' σ4->(g.under own=true->σ'.drop own=σ.drop own)->Q σ' H)->g.g2 K v σ H Q
 | .n i,v,p,σ,σ3,σ4,Q,r,rσ,h,k=>by
  unfold Tg.put at h
  cases h
  unfold Tg.g2
  refine k _ (rσ.set r i) λhb=>?_
  have hi:i < own:=of_decide_eq_true hb
  rw[List.drop_set]
  rw[if_pos hi]
 | .tp l,v,p,σ,σ3,σ4,Q,r,rσ,h,k=>by
  cases p with
  |tup xs=>
   unfold Tg.put at h
   cases r with
   |tup hq rs=>
    have hg:=Tg.Nq (own:=own) l rs rσ h k
    unfold Tg.g2
    exact⟨_,_,rfl,hq,rs.length.trans (Tg.MM l h),hg⟩
  |_=>unfold Tg.put at h;cases h
 | .nil,v,p,σ,σ3,σ4,Q,r,rσ,h,k=>by unfold Tg.put at h;cases h
 | .cons _ _,v,p,σ,σ3,σ4,Q,r,rσ,h,k=>by unfold Tg.put at h;cases h
theorem Tg.Nq{K:Vo}{H:Hp}{own:Nat}:∀(g:Tg){vs:List V}{ps:List PV}{σ:L2.St}{σ3 σ4:bZ}{Q:L2.St->Hp->Prop},Reps K H vs ps->JR K H σ σ3->g.K6 ps σ3=some σ4->(∀σ',JR K H σ' σ4->(g.under own=true->σ'.drop own=σ.drop own)->Q σ' H)->g.OT K vs σ H Q
 | .nil,vs,ps,σ,σ3,σ4,Q,r,rσ,h,k=>by
  cases ps with
  |nil=>
   unfold Tg.K6 at h
   cases h
   cases r
   unfold Tg.OT
   exact⟨rfl,k _ rσ λ_=>rfl⟩
  |cons _ _=>unfold Tg.K6 at h;cases h
 | .cons a r',vs,ps,σ,σ3,σ4,Q,r,rσ,h,k=>by
  cases ps with
  |nil=>unfold Tg.K6 at h;cases h
  |cons x xs=>
   unfold Tg.K6 at h
   split at h
   .rename_i σ5 e5
    cases r with
    |cons r1 r2=>
     unfold Tg.OT
     refine⟨_,_,rfl,Tg.Mz (own:=own) a r1 rσ e5 λσ' Ou d1=>Tg.Nq (own:=own) r' r2 Ou h λTy Rq d2=>k Ty Rq λhb=>?_⟩
     have hb':a.under own=true/\r'.under own=true:=by simpa [Tg.under]using hb
     rw[d2 hb'.2,d1 hb'.1]
   .cases h
 | .n _,vs,ps,σ,σ3,σ4,Q,r,rσ,h,k=>by unfold Tg.K6 at h;cases h
 | .tp _,vs,ps,σ,σ3,σ4,Q,r,rσ,h,k=>by unfold Tg.K6 at h;cases h
end
structure zi(X:Cx)(e:Expr)(g:Tg):Prop where
 ok:PG X e (g.g2 X.K)
structure Am(X:Cx)(es:List Expr)(g:Tg):Prop where
 ok:Fr X es (g.OT X.K)
 len:(assignEach es X.env).length=g.len
def Jp(i:Nat){x:Str}(hN:X.N.Nodup)(hi:X.N[i]?=some x)(hx:Bz X.env.scope x)(hf:X.fn x=true\/X.env.scope.names.lookup x=some .local:=by walk_at "9"):zi X (.Name x pos) (.n i):=⟨by
 have h:=zw (pos:=pos) hN hi hx hf
 unfold Tg.g2
 exact h⟩
def F_:Am X [] .nil:=⟨by unfold Tg.OT;exact rV,rfl⟩
def wJ{es:List Expr}{a r:Tg}(h1:zi X e a)(h2:Am X es r)(hs:(assignEach (e::es) X.env).map (·.2)=assign e X.env::(assignEach es X.env).map (·.2):=by rfl)(hl:(assignEach (e::es) X.env).length=(assignEach es X.env).length+1:=by rfl):Am X (e::es) (.cons a r):=
 ⟨by unfold Tg.OT;exact kr h1.ok h2.ok hs,by rw[hl,h2.len];rfl⟩
def Jq{es:List Expr}{k:Nat}{l:Tg}(hc:X.calm=true)(h:Am X es l)(hst:(assignEach es X.env).findIdx? (·.1)=none:=by rfl):zi X (.Tuple es k pos) (.tp l):=⟨by
 have h:=vj (pos:=pos) (k:=k) hc h.ok h.len hst
 unfold Tg.g2
 exact h⟩
end
noncomputable def j1{κ:Type} [DecidableEq κ](kvs:List (κ×PV))(k:κ)(v:PV):List (κ×PV):=
 if (kvs.any λkv=>decide (kv.1=k))=true then kvs.map (λkv=>if kv.1=k then (kv.1,v) else kv) else kvs++[(k,v)]
theorem JZ.append{K:Vo}{H:Hp}{κ:Type}:∀{vs us:List (κ×V)}{ps qs:List (κ×PV)},JZ K H vs ps->JZ K H us qs->JZ K H (vs++us) (ps++qs)
 |_,_,_,_,.nil,s=>s
 |_,_,_,_,.cons a r,s=>.cons a (JZ.append r s)
def JZ.put{K:Vo}{H:Hp}{κ:Type} [DecidableEq κ]{k:κ}{v:V}{p:PV}(q:Rep K H v p){vs:List (κ×V)}{ps:List (κ×PV)}(r:JZ K H vs ps):JZ K H (fk vs k v) (j1 ps k p):=by
 have e:(vs.any λkv=>decide (kv.1=k))=(ps.any λkv=>decide (kv.1=k)):=by rw[kC,r.any]
 unfold fk j1
 rw[e]
 split
 .clear e
  rename_i h
  clear h
  induction r with
  |nil=>exact .nil
  |@cons k' v' p' vs' ps' a r ih=>
   rw[UE,UE]
   by_cases z:k'=k
   .rw[if_pos z,if_pos z];exact .cons q ih
   .rw[if_neg z,if_neg z];exact .cons a ih
 .exact r.append (.cons q .nil)
def cv(o i v:PV)(S:aq)(Q:aq->Prop):Prop:=match o with
 | .ref a=>(match S a with
  |some (.lst xs)=>(match i with | .int k=>(match r_ xs.length k with|some j=>Q (JH S a (.lst (xs.set j v)))|none=>False)|_=>False)
  |some (.dct kvs)=>(match nq i with|some k=>kvs.length < sizeLine/\Q (JH S a (.dct (j1 kvs k v)))|none=>False)
  |_=>False)
 |_=>False
section
variable {X:Cx}{e o i:Expr}{te to ti:aO}{pos pos':Pos}
noncomputable def HV(X:Cx):V->V->V->Hp->(Hp->Prop)->Prop:=λo i v H Q=>∃po pi pv S Q3,Rep X.K H o po/\Rep X.K H i pi/\Rep X.K H v pv/\JM X.K H S/\cv po pi pv S Q3/\∀S' H',Q3 S'->JM X.K H' S'->Grow X.K H H'->Q H'
def qQ(hu:X.A.units+1 < cLine):zv X (HV X):=by
 intro pins s σ H o i v ov iv u Q I ro ri rv ⟨po,pi,pv,S,Q3,r1,r2,r3,rS,q,k⟩
 unfold cv at q
 split at q
 .split at q
  .rename_i e
   split at q
   .split at q
    .rename_i ej
     cases r1;cases r2
     obtain⟨vs,hv,rl⟩:=rS _ _ e
     rw[<-rl.length]at ej
     exact vI pins s σ H _ _ _ ov iv u Q I ro ri rv ⟨_,_,_,_,rfl,rfl,hv,ej,k _ _ q (rS.put hv trivial ⟨_,au,((rl.set r3 _).mono (.mut hv trivial))⟩) (.mut hv trivial)⟩
    .exact q.elim
   .exact q.elim
  .rename_i e
   split at q
   .rename_i ek
    cases r1
    have e1:=eh r2 ek
    subst e1
    obtain⟨kv,hv,rk⟩:=rS _ _ e
    exact ww hu pins s σ H _ _ _ ov iv u Q I ro ri rv ⟨_,_,rfl,N4.k hv (by rw[rk.length];exact q.1),k _ _ q.2 (rS.put hv trivial ⟨_,au,(rk.put r3).mono (.mut hv trivial)⟩) (.mut hv trivial)⟩
   .exact q.elim
  .exact q.elim
 .exact q.elim
def i_(te to ti:aO):bB:=λD σ S=>te σ S (λv S1=>to σ S1 (λo S2=>ti σ S2 (λi S3=>cv o i v S3 (λS4=>D.nx σ S4)) D.ex) D.ex) D.ex
def mq(hu:X.A.units+1 < cLine)(he:aY X e te)(ho:aY X o to)(hi:aY X i ti)
  (ha:∀v,assign (.Subscript o i pos') X.env v=(do
   let ov <-holding [v] (eval o X.env)
   let iv <-holding [v,ov] (eval i X.env)
   standAt pos'
   holding [v,ov,iv] (setItem ov iv v)
   release [v,ov,iv] []):=by intro _;rfl)
  (hs:swapsWithSole [.Subscript o i pos'] e pos.line X.env=pure false:=by rfl) (hw:swappedStores [.Subscript o i pos'] e X.env=pure none:=by rfl)
  (h1:(assignEach [.Subscript o i pos'] X.env).map (·.2)=[assign (.Subscript o i pos') X.env]:=by rfl):ml X (.Assign [.Subscript o i pos'] e pos) (i_ te to ti):=
 ⟨b7 (vk he.ok (qu ho.ok hi.ok (qQ hu) ha) hs hw h1) λD σ H ⟨σ3,S,D3,rσ,rS,h,xo,n,r,bk,ct⟩=>⟨σ3,S,_,D3.ex,rσ,rS,h,xo,λv S1 v' H1 h1 rv JT g1=>
  ⟨σ3,S1,_,D3.ex,rσ.mono g1,JT,h1,xo.mono g1,λo S2 o' H2 h2 ro KY g2=>⟨σ3,S2,_,D3.ex,rσ.mono (g1.trans g2),KY,h2,xo.mono (g1.trans g2),λi S3 i' H3 h3 ri NY g3=>
   ⟨o,i,v,S3,_,ro.mono g3,ri,rv.mono (g2.trans g3),NY,h3,λS4 H4 h4 Qe g4=>n _ S4 _ H4 h4 (rσ.mono (g1.trans (g2.trans (g3.trans g4)))) Qe (g1.trans (g2.trans (g3.trans g4)))⟩⟩⟩⟩⟩
end
end L3
namespace L2
open PySem PySem.Spec PyProof.Rows
section
variable {X:Cx}{tg:Expr}
def HW(K:Vo)(tl:TE):TI:=λσ H R=>tl σ H λx H1=>(∃a,x = .ref a/\(∃xs,SqL K H1 a xs)/\R (G4 K a) H1)\/(∃a,x = .ref a/\(∃xs,SqT K H1 a xs)/\R (Hv K a) H1)\/∃z,x = .str z/\R (HL z) H1
def Dw{l:Expr}{tl:TE}(hl:PE X l tl):PI X tg l (HW X.K tl):=by
 intro pins s σ H R I h
 refine JN (hl pins s σ H _ I h) λv s1 ⟨x,H1,I1,r1,q1⟩=>?_
 rcases q1 with⟨a,e,⟨xs,hq⟩,q⟩|⟨a,e,⟨xs,hq⟩,q⟩|⟨z,e,q⟩
 .subst e
  cases r1
  obtain⟨its,rv,p,hz⟩:=I1.list hq
  refine WO p.isList ?_
  refine⟨s1.heap.objs.size,[s1.heap.objs.size],_,_,H1,rfl,I1.kept (t':=s1.toks) λb o e=>UG _ e,tR a _,⟨_,U0 _ rfl,rfl,rfl⟩,λb hb=>?_,q⟩
  have e:b=s1.heap.objs.size:=by simpa using hb
  subst e
  exact I1.Lb (UH _) (I1.hok.fresh (UH _))
 .subst e
  cases r1
  obtain⟨its,rv,p,hz⟩:=I1.tuple hq
  refine W4 (show s1.heap.IsTuple a its.toArray from p) ?_
  refine⟨s1.heap.objs.size,[s1.heap.objs.size],_,_,H1,rfl,I1.kept (t':=s1.toks) λb o e=>UG _ e,qv a _,⟨_,U0 _ rfl,rfl,rfl⟩,λb hb=>?_,q⟩
  have e:b=s1.heap.objs.size:=by simpa using hb
  subst e
  exact I1.Lb (UH _) (I1.hok.fresh (UH _))
 .subst e
  obtain⟨t,rfl⟩:=r1
  have fin:∀ty,(ty = "str_ascii_iterator" \/ ty = "str_iterator")->G3 X pins σ tg R (.ref s1.heap.objs.size) { s1 with heap:=s1.heap.push { cls:=.type ty,data:=.fields #[.str z t,.int 0 0] } }:=λty hty=>by
   refine⟨s1.heap.objs.size,[s1.heap.objs.size],_,_,H1,rfl,I1.kept (t':=s1.toks) λb o e=>UG _ e,vT hty _ z t,⟨UZ _,_,U0 _ rfl,rfl,rfl⟩,λb hb=>?_,q⟩
   have e:b=s1.heap.objs.size:=by simpa using hb
   subst e
   exact I1.Lb (UH _) (I1.hok.fresh (UH _))
  cases ha:z.cps.all (· < 128)
  .exact wpAny_pyIter_wide ha (fin _ (.inr rfl))
  .exact wpAny_pyIter_ascii ha (fin _ (.inl rfl))
end
end L2
namespace L3
open PySem L2
structure HX where
 items:List PV
 keep:aq->Prop
def jK(K:Vo)(H0:Hp)(J:It)(src:HX):Prop:=∀(i:Nat)(S:aq)(H:Hp),Grow K H0 H->JM K H S->src.keep S->
 (∀p,src.items[i]?=some p->J.go i H/\∀x H',J.QI i H x H'->Rep K H' x p/\JM K H' S/\Grow K H H')/\(i=src.items.length->J.stop i H)
abbrev sy:=bZ->aq->(HX->aq->Prop)->cq->Prop
inductive LI(X:Cx)(t:sy)(σ:L2.St)(H:Hp)(R:It->Hp->Prop):Prop
 |mk (σ3 S R3 E3) (rσ:JR X.K H σ σ3) (rS:JM X.K H S) (h:t σ3 S R3 E3) (xo:NX X H E3) (k:∀src S' J H',R3 src S'->jK X.K H' J src->JM X.K H' S'->Grow X.K H H'->R J H'):LI X t σ H R
structure wK(X:Cx)(tg iter:Expr)(t:sy):Prop where
 ok:PI X tg iter (LI X t)
def kQ{X:Cx}{tg iter:Expr}{t t':TI}(h:PI X tg iter t)(k:∀σ H R,t' σ H R->t σ H R):PI X tg iter t':=λpins s σ H R I q=>h pins s σ H R I (k σ H R q)
section
variable {X:Cx}{e tg:Expr}{es:List Expr}{te:aO}{ts:List aO}{p pos:Pos}
noncomputable def eR(S:aq):PV->Option HX
 | .tup xs=>some ⟨xs,λ_=>True⟩
 | .cl xs=>some ⟨xs,λ_=>True⟩
 | .str z=>some ⟨z.cps.toList.map λc=>.str (sgn c),λ_=>True⟩
 | .ref a=>(match S a with|some (.lst xs)=>some ⟨xs,λS'=>S' a=some (.lst xs)⟩|_=>none)
 |_=>none
def bE(te:aO):sy:=λσ S R E=>te σ S (λv S1=>match eR S1 v with|some src=>R src S1|none=>False) E
end
section
variable {X:Cx}{e tg a b:Expr}{es:List Expr}{te ta tb:aO}{ts:List aO}{p pos:Pos}
def wL{K:Vo}{H0:Hp}{a:Addr}{xs:List PV}:jK K H0 (G4 K a) ⟨xs,λS'=>S' a=some (.lst xs)⟩:=by
 intro i S H g rS hk
 obtain⟨vs,hv,rs⟩:=rS a _ hk
 refine⟨λp hp=>?_,λhi=>⟨vs,SqL.of hv,by rw[rs.length,hi];exact UH _⟩⟩
 obtain⟨v,hx,rv⟩:=rs.get hp
 refine⟨⟨vs,v,SqL.of hv,hx⟩,λx H' ⟨e,h⟩=>?_⟩
 subst e
 have:=h vs (SqL.of hv)
 rw[hx]at this
 cases this
 exact⟨rv,rS,.refl⟩
def An{K:Vo}{H0:Hp}{a:Addr}{vs:List V}{xs:List PV}(h:SqT K H0 a vs)(rs:Reps K H0 vs xs):jK K H0 (Hv K a) ⟨xs,λ_=>True⟩:=by
 intro i S H g rS _
 have hv:=g.t _ _ h
 refine⟨λp hp=>?_,λhi=>⟨vs,hv,by rw[rs.length,hi];exact UH _⟩⟩
 obtain⟨v,hx,rv⟩:=rs.get hp
 refine⟨⟨vs,v,hv,hx⟩,λx H' ⟨e,h⟩=>?_⟩
 subst e
 have:=h vs hv
 rw[hx]at this
 cases this
 exact⟨rv.mono g,rS,.refl⟩
def Dx{K:Vo}{H0:Hp}{a:Addr}{vs:List V}{xs:List PV}(h:PJ K H0 a vs)(rs:Reps K H0 vs xs):jK K H0 (G4 K a) ⟨xs,λ_=>True⟩:=by
 intro i S H g rS _
 have hv:=(g.c _ _ h).sq
 refine⟨λp hp=>?_,λhi=>⟨vs,hv,by rw[rs.length,hi];exact UH _⟩⟩
 obtain⟨v,hx,rv⟩:=rs.get hp
 refine⟨⟨vs,v,hv,hx⟩,λx H' ⟨e,h⟩=>?_⟩
 subst e
 have:=h vs hv
 rw[hx]at this
 cases this
 exact⟨rv.mono g,rS,.refl⟩
def Ao{K:Vo}{H0:Hp}{z:Str}:jK K H0 (HL z) ⟨z.cps.toList.map λc=>.str (sgn c),λ_=>True⟩:=by
 intro i S H g rS _
 refine⟨λp hp=>?_,λhi=>by show z.cps.size<=i;rw[hi,UJ,Xr];exact UH _⟩
 rw[U7]at hp
 cases hc:z.cps.toList[i]? with
 |none=>rw[hc]at hp;cases hp
 |some c=>
  rw[hc]at hp
  cases hp
  have hc':z.cps[i]?=some c:=by simpa using hc
  refine⟨?_,λx H' ⟨e,c',h1,h2⟩=>?_⟩
  .show i < z.cps.size
   by_cases hi:i < z.cps.size
   .exact hi
   .rw[Array.getElem?_eq_none (by omega)]at hc';cases hc'
  .subst e
   rw[hc']at h1
   cases h1
   subst h2
   exact⟨.str _,rS,.refl⟩
def dC(he:aY X e te):wK X tg e (bE te):=⟨kQ (Dw he.ok) λσ H R ⟨σ3,S,R3,E3,rσ,rS,h,xo,k⟩=>⟨σ3,S,_,E3,rσ,rS,h,xo,λv S1 v' H1 h1 rv JT g1=>by
 split at h1
 .rename_i src hs
  unfold eR at hs
  split at hs
  .cases hs
   cases rv with
   |tup hq rs=>exact .inr (.inl ⟨_,rfl,⟨_,hq⟩,k _ S1 _ H1 h1 (An hq rs) JT g1⟩)
  .cases hs
   cases rv with
   |cl hq rs=>exact .inl ⟨_,rfl,⟨_,hq.sq⟩,k _ S1 _ H1 h1 (Dx hq rs) JT g1⟩
  .cases hs
   cases rv
   exact .inr (.inr ⟨_,rfl,k _ S1 _ H1 h1 Ao JT g1⟩)
  .cases rv
   split at hs
   .rename_i ea
    cases hs
    obtain⟨vs,hv,rs⟩:=JT _ _ ea
    exact .inl ⟨_,rfl,⟨_,SqL.of hv⟩,k _ S1 _ H1 h1 wL JT g1⟩
   .cases hs
  .cases hs
 .exact h1.elim⟩⟩
noncomputable def bM(lo:Int)(n:Nat):List PV:=(List.range n).map λ(i:Nat)=>PV.int (lo+i)
def mr{K:Vo}{H0:Hp}{lo:Int}{n:Nat}:jK K H0 (Fu lo n) ⟨bM lo n,λ_=>True⟩:=by
 intro i S H g rS _
 refine⟨λp hp=>?_,λhi=>by show n<=i;rw[hi];simp[bM]⟩
 unfold bM at hp
 rw[U7]at hp
 by_cases hi:i < n
 .rw[Xs hi]at hp
  cases hp
  refine⟨hi,λx H' ⟨e,h⟩=>?_⟩
  subst e h
  exact⟨.int _,rS,.refl⟩
 .rw[VR (by simpa using hi)]at hp
  cases hp
def ja(ta:aO):sy:=λσ S R E=>ta σ S (λv S1=>match v with | .int j=>-(2 ^ 62)<=j/\j < 2 ^ 62/\R ⟨bM 0 j.toNat,λ_=>True⟩ S1|_=>False) E
def ft(hs:starEach [a] X.env=[(false,eval a X.env)])(hg:Gl X "range")(hm:X.mg "range" = none)(ha:jG X [a] [ta]):wK X tg (.Call (.Name "range" p) [a] [] pos) (ja ta):=
 ⟨kQ (tS hg hm ha.ok hs) λσ H R ⟨σ3,S,R3,E3,rσ,rS,h,xo,k⟩=>⟨σ3,S,_,E3,rσ,rS,h,xo,λv S1 v' H1 h1 rv JT g1=>by
  split at h1
  .cases rv
   exact⟨_,rfl,h1.1,h1.2.1,k _ S1 _ H1 h1.2.2 mr JT g1⟩
  .exact h1.elim⟩⟩
def pD(ta tb:aO):sy:=λσ S R E=>ta σ S (λv S1=>tb σ S1 (λw S2=>match v,w with | .int i,.int j=>(-(2 ^ 62)<=i/\i < 2 ^ 62/\-(2 ^ 62)<=j/\j < 2 ^ 62)/\R ⟨bM i (j - i).toNat,λ_=>True⟩ S2|_,_=>False) E) E
def pE(hs:starEach [a,b] X.env=[(false,eval a X.env),(false,eval b X.env)])(hs2:starEach [b] X.env=[(false,eval b X.env)])(hg:Gl X "range")(hm:X.mg "range" = none)(ha:jG X [a,b] [ta,tb]):wK X tg (.Call (.Name "range" p) [a,b] [] pos) (pD ta tb):=
 ⟨kQ (tT hg hm ha.ok hs hs2) λσ H R ⟨σ3,S,R3,E3,rσ,rS,h,xo,k⟩=>⟨σ3,S,_,E3,rσ,rS,h,xo,λv S1 v' H1 h1 rv JT g1=>⟨σ3,S1,_,E3,rσ.mono g1,JT,h1,xo.mono g1,λw S2 w' H2 h2 rw' KY g2=>by
  split at h2
  .cases rv;cases rw'
   exact⟨_,_,rfl,h2.1,k _ S2 _ H2 h2.2 mr KY (g1.trans g2)⟩
  .exact h2.elim⟩⟩⟩
noncomputable def eE(xs ys:List PV):List PV:=(xs.zip ys).map λz=>.tup [z.1,z.2]
def NG(K:Vo)(H0:Hp)(ka:Bool)(a:Addr)(xs:List PV)(keep:aq->Prop):Prop:=∀S H,Grow K H0 H->JM K H S->keep S->∃vs,ug ka K H a vs/\Reps K H vs xs
def NG.tup{K:Vo}{H0:Hp}{a:Addr}{vs:List V}{xs:List PV}{keep:aq->Prop}(h:SqT K H0 a vs)(r:Reps K H0 vs xs):NG K H0 false a xs keep:=λ_ _ g _ _=>⟨vs,g.t _ _ h,r.mono g⟩
theorem NG.lst{K:Vo}{H0:Hp}{a:Addr}{xs:List PV}{keep:aq->Prop}(h:∀S,keep S->S a=some (.lst xs)):NG K H0 true a xs keep:=λS _ _ rS k=>let ⟨vs,hv,r⟩:=rS _ _ (h S k);⟨vs,SqL.of hv,r⟩
def j_{K:Vo}{H0:Hp}{ka kb:Bool}{a b:Addr}{xs ys:List PV}{keep:aq->Prop}(h1:NG K H0 ka a xs keep)(h2:NG K H0 kb b ys keep):jK K H0 (HP ka kb K a b) ⟨eE xs ys,keep⟩:=by
 intro i S H g rS kp
 obtain⟨vs,hv,r1⟩:=h1 S H g rS kp
 obtain⟨us,hu,r2⟩:=h2 S H g rS kp
 have l1:=r1.length
 have l2:=r2.length
 refine⟨λp hp=>?_,λhi=>⟨vs,us,hv,hu,?_⟩⟩
 .unfold eE at hp
  rw[U7]at hp
  cases hz:(xs.zip ys)[i]? with
  |none=>rw[hz]at hp;cases hp
  |some z=>
   rw[hz]at hp
   cases hp
   obtain⟨e1,e2⟩:=List.getElem?_zip_eq_some.mp hz
   obtain⟨v,hx',rv⟩:=r1.get e1
   obtain⟨u,hy',ru⟩:=r2.get e2
   refine⟨⟨vs,us,v,u,hv,hu,hx',hy'⟩,λx H' ⟨q,x2,y2,e3,hq,e4,h⟩=>?_⟩
   subst e3 e4
   obtain⟨k1,k2⟩:=h vs us hv hu
   rw[hx']at k1
   rw[hy']at k2
   cases k1;cases k2
   exact⟨.tup (SqT.of au) (.cons (rv.mono (.new hq)) (.cons (ru.mono (.new hq)) .nil)),rS.other hq,.new hq⟩
 .have e:(eE xs ys).length=min xs.length ys.length:=by simp[eE]
  rw[e]at hi
  by_cases hle:xs.length<=ys.length
  .exact .inl (by omega)
  .exact .inr (by omega)
end
section
variable {X:Cx}{iter tg c:Expr}{body:List Stmt}{ti:sy}{g:Tg}{tb:bB}{tc:iw}{pos:Pos}
noncomputable def nu(g:Tg)(tb:bB)(D:ix)(keep:aq->Prop):List PV->bZ->aq->Prop
 |[],σ,S=>keep S/\D.nx σ S
 |x::r,σ,S=>keep S/\match g.put x σ with|some σ'=>tb { D with nx:=nu g tb D keep r,ct:=nu g tb D keep r,bk:=D.nx } σ' S|none=>False
def cH(ti:sy)(g:Tg)(tb:bB):bB:=λD σ S=>ti σ S (λsrc S1=>nu g tb D src.keep src.items σ S1) D.ex
def eS(hp:PassesOwn (model X.prog X.w) X.A X.env X.xe)(hc:X.calm=true)(hi:wK X tg iter ti)(hg:zi X tg g)(hb:eB X body tb)(hs:∀x,foldedSetIterable iter X.env x=pure x:=by intro _;rfl):ml X (.For tg iter body [] pos) (cH ti g tb):=
 ⟨b7 (CH hp hc hi.ok hg.ok hb.ok hs) λD σ H ⟨σ3,S,D3,rσ,rS,h,xo,n,r,bk,ct⟩=>⟨σ3,S,_,D3.ex,rσ,rS,h,xo,λsrc S1 J H1 h1 sim JT g1=>by
  refine⟨λi m σ' H'=>i+m=src.items.length/\∃σ4 S',JR X.K H' σ' σ4/\JM X.K H' S'/\Grow X.K H1 H'/\nu g tb D3 src.keep (src.items.drop i) σ4 S',⟨src.items.length,Xn _,σ3,S1,rσ.mono g1,JT,.refl,by simpa using h1⟩,?_⟩
  rintro i m σ' H' ⟨hm,σ4,S',Ou,KE,g',hw⟩
  cases hd:src.items.drop i with
  |nil=>
   rw[hd]at hw
   have hi:i=src.items.length:=by
    have:=U4 List.length hd
    rw[Wt,Wr]at this
    omega
   exact .inl ⟨(sim i S' H' g' KE hw.1).2 hi,n _ S' _ H' hw.2 Ou KE (g1.trans g')⟩
  |cons x rest=>
   rw[hd]at hw
   have hx:src.items[i]?=some x:=by
    have:=U4 (λl=>l[0]?) hd
    simpa using this
   have hrest:src.items.drop (i+1)=rest:=by
    have:=U4 List.tail hd
    simpa [Ww]using this
   have hlt:i < src.items.length:=by
    by_cases z:i < src.items.length
    .exact z
    .rw[VR (by omega)]at hx;cases hx
   obtain⟨go,yl⟩:=(sim i S' H' g' KE hw.1).1 x hx
   refine .inr ⟨go,λσ5 H5=>∃σ6 S6,JR X.K H5 σ5 σ6/\JM X.K H5 S6/\Grow X.K H1 H5/\nu g tb D3 src.keep rest σ6 S6,?_,λv H5 hv=>?_⟩
   .rintro σ5 H5 ⟨σ6,S6,q1,q2,q3,q4⟩
    exact⟨m - 1,by omega,by omega,σ6,S6,q1,q2,q3,by rw[hrest];exact q4⟩
   .obtain⟨rv,Pj,g5⟩:=yl v H5 hv
    obtain⟨_,hw⟩:=hw
    split at hw
    .rename_i σ6 e6
     refine Tg.Mz (own:=0) g rv (Ou.mono g5) e6 λσ7 Pk _=>?_
     exact⟨σ6,S',_,Pk,Pj,hw,xo.mono (g1.trans (g'.trans g5)),λσ8 S8 σ9 H9 q1 q2 q3 q4=>⟨σ8,S8,q2,q3,g'.trans (g5.trans q4),q1⟩,r.mono (g1.trans (g'.trans g5)),n.mono (g1.trans (g'.trans g5)),
      λσ8 S8 σ9 H9 q1 q2 q3 q4=>⟨σ8,S8,q2,q3,g'.trans (g5.trans q4),q1⟩⟩
    .exact hw.elim⟩⟩
def nw(tc:iw)(tb:bB):bB:=λD σ S=>∃W:Nat->bZ->aq->Prop,(∃m,W m σ S)/\∀m σ S,W m σ S->
 tc σ S (λb S1=>if b=true then ∃N:bZ->aq->Prop,(∀σ' S',N σ' S'->∃m',m' < m/\W m' σ' S')/\tb { D with nx:=N,ct:=N,bk:=D.nx } σ S1 else D.nx σ S1) D.ex
def ny(hp:PassesOwn (model X.prog X.w) X.A X.env X.xe)(hc:pp X c tc)(hb:eB X body tb):ml X (.While c body [] pos) (nw tc tb):=
 ⟨b7 (vm hp hc.ok hb.ok) λD σ H ⟨σ3,S,D3,rσ,rS,⟨W,⟨m0,w0⟩,turn⟩,xo,n,r,bk,ct⟩=>by
  refine⟨λm σ' H'=>∃σ4 S',JR X.K H' σ' σ4/\JM X.K H' S'/\Grow X.K H H'/\W m σ4 S',⟨m0,σ3,S,rσ,rS,.refl,w0⟩,?_⟩
  rintro m σ' H' ⟨σ4,S',Ou,KE,g',w'⟩
  refine⟨σ4,S',_,D3.ex,Ou,KE,turn m σ4 S' w',xo.mono g',λb S1 H1 h1 JT g1=>?_⟩
  cases b with
  |true=>
   rw[if_pos rfl]at h1 ⊢
   obtain⟨N,hN,h1⟩:=h1
   refine⟨λσ5 H5=>∃σ6 S6,JR X.K H5 σ5 σ6/\JM X.K H5 S6/\Grow X.K H H5/\N σ6 S6,?_,?_⟩
   .rintro σ5 H5 ⟨σ6,S6,q1,q2,q3,q4⟩
    obtain⟨m',hm,w6⟩:=hN σ6 S6 q4
    exact⟨m',hm,σ6,S6,q1,q2,q3,w6⟩
   .exact⟨σ4,S1,_,Ou.mono g1,JT,h1,xo.mono (g'.trans g1),λσ8 S8 σ9 H9 q1 q2 q3 q4=>⟨σ8,S8,q2,q3,g'.trans (g1.trans q4),q1⟩,r.mono (g'.trans g1),n.mono (g'.trans g1),
     λσ8 S8 σ9 H9 q1 q2 q3 q4=>⟨σ8,S8,q2,q3,g'.trans (g1.trans q4),q1⟩⟩
  |false=>
   rw[if_neg (by decide)]at h1 ⊢
   exact n _ S1 _ H1 h1 (Ou.mono g1) JT (g'.trans g1)⟩
end
noncomputable def fu:cq:=λ_ _ _=>False
def NX.no{X:Cx}{H:Hp}:NX X H fu:=λ_ _ _ _ _ _ _ _ _ _ _ _ _ _ h=>h.elim
section
variable {X:Cx}{elt iter tg c:Expr}{ifs:List Expr}{scope:Scope}{pos:Pos}{ti:sy}{g:Tg}{tc:iw}{te:aO}{fs N:Vs}{own:Nat}{fr:List Nat}
noncomputable def dl(g:Tg)(tc:iw)(te:aO)(σ':bZ)(keep:aq->Prop)(fin:List PV->aq->Prop):List PV->List PV->aq->Prop
 |[],ys,S=>keep S/\ys.length<=sizeLine/\fin ys S
 |x::r,ys,S=>keep S/\ys.length<=sizeLine/\match g.put x σ' with
  |some σ2=>tc σ2 S (λb S3=>if b=true then te σ2 S3 (λy S4=>dl g tc te σ' keep fin r (ys++[y]) S4) fu else dl g tc te σ' keep fin r ys S3) fu
  |none=>False
def eF:iw:=λ_ S Q _=>Q true S
structure Dy(X:Cx)(ifs:List Expr)(t:iw):Prop where
 ok:PF X ifs (LT X t)
def nz{t t':TT}(h:PF X ifs t)(k:∀σ H Q,t' σ H Q->t σ H Q):PF X ifs t':=λpins s σ H Q I q=>h pins s σ H Q I (k σ H Q q)
def jL:Dy X [] eF:=⟨nz C9 λσ H Q ⟨σ3,S,Q3,E3,rσ,rS,h,xo,k⟩=>k true S H h rS .refl⟩
def wM(h:pp X c tc):Dy X [c] tc:=⟨C_ h.ok⟩
noncomputable def jb(own:Nat)(fr:List Nat)(σ:bZ):bZ:=List.replicate own none++fr.map λj=>lk σ j
def sA{K:Vo}{H:Hp}{σ:L2.St}{σ3:bZ}(r:JR K H σ σ3)(own:Nat)(fr:List Nat):JR K H (di own fr σ) (jb own fr σ3):=by
 refine⟨by unfold di jb;simp,λi p e=>?_⟩
 unfold jb at e
 unfold di
 by_cases hi:i < own
 .rw[V6 (by simpa using hi),Wx,if_pos hi]at e
  cases e
 .rw[Wj (by simpa using hi),Wb,U7]at e ⊢
  cases hj:fr[i - own]? with
  |none=>rw[hj]at e;cases e
  |some j=>
   rw[hj]at e
   simp only[Option.map_some,Option.some.injEq]at e ⊢
   obtain⟨v,hv,rv⟩:=r.at' j p (wm e)
   exact⟨v,by rw[hv];rfl,rv⟩
def bU(ti:sy)(g:Tg)(tc:iw)(te:aO)(own:Nat)(fr:List Nat):aO:=λσ S Q E=>ti σ S (λsrc S1=>dl g tc te (jb own fr σ) src.keep (λys S2=>∀p,S2 p=none->Q (.ref p) (JH S2 p (.lst ys))) src.items [] S1) E
def ms{σ:L2.St}{H:Hp}{Q:VK}(Nc:g.under own=true)(B0:Bk):LE X (bU ti g tc te own fr) σ H Q->vQ (LI X ti) (g.g2 X.K) (λσ H Q=>∃σ3 S Q3,JR X.K H σ σ3/\JM X.K H S/\tc σ3 S Q3 fu/\∀b S' H',Q3 b S'->JM X.K H' S'->Grow X.K H H'->Q b H')
  (λσ H Q=>∃σ3 S Q3,JR X.K H σ σ3/\JM X.K H S/\te σ3 S Q3 fu/\NF X.K H Q3 Q) own fr σ H Q:=λ⟨σ3,S,Q3,E3,rσ,rS,h,xo,k⟩=>by
 refine⟨σ3,S,_,E3,rσ,rS,h,xo,λsrc S1 J H1 h1 sim JT g1=>?_⟩
 refine⟨λi m ys H'=>i+m=src.items.length/\∃zs S',Reps X.K H' ys zs/\JM X.K H' S'/\Grow X.K H1 H'/\dl g tc te (jb own fr σ3) src.keep (λys S2=>∀p,S2 p=none->Q3 (.ref p) (JH S2 p (.lst ys))) (src.items.drop i) zs S',⟨src.items.length,Xn _,[],S1,.nil,JT,.refl,by simpa using h1⟩,?_⟩
 rintro i m ys H' ⟨hm,zs,S',rz,KE,g',hw⟩
 cases hd:src.items.drop i with
 |nil=>
  rw[hd]at hw
  have hi:i=src.items.length:=by
   have:=U4 List.length hd
   rw[Wt,Wr]at this
   omega
  refine .inl ⟨(sim i S' H' g' KE hw.1).2 hi,by rw[rz.length];exact hw.2.1,λD hD=>?_⟩
  exact k _ _ _ _ (hw.2.2 D (KE.free hD)) (.ref D) (KE.new hD ⟨_,au,rz.mono (.new hD)⟩) (g1.trans (g'.trans (.new hD)))
 |cons x rest=>
  rw[hd]at hw
  have hx:src.items[i]?=some x:=by
   have:=U4 (λl=>l[0]?) hd
   simpa using this
  have hrest:src.items.drop (i+1)=rest:=by
   have:=U4 List.tail hd
   simpa [Ww]using this
  have hlt:i < src.items.length:=by
   by_cases z:i < src.items.length
   .exact z
   .rw[VR (by omega)]at hx;cases hx
  obtain⟨go,yl⟩:=(sim i S' H' g' KE hw.1).1 x hx
  refine .inr ⟨go,by rw[rz.length];exact hw.2.1,λys' H5=>∃zs' S6,Reps X.K H5 ys' zs'/\JM X.K H5 S6/\Grow X.K H1 H5/\dl g tc te (jb own fr σ3) src.keep (λys S2=>∀p,S2 p=none->Q3 (.ref p) (JH S2 p (.lst ys))) rest zs' S6,?_,λv H5 hv=>?_⟩
  .rintro ys' H5 ⟨zs',S6,q1,q2,q3,q4⟩
   exact⟨m - 1,by omega,by omega,zs',S6,q1,q2,q3,by rw[hrest];exact q4⟩
  .obtain⟨rv,Pj,g5⟩:=yl v H5 hv
   obtain⟨_,_,hw⟩:=hw
   split at hw
   .rename_i σ6 e6
    refine Tg.Mz (own:=own) g rv ((sA rσ own fr).mono (g1.trans (g'.trans g5))) e6 λσ7 Pk d7=>⟨d7 Nc,?_⟩
    refine⟨σ6,S',_,Pk,Pj,hw,λb S8 H8 h8 Qf g8=>?_⟩
    cases b with
    |true=>
     rw[if_pos rfl]at h8 ⊢
     exact⟨σ6,S8,_,Pk.mono g8,Qf,h8,λy S9 y' H9 h9 ry Rr g9=>⟨zs++[y],S9,(rz.mono (g5.trans (g8.trans g9))).append (.cons ry .nil),Rr,g'.trans (g5.trans (g8.trans g9)),h9⟩⟩
    |false=>
     rw[if_neg (by decide)]at h8 ⊢
     exact⟨zs,S8,rz.mono (g5.trans g8),Qf,g'.trans (g5.trans g8),h8⟩
   .exact hw.elim
def Dz(fs:Vs)(own:Nat)(fr:List Nat)(N:Vs)(Nc:g.under own=true)(hc:X.calm=true)(hclos:closureFor scope X.env=pure (bF X.env fs))(hcell:∀y∈scope.names,y.2 ≠ .cell)(hkind:scope.kind = .function)
  (hnames:∀x∈scope.names,x.2 = .local->scope.names.lookup x.1=some .local) (hcl:bJ X.env fs) (hhas:hasB (relabel scope X.env).names (bF X.env fs)=true)
  (hlen:N.length=own+fr.length) (hN:(N.drop own).map some=fr.map λj=>X.N[j]?) (hF:J3 X.env scope (bF X.env fs) (N.drop own))
  (hi:wK X tg iter ti) (hg:∀B,zi (X.Ku N scope fs B) tg g) (hf:∀B,Dy (X.Ku N scope fs B) ifs tc) (he:∀B,aY (X.Ku N scope fs B) elt te)
  (hs:∀x,foldedSetIterable iter X.env x=pure x:=by intro _;rfl):aY X (.ListComp elt [⟨tg,iter,ifs,0⟩] scope pos) (bU ti g tc te own fr):=
 ⟨aK (zT fs own fr N hc hclos hcell hkind hnames hcl hhas hlen hN hF hi.ok (λB=>(hg B).ok)
  (λB=>nz (hf B).ok λσ H Q ⟨σ3,S,Q3,rσ,rS,h,k⟩=>⟨σ3,S,Q3,fu,rσ,rS,h,.no,k⟩) (λB=>aK (he B).ok λσ H Q ⟨σ3,S,Q3,rσ,rS,h,k⟩=>⟨σ3,S,Q3,fu,rσ,rS,h,.no,k⟩) hs) λ_ _ _=>ms Nc ⟨0,X.s₀,X.H₀,[],[]⟩⟩
def DD(fs:Vs)(own:Nat)(fr:List Nat)(N:Vs){i:Nat}{y:Str}{py spos:Pos}(hX:X.N.Nodup)(hix:X.N[i]?=some y)(hy:X.env.scope.names.lookup y=some .local)
  (hsw:swapsWith (.ListComp elt [⟨tg,iter,ifs,0⟩] scope pos) (some (.Name y py)) spos.line X.env=pure true)
  (Nc:g.under own=true) (hc:X.calm=true) (hclos:closureFor scope X.env=pure (bF X.env fs)) (hcell:∀y∈scope.names,y.2 ≠ .cell) (hkind:scope.kind = .function)
  (hnames:∀x∈scope.names,x.2 = .local->scope.names.lookup x.1=some .local) (hcl:bJ X.env fs) (hhas:hasB (relabel scope X.env).names (bF X.env fs)=true)
  (hlen:N.length=own+fr.length) (hN:(N.drop own).map some=fr.map λj=>X.N[j]?) (hF:J3 X.env scope (bF X.env fs) (N.drop own))
  (hi:wK X tg iter ti) (hg:∀B,zi (X.Ku N scope fs B) tg g) (hf:∀B,Dy (X.Ku N scope fs B) ifs tc) (he:∀B,aY (X.Ku N scope fs B) elt te)
  (hs:∀x,foldedSetIterable iter X.env x=pure x:=by intro _;rfl):ml X (.Assign [.Name y py] (.ListComp elt [⟨tg,iter,ifs,0⟩] scope pos) spos) (ap i (bU ti g tc te own fr)):=
 ⟨b7 (zU fs own fr N hX hix hy hsw hc hclos hcell hkind hnames hcl hhas hlen hN hF hi.ok (λB=>(hg B).ok)
  (λB=>nz (hf B).ok λσ H Q ⟨σ3,S,Q3,rσ,rS,h,k⟩=>⟨σ3,S,Q3,fu,rσ,rS,h,.no,k⟩) (λB=>aK (he B).ok λσ H Q ⟨σ3,S,Q3,rσ,rS,h,k⟩=>⟨σ3,S,Q3,fu,rσ,rS,h,.no,k⟩) hs)
  λD σ H ⟨σ3,S,D3,rσ,rS,h,xo,n,r,bk,ct⟩=>ms Nc ⟨0,X.s₀,X.H₀,[],[]⟩ ⟨σ3,S,_,D3.ex,rσ,rS,h,xo,λp S1 v H1 h1 rv JT g1=>n _ S1 _ H1 h1 ((rσ.mono g1).set rv i) JT g1⟩⟩
end
abbrev aF:=List PV->aq->bP->cq->Prop
noncomputable def Ga(K:Vo)(n:Nat)(sp:aF):Sp:=λvs H Q _=>vs.length=n/\∃ps S Q3 E3,Reps K H vs ps/\JM K H S/\sp ps S Q3 E3/\NF K H Q3 Q
structure NH(cm:Bool)(P:Program)(w:World)(K:Vo)(mg:Vr)(base:Heap)(k:Nat)(f:Addr)(fd:FuncData)(ps:Vs)(sp:aF):Prop where
 ok:gG cm P w K mg base oP k f fd ps (Ga K ps.length sp)
abbrev HY:=NH true
section
variable {X:Cx}{e o:Expr}{es:List Expr}{te to:aO}{ts:List aO}{x:Str}{p pos apos cpos:Pos}{k:Nat}{f:Addr}{fd:FuncData}{ps:Vs}{sp:aF}
def ak(sp:aF)(ts:List aO):aO:=λσ S Q E=>al ts σ S (λps S1=>sp ps S1 Q E) E
def DE{cm:Bool}(F:NH cm X.prog X.w X.K X.mg X.base k f fd ps sp)(hr:RoomG cm k X.A)(hg:Gl X x)(hm:X.mg x=some (.ref f))(hk:PySem.W.keepIn X.K (.ref f)=true)(hb:Binds X.K fd ps [])(he:starEach (e::es) X.env=(false,eval e X.env)::starEach es X.env)(ha:jG X (e::es) ts)
  (hl:ts.length=ps.length:=by rfl) (hdb:(x == ("__debug__":Str))=false:=by decide) (hpl:(backTo pos (starEach es X.env)).any (·.1)=false:=by rfl):aY X (.Call (.Name x p) (e::es) [] pos) (ak sp ts):=
 ⟨aK (zG F.ok hr hg hm hk hb .nil BK ha.ok hdb he hpl) λσ H Q ⟨σ3,S,Q3,E3,rσ,rS,h,xo,k⟩=>bQ rσ rS h xo λps' S' vs H' hl' q rv KE g=>by
  rw[Vp]
  exact⟨by rw[rv.length,hl',hl],ps',S',Q3,E3,rv,KE,q,k.mono g⟩⟩
def Ap(F:HY X.prog X.w X.K X.mg X.base k f fd [] sp)(hr:gB k X.A)(hg:Gl X x)(hm:X.mg x=some (.ref f))(hk:PySem.W.keepIn X.K (.ref f)=true)(hb:Binds X.K fd [] [])
  (hdb:(x == ("__debug__":Str))=false:=by decide):aY X (.Call (.Name x p) [] [] pos) (ak sp []):=
 ⟨aK (vB F.ok hr hg hm hk hb .nil BK hdb) λσ H Q ⟨σ3,S,Q3,E3,rσ,rS,h,xo,k⟩=>⟨rfl,[],S,Q3,E3,.nil,rS,h,k⟩⟩
end
noncomputable def aB(n:Nat)(args:List PV):bZ:=args.map some++List.replicate (n - args.length) none
def bV(n:Nat)(t:bB):aF:=λargs S Q _=>t { nx:=λ_ S'=>Q .non S',rt:=Q,ex:=fu } (aB n args) S
def mv{K:Vo}{H:Hp}{N:Vs}{vs:List V}{ps:List PV}(r:Reps K H vs ps):JR K H (L2.fh N vs) (aB N.length ps):=by
 refine⟨by unfold L2.fh aB;simp[r.length],λi p e=>?_⟩
 unfold aB at e
 unfold L2.fh
 by_cases hi:i < ps.length
 .rw[V6 (by simpa using hi),U7]at e
  cases hp:ps[i]? with
  |none=>rw[hp]at e;cases e
  |some q=>
   rw[hp]at e
   cases e
   obtain⟨v,hv,rv⟩:=r.get hp
   rw[V6 (by rw[UJ,r.length];exact hi),U7,hv]
   exact⟨v,rfl,rv⟩
 .rw[Wj (by simpa using hi),Wx]at e
  split at e
  .cases e
  .cases e
section
variable {P:Program}{w:World}{K:Vo}{mg:Vr}{base:Heap}
noncomputable abbrev DF(cm:Bool)(P:Program)(w:World)(K:Vo)(mg:Vr)(base:Heap)(N:Vs)(qual:Str)(st:Stmt)(f:Addr)(cdv:Value)(A:Around)(outer:List Env)(s:Shared)(H:Hp)(E:XK):Cx:=(gH cm oP P w K mg base N qual (aC st) f cdv A outer s H E).OR
noncomputable abbrev Jr:=DF true
def IV{cm:Bool}{x qual:Str}{st:Stmt}{f:Addr}{fd:FuncData}{N ps:Vs}{k:Nat}{t:bB}(F:N5 K x qual st f fd)(S:b5 N ps (aC st))
  (hbody:∀(cdv:Value)(A:Around)(outer:List Env)(s:Shared)(H:Hp)(E:XK),RoomG cm k (A.deeper (PyProof.Rows.envOfC qual (aC st) s.heap.objs.size f cdv))->eB (DF cm P w K mg base N qual st f cdv A outer s H E) (bj st) t) :
  NH cm P w K mg base (k+1) f fd ps (bV N.length t):=
 ⟨F.ok S (λvs H Q E h=>h.1) λcdv A outer s H vs Q E hr ⟨hl,ps',S',Q3,E3,rv,rS,q,kk⟩=>⟨_,(hbody cdv A outer s H E hr).ok,aB N.length ps',S',_,mv rv,rS,q,.no,λσ3 S2 σ2 H2 h2 _ KY g2=>kk _ S2 _ H2 h2 .non KY g2,kk,λ_ _ _ _ h2=>h2.elim,λ_ _ _ _ h2=>h2.elim⟩⟩
end
section
variable {X:Cx}{o e f:Expr}{to te tf:aO}{pos apos cpos:Pos}
noncomputable def fv:List (aO×aO)->bZ->aq->(List (PV×PV)->aq->Prop)->cq->Prop
 |[],_,S,Q,_=>Q [] S
 |(tk,tv)::r,σ,S,Q,E=>tk σ S (λx S1=>tv σ S1 (λy S2=>fv r σ S2 (λps S3=>Q ((x,y)::ps) S3) E) E) E
noncomputable def kR:List (PV×PV)->Option (List (bp×PV))
 |[]=>some []
 |(x,y)::r=>match nq x,kR r with|some k,some l=>some ((k,y)::l)|_,_=>none
noncomputable def dP(kvs more:List (bp×PV)):List (bp×PV):=more.foldl (λacc kv=>j1 acc kv.1 kv.2) kvs
structure Ha(X:Cx)(pos:Pos)(keys:List (Option Expr))(values:List Expr)(Mb:List (aO×aO)):Prop where
 ok:FP X pos keys values (Mb.map λt=>(LE X t.1,LE X t.2))
def qR:Ha X pos [] [] []:=⟨zO⟩
def cA{k v:Expr}{ks:List (Option Expr)}{vs:List Expr}{tk tv:aO}{Mb:List (aO×aO)}(hk:aY X k tk)(hv:aY X v tv)(hr:Ha X pos ks vs Mb):Ha X pos (some k::ks) (v::vs) ((tk,tv)::Mb):=⟨vN hk.ok hv.ok hr.ok⟩
inductive mw(K:Vo)(H:Hp):List (V×V)->List (PV×PV)->Prop
 |nil:mw K H [] []
 |cons {a b:V} {p q:PV} {vs:List (V×V)} {ps:List (PV×PV)}:Rep K H a p->Rep K H b q->mw K H vs ps->mw K H ((a,b)::vs) ((p,q)::ps)
theorem kS:∀{Mb:List (aO×aO)}{σ:L2.St}{H:Hp}{Q:List (V×V)->Hp->Prop}{σ3:bZ}{S:aq}{Q3:List (PV×PV)->aq->Prop}{E3:cq},JR X.K H σ σ3->JM X.K H S->fv Mb σ3 S Q3 E3->NX X H E3->
  (∀ps S' vs H',ps.length=Mb.length->Q3 ps S'->mw X.K H' vs ps->JM X.K H' S'->Grow X.K H H'->Q vs H')->ng (Mb.map λt=>(LE X t.1,LE X t.2)) σ H Q
 |[],σ,H,Q,σ3,S,Q3,E3,rσ,rS,h,xo,k=>k [] S [] H rfl h .nil rS .refl
 |(tk,tv)::ts,σ,H,Q,σ3,S,Q3,E3,rσ,rS,h,xo,k=>
  ⟨σ3,S,_,E3,rσ,rS,h,xo,λp S1 v H1 h1 rv JT g1=>⟨σ3,S1,_,E3,rσ.mono g1,JT,h1,xo.mono g1,λp2 S2 v2 H2 h2 Tz KY g2=>kS (rσ.mono (g1.trans g2)) KY h2 (xo.mono (g1.trans g2)) λps S3 vs H3 hl h3 Ro NY g3=>
   k ((p,p2)::ps) S3 ((v,v2)::vs) H3 (by rw[UQ,UQ,hl]) h3 (.cons (rv.mono (g2.trans g3)) (Tz.mono g3) Ro) NY (g1.trans (g2.trans g3))⟩⟩
theorem mx{K:Vo}{H:Hp}:∀{vs:List (V×V)}{ps:List (PV×PV)}{l:List (bp×PV)},mw K H vs ps->kR ps=some l->∃kvs:List (bp×V),vs=kvs.map (λkv=>(kV kv.1,kv.2))/\JZ K H kvs l
 |_,_,_,.nil,h=>by cases h;exact⟨[],rfl,.nil⟩
 |_,_,l,.cons a b r,h=>by
  unfold kR at h
  split at h
  .rename_i k l' ek el
   cases h
   obtain⟨kvs,e,q⟩:=mx r el
   refine⟨(k,_)::kvs,?_,.cons b q⟩
   rw[UE,<-e,eh a ek]
  .cases h
def JZ.merge{K:Vo}{H:Hp}{more:List (bp×V)}{m3:List (bp×PV)}(r:JZ K H more m3):∀{kvs:List (bp×V)}{k3:List (bp×PV)},JZ K H kvs k3->JZ K H (ei kvs more) (dP k3 m3):=by
 induction r with
 |nil=>intro kvs k3 q;exact q
 |cons a r ih=>intro kvs k3 q;exact ih (q.put a)
def fw(Mb:List (aO×aO)):aO:=λσ S Q E=>∀p,S p=none->fv Mb σ (JH S p (.dct [])) (λps S2=>S2 p=some (.dct [])/\match kR ps with|some kvs=>Q (.ref p) (JH S2 p (.dct (dP [] kvs)))|none=>False) E
def qS{keys:List (Option Expr)}{values:List Expr}{Mb:List (aO×aO)}(h:Ha X pos keys values Mb)(hall:keys.all (·.isSome)=true:=by rfl)(hl:keys.length=values.length:=by rfl)(h0:keys≠[]:=by exact List.cons_ne_nil _ _)(Ra:keys.length<=15:=by decide)
  (ht:Mb.length<=15:=by exact V3 rfl):aY X (.Dict keys values pos) (fw Mb):=
 ⟨aK (zP h.ok hall hl h0 Ra) λσ H Q ⟨σ3,S,Q3,E3,rσ,rS,hq,xo,k⟩=>λp hp=>by
  have g0:Grow X.K H (upd H p (.dK [])):=.new hp
  refine kS (rσ.mono g0) (rS.new hp (o:=.dct []) ⟨[],au,.nil⟩) (hq p (rS.free hp)) (xo.mono g0) λps S' vs H' hl' q rv KE g=>?_
  obtain⟨e,q⟩:=q
  obtain⟨kv,hv,rk⟩:=KE _ _ e
  cases rk
  refine⟨hv,?_⟩
  split at q
  .rename_i kvs ek
   obtain⟨l,el,rl⟩:=mx rv ek
   refine⟨l,el,?_,k _ _ _ _ q (.ref p) (KE.put hv trivial ⟨_,au,(JZ.merge rl .nil).mono (.mut hv trivial)⟩) (g0.trans (g.trans (.mut hv trivial)))⟩
   have z1:∀{vs:List (V×V)} {ps:List (PV×PV)},mw X.K H' vs ps->vs.length=ps.length:=by
    intro vs ps r
    induction r with
    |nil=>rfl
    |cons _ _ _ ih=>rw[UQ,UQ,ih]
   have z2:=U4 List.length el
   rw[UJ,z1 rv,hl']at z2
   omega
  .exact q.elim⟩
def pF(te:aO):aO:=λσ S Q E=>te σ S (λx S1=>match x with
 | .ref a=>(match S1 a with|some (.lst xs)=>∀p,S1 p=none->Q (.ref p) (JH S1 p (.lst xs.reverse))|_=>False)
 |_=>False) E
def DG{p1 p2 q1 q2:Pos}(hs:starEach [e] X.env=[(false,eval e X.env)])(hc:X.calm=true)(he:aY X e te)(P6:Gl X "list")(hm1:X.mg "list" = none)(Rj:Gl X "reversed")(hm2:X.mg "reversed" = none):aY X (.Call (.Name "list" p1) [.Call (.Name "reversed" p2) [e] [] q2] [] q1) (pF te):=
 ⟨aK (qJ hc he.ok P6 hm1 Rj hm2 hs rfl) λσ H Q ⟨σ3,S,Q3,E3,rσ,rS,h,xo,k⟩=>⟨σ3,S,_,E3,rσ,rS,h,xo,λx S1 v H1 h1 rx JT g1=>by
  split at h1
  .cases rx
   split at h1
   .rename_i ea
    obtain⟨vs,hv,rs⟩:=JT _ _ ea
    exact⟨_,_,rfl,SqL.of hv,λq hq=>k _ _ _ _ (h1 q (JT.free hq)) (.ref q) (JT.new hq ⟨_,au,rs.reverse.mono (.new hq)⟩) (g1.trans (.new hq))⟩
   .exact h1.elim
  .exact h1.elim⟩⟩
end
def dm:R3:=e9 λi j=>.int (i - j)
def gX:R3:=gK (λ_ j=>j≠0) λi j=>.int (i.fmod j)
def kT:R3:=gK pr λi j=>.int (i.fdiv j)
def uy:R3:=gK zA λi j=>.int (i ^ j.toNat)
def my:R3:=e9 λi j=>.bl (decide (i < j))
def qo:R3:=e9 λi j=>.bl (decide (j < i))
def Gb:R3:=e9 λi j=>.bl (decide (j<=i))
section
variable {X:Cx}
def fy:ic X (binaryOp .Sub) dm:=Dr
def fA:ic X (binaryOp .Mod) gX:=Ds
def qT:ic X (binaryOp .FloorDiv) kT:=Ae
def BQ:ic X (binaryOp .Pow) uy:=Dt
def jc:ic X (compareOp .Lt) my:=FY
def lX:ic X (compareOp .Gt) qo:=FZ
def HZ:ic X (compareOp .GtE) Gb:=F1
end
def zj{cm:Bool}{A:Around}{k:Nat}(hr:RoomG cm k A):A.units+1 < cLine:=by have:=hr.un;omega
def pG{cm:Bool}{A:Around}{k:Nat}(hr:RoomG cm k A):A.units+150 < cLine:=by have:=hr.un;omega
def fB{cm:Bool}{A:Around}{k:Nat}(hr:RoomG cm k A):A.units+160 < cLine:=by have:=hr.un;omega
structure Hb(K:Vo)(mg:Vr)(x:Str)(st:Stmt)(ps:Vs)(f:Addr)(fd:FuncData):Prop where
 F:N5 K x x st f fd
 b:Binds K fd ps []
 k:PySem.W.keepIn K (.ref f)=true
 m:mg x=some (.ref f)
def NH.zero{cm:Bool}{P:Program}{w:World}{K:Vo}{mg:Vr}{base:Heap}{k:Nat}{f:Addr}{fd:FuncData}{ps:Vs}{sp:aF}(h:sp=λ_ _ _ _=>False):NH cm P w K mg base k f fd ps sp:=by
 subst h
 exact⟨⟨λvs H Q E q=>q.1,λA outer s H args us vs Q E _ _ _ _ _ ⟨_,_,_,_,_,_,_,q,_⟩=>q.elim⟩⟩
def H_{K:Vo}{H:Hp}{a:Addr}{ns:Vu}{sp:aF}(hO:zQ H)(hS:SqL K H a (ns.map V.int))(h:sp [.cl (ns.map PV.int)] (λ_=>none) (λv _=>v = .bl true) fu):Ga K 1 sp [.ref a] H (λv _=>v = .bl true) λ_ _ _=>False:=by
 have hr:∀l:List Int,Reps K H (l.map V.int) (l.map PV.int):=by
  intro l
  induction l with
  |nil=>exact .nil
  |cons x r ih=>exact .cons (.int x) ih
 refine⟨rfl,[.cl (ns.map PV.int)],λ_=>none,_,fu,.cons (.cl (vs:=ns.map V.int) ?_ (hr ns)) .nil,(λb o e=>by simp at e),h,λp S' v H' q rv rS g=>?_⟩
 .rcases hS with(q|q)|q
  .rcases hO a with z|⟨o,xs,z⟩
   .rw[z]at q;cases q
   .rw[z]at q;cases q
  .exact .inl q
  .exact .inr q
 .subst q
  cases rv
  rfl
end L3
namespace L2
open PySem PySem.Spec PyProof.Rows
end L2
namespace HT
open PySem PySem.Spec PyProof.Rows
section
variable {prog:Program}{w:World}{A:Around}{E:Vq}{s:Shared}
theorem pH{α β:Type}{f g:α->Option β}:∀(l:List α),(∀x∈l,f x=g x)->l.filterMap f=l.filterMap g
 |[],_=>rfl
 |x::l,h=>by rw[WV,WV,h x (by simp),pH l λy hy=>h y (by simp[hy])]
def wN(xs:Vw):((List.range xs.size).filterMap λ(m:Nat)=>xs[((xs.size:Int) - 1+(m:Int) * (-1)).toNat]?)=xs.toList.reverse:=by
 have e:∀m∈List.range xs.size,xs[((xs.size:Int) - 1+(m:Int) * (-1)).toNat]?=some (xs.toList.reverse.getD m default):=by
  intro m hm
  have hm':=Yv.mp hm
  have:((xs.size:Int) - 1+(m:Int) * (-1)).toNat=xs.size - 1 - m:=by omega
  rw[this,List.getD_eq_getElem?_getD,List.getElem?_reverse (by simpa using hm'),Xr,XZ,Array.getElem?_eq_getElem (by omega)]
  rfl
 rw[pH _ e,List.filterMap_eq_map']
 apply List.ext_getElem?
 intro i
 rw[U7]
 by_cases hi:i < xs.size
 .rw[Xs hi,Option.map_some,List.getD_eq_getElem?_getD,U9 (by simpa using hi)]
  rfl
 .rw[VR (by simpa using hi),VR (by simpa using hi)]
  rfl
end
end HT
namespace L2
open PySem PySem.Spec PyProof.Rows
end L2
namespace L3
open PySem L2
end L3
namespace L2
open PySem PySem.Spec PyProof.Rows
end L2
namespace L3
open PySem L2
section
variable {X:Cx}{a b c:Expr}{ta tb tc:aO}{pos:Pos}
def nA(r r':R3)(ta tb tc:aO):aO:=λσ S Q E=>ta σ S (λx S1=>tb σ S1 (λy S2=>r x y S2 λz S3=>match z with | .bl k=>if k=true then tc σ S3 (λw S4=>r' y w S4 Q) E else Q (.bl false) S3|_=>False) E) E
def qU{r r':R3}{σ:L2.St}{H:Hp}{Q:VK}:LE X (nA r r' ta tb tc) σ H Q->vq (LR X r) (LR X r') (LE X ta) (LE X tb) (LE X tc) σ H Q:=λ⟨σ3,S,Q3,E3,rσ,rS,h,xo,k⟩=>
 ⟨σ3,S,_,E3,rσ,rS,h,xo,λx S1 v H1 h1 rx JT g1=>⟨σ3,S1,_,E3,rσ.mono g1,JT,h1,xo.mono g1,λy S2 u H2 h2 ry KY g2=>⟨x,y,S2,_,rx.mono g2,ry,KY,h2,λz S3 w H3 h3 rz NY g3=>by
  split at h3
  .rename_i k'
   cases rz
   refine⟨k',rfl,?_⟩
   cases k' with
   |false=>rw[if_neg (by decide)]at h3 ⊢;exact k _ S3 _ H3 h3 (.bl false) NY (g1.trans (g2.trans g3))
   |true=>
    rw[if_pos rfl]at h3 ⊢
    exact⟨σ3,S3,_,E3,rσ.mono (g1.trans (g2.trans g3)),NY,h3,xo.mono (g1.trans (g2.trans g3)),λw' S4 v4 H4 h4 r4 Qe g4=>⟨y,w',S4,Q3,ry.mono (g3.trans g4),r4,Qe,h4,k.mono (g1.trans (g2.trans (g3.trans g4)))⟩⟩
  .exact h3.elim⟩⟩⟩
def Aq{op op':CmpOp}{r r':R3}(ho:ic X (compareOp op) r)(ho':ic X (compareOp op') r')(ha:aY X a ta)(hb:aY X b tb)(hc:aY X c tc)(hm:lastMarks [op,op'] [b,c]=false:=by with_unfolding_all rfl):pp X (.Compare a [op,op'] [b,c] pos) (aH (nA r r' ta tb tc)):=
 ⟨kI (vt ho.ok ho'.ok ha.ok hb.ok hc.ok hm) λσ H Q ⟨σ3,S,Q3,E3,rσ,rS,h,xo,k⟩=>qU ⟨σ3,S,_,E3,rσ,rS,h,xo,λp S' v H' h1 rv KE g=>by
  cases p with
  |bl z=>cases rv;exact⟨z,rfl,k z S' H' h1 KE g⟩
  |_=>exact h1.elim⟩⟩
end
end L3
namespace L2
open PySem PySem.Spec PyProof.Rows PySem.AutoSeq1
end L2
namespace L3
open PySem L2
end L3
namespace C
open PySem L2 L3
def fD:bB:=(ae (ap 3 (bU (bE (aA (v3 0) (cz (v3 1)) (cz (c3 (.int 63))))) (.n 0) eF (af kM [(v3 0),(am dm (c3 (.int 0)) (v3 0))]) 1 []))
  (ae (ap 4 (am aG (c3 (.int 7919)) (v3 1)))
  (ae (cH (bE (v3 3)) (.n 2) (ap 4 (am gX (am aG (am j0 (v3 4) (c3 (.int 48271))) (am gX (v3 2) (c3 (.int 2147483629)))) (c3 (.int 2147483647)))))
  (ax (fw [((c3 (.str "seed")),(v3 4)),((c3 (.str "number")),(c3 (.int 0))),((c3 (.str "left")),(pF (bU (bE (v3 3)) (.n 0) (aH (am Gb (v3 0) (am uy (c3 (.int 10)) (c3 (.int 18))))) (v3 0) 1 [])))])))))
def fE:bB:=(ae (nw (kJ (aH (am (bo false) (am az (v3 0) (c3 (.str "number"))) (c3 (.int 0)))) (aH (am qo (af aT [(am az (v3 0) (c3 (.str "left")))]) (c3 (.int 0))))) (i_ (bL "list" qP (am az (v3 0) (c3 (.str "left"))) []) (v3 0) (c3 (.str "number"))))
  (ae (ap 2 (am az (v3 0) (c3 (.str "number"))))
  (ae (a_ (aH (am qo (v3 2) (c3 (.int 0)))) (ae (i_ (am kT (v3 2) (v3 1)) (v3 0) (c3 (.str "number")))
  (ax (am gX (v3 2) (v3 1)))) aJ)
  (ae (ap 3 (am gX (am aG (am j0 (am az (v3 0) (c3 (.str "seed"))) (c3 (.int 48271))) (c3 (.int 7919))) (c3 (.int 2147483647))))
  (ae (i_ (am gX (am aG (am j0 (v3 3) (c3 (.int 40692))) (c3 (.int 104729))) (c3 (.int 2147483399))) (v3 0) (c3 (.str "seed")))
  (ae (ap 4 (am gX (am j0 (am az (v3 0) (c3 (.str "seed"))) (am az (v3 0) (c3 (.str "seed")))) (c3 (.int 2147483563))))
  (ax (am gX (am aG (am j0 (am gX (am j0 (v3 3) (v3 3)) (c3 (.int 2147483629))) (c3 (.int 2147483563))) (v3 4)) (v3 1)))))))))
def gY:bB:=(ae (ux 2 3 (af kM [(v3 0),(am dm (c3 (.int 0)) (v3 0))]) (v3 1))
  (ae (nw (aH (am qo (v3 3) (c3 (.int 0)))) (ux 2 3 (v3 3) (am gX (v3 2) (v3 3))))
  (ax (bG [(am kT (v3 0) (v3 2)),(am kT (v3 1) (v3 2))]))))
def kU:bB:=(ae (nw (aH (am (bo true) (v3 1) (c3 (.int 0)))) (ae (ap 2 (am gX (v3 0) (v3 1)))
  (ae (ap 0 (v3 1))
  (ap 1 (v3 2)))))
  (ax (af uv [(v3 0)])))
end C
namespace Zu
open PySem Zt
open Sem (wp)
end Zu
namespace L2
open PySem PySem.Spec PyProof.Rows
end L2
namespace L3
open PySem L2
end L3
namespace L2
open PySem PySem.Spec PyProof.Rows
end L2
namespace L3
open PySem L2
end L3
namespace C
open PySem L2 L3
end C
namespace Zv
open PySem
open Sem (wp)
end Zv
namespace L2
open PySem PySem.Spec PyProof.Rows
end L2
namespace L3
open PySem L2
end L3
namespace L2
open PySem PySem.Spec PyProof.Rows
end L2
namespace L3
open PySem L2
section
variable {X:Cx}{a b:Expr}{ta tb:aO}{p pos:Pos}
def wO(ta tb:aO):sy:=λσ S R E=>ta σ S (λv S1=>tb σ S1 (λw S2=>match v,w with
 | .tup xs,.tup ys=>R ⟨eE xs ys,λ_=>True⟩ S2
 | .ref a,.ref b=>(match S2 a,S2 b with|some (.lst xs),some (.lst ys)=>R ⟨eE xs ys,λS'=>S' a=some (.lst xs)/\S' b=some (.lst ys)⟩ S2|_,_=>False)
 | .ref a,.tup ys=>(match S2 a with|some (.lst xs)=>R ⟨eE xs ys,λS'=>S' a=some (.lst xs)⟩ S2|_=>False)
 | .tup xs,.ref b=>(match S2 b with|some (.lst ys)=>R ⟨eE xs ys,λS'=>S' b=some (.lst ys)⟩ S2|_=>False)
 |_,_=>False) E) E
def DH{elts:List Expr}{k0:Nat}{N6:Pos}(hs:starEach [a,b] X.env=[(false,eval a X.env),(false,eval b X.env)])(hs2:starEach [b] X.env=[(false,eval b X.env)])(hg:Gl X "zip")(hm:X.mg "zip" = none)(hv:bootBuiltins "zip" = some (.type "zip"))(ha:jG X [a,b] [ta,tb]) :
  wK X (.Tuple elts k0 N6) (.Call (.Name "zip" p) [a,b] [] pos) (wO ta tb):=
 ⟨kQ (Df hg hm hv ha.ok hs hs2) λσ H R ⟨σ3,S,R3,E3,rσ,rS,h,xo,k⟩=>⟨σ3,S,_,E3,rσ,rS,h,xo,λv S1 v' H1 h1 rv JT g1=>⟨σ3,S1,_,E3,rσ.mono g1,JT,h1,xo.mono g1,λw S2 w' H2 h2 rw' KY g2=>by
  have L:∀{a:Addr}{xs:List PV},S2 a=some (.lst xs)->∃vs,ug true X.K H2 a vs:=λe=>let ⟨_,h,_⟩:=KY _ _ e;⟨_,SqL.of h⟩
  split at h2
  .cases rv with
   |tup hq rs=>
    cases rw' with
    |tup hq2 Qg=>exact⟨false,false,_,_,rfl,⟨_,g2.t _ _ hq⟩,⟨_,hq2⟩,k _ S2 _ H2 h2 (j_ (.tup (g2.t _ _ hq) (rs.mono g2)) (.tup hq2 Qg)) KY (g1.trans g2)⟩
  .cases rv
   cases rw'
   split at h2
   .rename_i ea eb
    exact⟨true,true,_,_,rfl,L ea,L eb,k _ S2 _ H2 h2 (j_ (.lst λ_ q=>q.1) (.lst λ_ q=>q.2)) KY (g1.trans g2)⟩
   .exact h2.elim
  .cases rv
   cases rw' with
   |tup hq2 Qg=>
    split at h2
    .rename_i ea
     exact⟨true,false,_,_,rfl,L ea,⟨_,hq2⟩,k _ S2 _ H2 h2 (j_ (.lst λ_ q=>q) (.tup hq2 Qg)) KY (g1.trans g2)⟩
    .exact h2.elim
  .cases rv with
   |tup hq rs=>
    cases rw'
    split at h2
    .rename_i eb
     exact⟨false,true,_,_,rfl,⟨_,g2.t _ _ hq⟩,L eb,k _ S2 _ H2 h2 (j_ (.tup (g2.t _ _ hq) (rs.mono g2)) (.lst λ_ q=>q)) KY (g1.trans g2)⟩
    .exact h2.elim
  .exact h2.elim⟩⟩⟩
end
end L3
namespace C
open PySem L2 L3
end C
namespace L3
open PySem L2 Xc
def Ia(K:Vo)(H:Hp)(E3:cq)(E:XK):Prop:=∀(c:Str)(ks:Vs)(ps:List PV)(S':aq)(H':Hp)(C dx:Addr)(od:Obj)(vs:List V),E3 (.exc c ks ps) [] S'->Kl K c C->vs.length=ks.length->
 H' dx=some (.frz od (.ext (XD dx (ks.zip vs))))->Reps K H' vs ps->JM K H' S'->Grow K H H'->E (.ref C) (some dx) H'
noncomputable def Ic(K:Vo)(n:Nat)(sp:aF):Sp:=λvs H Q E=>vs.length=n/\∃ps S Q3 E3,Reps K H vs ps/\JM K H S/\sp ps S Q3 E3/\NF K H Q3 Q/\Ia K H E3 E
structure Ob(fb:Bool)(P:Program)(w:World)(K:Vo)(mg:Vr)(base:Heap)(k:Nat)(f:Addr)(fd:FuncData)(ps:Vs)(sp:aF):Prop where
 ok:lQ P w K mg base (zh fb P w) k f fd ps (Ic K ps.length sp)
def Ob.zero{fb:Bool}{P:Program}{w:World}{K:Vo}{mg:Vr}{base:Heap}{k:Nat}{f:Addr}{fd:FuncData}{ps:Vs}{sp:aF}(h:sp=λ_ _ _ _=>False):Ob fb P w K mg base k f fd ps sp:=by
 subst h
 exact⟨⟨λvs H Q E q=>q.1,λA outer s H args us vs Q E _ _ _ _ _ ⟨_,_,_,_,_,_,_,q,_⟩=>q.elim⟩⟩
def aR(sp:aF)(ts:List aO):aO:=λσ S Q E=>al ts σ S (λps S1=>sp ps S1 Q (λp _ S'=>E p σ S')) E
def dr(n:Nat)(t:bB):aF:=λargs S Q E=>t { nx:=λ_ S'=>Q .non S',rt:=Q,ex:=λp _ S'=>E p [] S' } (aB n args) S
section
variable {X:Cx}{e o:Expr}{es:List Expr}{te to:aO}{ts:List aO}{x:Str}{p pos apos cpos:Pos}{k:Nat}{f:Addr}{fd:FuncData}{ps:Vs}{sp:aF}
def Ar{fb:Bool}(F:Ob fb X.prog X.w X.K X.mg X.base k f fd ps sp)(hr:gB k X.A)(hg:Gl X x)(hm:X.mg x=some (.ref f))(hk:PySem.W.keepIn X.K (.ref f)=true)(hb:Binds X.K fd ps [])(he:starEach (e::es) X.env=(false,eval e X.env)::starEach es X.env)(ha:jG X (e::es) ts)(hf:X.fr=true->fb=true)
    (hl:ts.length=ps.length:=by rfl) (hdb:(x == ("__debug__":Str))=false:=by decide) (hpl:(backTo pos (starEach es X.env)).any (·.1)=false:=by rfl):aY X (.Call (.Name x p) (e::es) [] pos) (aR sp ts):=
  ⟨aK (wc F.ok hf hr hg hm hk hb ha.ok hdb he hpl) λσ H Q ⟨σ3,S,Q3,E3,rσ,rS,h,xo,k⟩=>bQ rσ rS h xo λps' S' vs H' hl' q rv KE g=>
    ⟨λc d H2=>∃(cn:Str) (ks:Vs) (ps2:List PV) (S2:aq) (C dx:Addr) (od:Obj) (LK:List V),c = .ref C/\d=some dx/\E3 (.exc cn ks ps2) σ3 S2/\Kl X.K cn C/\LK.length=ks.length/\H2 dx=some (.frz od (.ext (XD dx (ks.zip LK))))/\Reps X.K H2 LK ps2/\JM X.K H2 S2/\Grow X.K H' H2,
     ⟨by rw[rv.length,hl',hl],ps',S',Q3,_,rv,KE,q,k.mono g,λcn ks ps2 S2 H2 C dx od LK h1 h2 h3 h4 h5 h6 h7=>⟨cn,ks,ps2,S2,C,dx,od,LK,rfl,rfl,h1,h2,h3,h4,h5,h6,h7⟩⟩,
     λpins c d H2 ⟨cn,ks,ps2,S2,C,dx,od,LK,e1,e2,h1,h2,h3,h4,h5,h6,h7⟩ s' a C' Rs e3 e4 I xa=>by
      subst e1 e2;cases e3;cases e4
      exact xo cn ks ps2 σ3 S2 H2 pins σ s' a _ _ od LK h1 h2 h3 h4 h5 h6 (rσ.mono (g.trans h7)) (g.trans h7) I xa⟩⟩
end
section
variable {P:Program}{w:World}{K:Vo}{mg:Vr}{base:Heap}
noncomputable abbrev nB(fb:Bool)(P:Program)(w:World)(K:Vo)(mg:Vr)(base:Heap)(N:Vs)(qual:Str)(st:Stmt)(f:Addr)(cdv:Value)(A:Around)(outer:List Env)(s:Shared)(H:Hp)(E:XK):Cx:=(qA (zh fb P w) P w K mg base N qual (aC st) f cdv A outer s H E).fb fb
noncomputable abbrev uz:=nB false
def Ie{fb:Bool}{x qual:Str}{st:Stmt}{f:Addr}{fd:FuncData}{N ps:Vs}{k:Nat}{t:bB}(F:N5 K x qual st f fd)(S:b5 N ps (aC st))
  (hbody:∀(cdv:Value)(A:Around)(outer:List Env)(s:Shared)(H:Hp)(E:XK),gB k (A.deeper (PyProof.Rows.envOfC qual (aC st) s.heap.objs.size f cdv))->eB (nB fb P w K mg base N qual st f cdv A outer s H E) (bj st) t) :
  Ob fb P w K mg base (k+1) f fd ps (dr N.length t):=by
 obtain⟨oc,od,kV,doc,pm,an,cdv,ct,osl,rfl,lk,hcd⟩:=F.ex
 refine⟨BH lk hcd S (λvs H Q E h=>h.1) λA outer s H vs Q E hr ⟨hl,ps',S',Q3,E3,rv,rS,q,kk,kx⟩=>⟨LS (nB fb P w K mg base N qual st f cdv A outer s H E) t,?_,aB N.length ps',S',_,mv rv,rS,q,?_,λσ3 S2 σ2 H2 h2 _ KY g2=>kk _ S2 _ H2 h2 .non KY g2,kk,λ_ _ _ _ h2=>h2.elim,λ_ _ _ _ h2=>h2.elim⟩⟩
 .intro pins s1 σ1 H1 D1 I1 h1
  refine V8 ((hbody cdv A outer s H E hr).ok pins s1 σ1 H1 D1 I1.Qb h1) (λfl s2 hf=>?_) λ_ _ z=>z
  cases fl with
  |next=>obtain⟨σ6,H6,I6,q6⟩:=hf;exact⟨_,_,I6.OS,q6⟩
  |brk=>obtain⟨σ6,H6,I6,q6⟩:=hf;exact⟨_,_,I6.OS,q6⟩
  |cont=>obtain⟨σ6,H6,I6,q6⟩:=hf;exact⟨_,_,I6.OS,q6⟩
  |ret u=>obtain⟨v6,σ6,H6,I6,r6,q6⟩:=hf;exact⟨_,_,_,I6.OS,r6,q6⟩
 .exact λc ks ps2 σ3 S2 H2 pins σ s' a C dx od LK h1 h2 h3 h4 h5 h6 h7 h8 I xa=>uq I xa (kx c ks ps2 S2 H2 C dx od LK h1 h2 h3 h4 h5 h6 h8)
end
structure As(K:Vo)(mg:Vr)(x qual:Str)(st:Stmt)(ps ks:Vs)(C f:Addr)(fd:FuncData):Prop where
 F:N5 K "__init__" qual st f fd
 b:Binds K fd ps []
 cn:Kl K x C
 m:mg x=some (.ref C)
 ek:ExcK K C
 en:∀k∈ks,NoAttr K C k
 hi:PySem.W.findIn K (.ref C) "__init__" = some (some (.ref f))
 hf:PySem.W.isFn K (.ref f)=true
 kp:PySem.W.keepIn K (.ref C)=true
def bd(c:Str)(ks:Vs)(ts:List aO):bB:=λD σ S=>al ts σ S (λps S1=>D.ex (.exc c ks ps) σ S1) D.ex
section
variable {X:Cx}{e:Expr}{es:List Expr}{ts:List aO}{x qual:Str}{st:Stmt}{p pos cpos:Pos}{f C:Addr}{fd:FuncData}{ps ks:Vs}
def At(T:As X.K X.mg x qual st ps ks C f fd)(F:lQ X.prog X.w X.K X.mg X.base oP 1 f fd ps (gU X.K C ks))(hps:ps.length=ks.length+1)(hr:gB 2 X.A)(MK:X.calm=true)(hg:Gl X x)(he:starEach (e::es) X.env=(false,eval e X.env)::starEach es X.env)(ha:jG X (e::es) ts)
  (hl:ts.length=ks.length:=by rfl) (hks:ks.length<=1000:=by exact V3 rfl) (hdb:(x == ("__debug__":Str))=false:=by decide) (hpl:(backTo cpos (starEach es X.env)).any (·.1)=false:=by rfl) :
  ml X (.Raise (some (.Call (.Name x p) (e::es) [] cpos)) none pos) (bd x ks ts):=
 ⟨b7 (wg F hps hks T.ek T.en T.hi T.hf T.kp hr MK hg T.m T.b ha.ok hdb he hpl) λD σ H ⟨σ3,S,D3,rσ,rS,h,xo,n,r,bk,ct⟩=>bQ rσ rS h xo λps' S' vs H' hl' q rv KE g=>
  ⟨by rw[rv.length,hl',hl],λpins dx od hdx s' a C' Rs e3 e4 I xa=>by
   cases e3;cases e4
   exact xo x ks ps' σ3 S' _ pins σ s' a C dx od vs q T.cn (by rw[rv.length,hl',hl]) au (rv.mono (.new hdx)) (KE.other hdx) (rσ.mono (g.trans (.new hdx))) (g.trans (.new hdx)) I xa⟩⟩
end
noncomputable abbrev BR(D:ix)(i:Nat):ix:={ nx:=λσ S=>D.nx (σ.set i none) S,rt:=D.rt,ex:=fu,bk:=λσ S=>D.bk (σ.set i none) S,ct:=λσ S=>D.ct (σ.set i none) S }
def Au(cs:Vs)(i:Nat)(tb th:bB):bB:=λD σ S=>tb { D with ex:=λp σ' S'=>match p with | .exc c _ _=>cs.contains c=true/\th (BR D i) (σ'.set i (some p)) S'|_=>False } σ S
def JR.unset{K:Vo}{H:Hp}{σ:L2.St}{σ3:bZ}(r:JR K H σ σ3)(i:Nat):JR K H (σ.set i none) (σ3.set i none):=by
 refine⟨by rw[Wq,Wq,r.len],λj x e=>?_⟩
 rw[Xa]at e ⊢
 split at e
 .split at e
  .cases e
  .cases e
 .rename_i hij
  rw[if_neg hij]
  exact r.at' j x e
theorem OG.unset{K:Vo}{H:Hp}{N3:bZ->aq->Prop}{N:L2.St->Hp->Prop}(n:OG K H N3 N)(i:Nat):OG K H (λσ S=>N3 (σ.set i none) S) (λσ H=>N (σ.set i none) H):=λσ3 S' σ H' h1 h2 h3 h4=>n _ S' _ H' h1 (h2.unset i) h3 h4
noncomputable def Nd(K:Vo)(Dc:Addr):List Str->Prop
 |[]=>True
 |c::r=>(∃C,Kl K c C/\PySem.W.mroIn K C (.ref Dc)=some true)/\Nd K Dc r
def Kl.inj{K:Vo}{c:Str}{C D:Addr}(h1:Kl K c C)(h2:Kl K c D):C=D:=by
 have e:=(show PySem.W.nsIn K mainGlobals c=some (some (.ref C))from h1).symm.trans h2
 injection e with e;injection e with e;injection e
theorem Nd.at_{K:Vo}{Dc:Addr}:∀{cs:Vs}{c:Str}{C:Addr},Nd K Dc cs->cs.contains c=true->Kl K c C->PySem.W.mroIn K C (.ref Dc)=some true
 |[],_,_,_,h,_=>by simp at h
 |d::r,c,C,⟨⟨D,h1,h2⟩,h3⟩,h,hc=>by
  rw[WE,Bool.or_eq_true]at h
  rcases h with h|h
  .cases XF.mp h;rw[hc.inj h1];exact h2
  .exact Nd.at_ h3 h hc
section
variable {X:Cx}{body suite:List Stmt}{b₀:Stmt}{n x:Str}{i:Nat}{np hpos pos:Pos}{tb th:bB}{Dc:Addr}{cs:Vs}
def Gc{fb:Bool}(hst:X.stack=X.env::X.outer)(LN:X.env.frame=some X.env.locals)(hN:X.N.Nodup)(hi:X.N[i]?=some n)(hk:X.env.scope.names.lookup n=some .local)(hg:Gl X x)(hm:X.mg x=some (.ref Dc))(hD:Ac X.K Dc)(hcs:Nd X.K Dc cs)
  (hb:∀E pins,PassesOwn (model X.prog X.w) X.A X.env E->eB (X.tr E pins fb) body tb) (hs:∀a,eB (X.Mf a) (b₀::suite) th) (hdb:(x == ("__debug__":Str))=false:=by decide) :
  ml X (.Try body [.ExceptHandler (some (.Name x np)) (some n) (b₀::suite) hpos] [] [] pos) (Au cs i tb th):=
 ⟨b7 (wk (fb:=fb) (tb:=λE pins=>LS (X.tr E pins fb) tb) λE pins hp=>(hb E pins hp).ok) λD σ H ⟨σ3,S,D3,rσ,rS,h,xo,nx,rt,bk,ct⟩ pins=>
  ⟨σ3,S,_,rσ,rS,h,λc ks ps Rt S' H' pins' σ' s' a C dx od vs h1 h2 h3 h4 h5 h6 h7 h8 I xa=>by
   have fa:H' a=none:=by obtain⟨_,_,_,_,_,f,_⟩:=xa;exact f.1
   have TB:dx≠a:=aV h4 fa
   refine Dn hst LN hN hi hk hg hm hD (λa=>(hs a).ok) I xa (hcs.at_ h1.1 h2) (λoe o1 o2 o3=>?_) hdb
   have gr:Grow X.K H' (upd H' a (.frz oe (.ext λ_=>True))):=.new fa
   exact⟨Rt.set i (some (.exc c ks ps)),S',BR D3 i,(h7.mono gr).set (.exc h2 ⟨oe,dx,od,au,o1,o2,o3,by rw[aw TB];exact h4⟩ (h5.mono gr)) i,h6.other fa,h1.2,.no,
    (nx.mono (h8.trans gr)).unset i,rt.mono (h8.trans gr),(bk.mono (h8.trans gr)).unset i,(ct.mono (h8.trans gr)).unset i⟩,nx,rt,bk,ct⟩⟩
end
theorem pI{K:Vo}{H:Hp}{f:Str}{p:PV}:∀{ks:Vs}{vs:List V}{ps:List PV},Reps K H vs ps->(ks.zip ps).lookup f=some p->∃v,(ks.zip vs).lookup f=some v/\Rep K H v p
 |[],_,_,_,e=>by simp at e
 |_::_,_,_,.nil,e=>by simp at e
 |k::ks,_,_,.cons a r,e=>by
  rw[List.zip_cons_cons,Xl]at e ⊢
  split at e
  .cases e;exact⟨_,rfl,a⟩
  .exact pI r e
noncomputable def Mg(K:Vo):List (Str×Str)->Prop
 |[]=>True
 |(c,f)::r=>(∃C,Kl K c C/\ExcK K C/\NoAttr K C f)/\Mg K r
theorem Mg.at_{K:Vo}:∀{l:List (Str×Str)}{c f:Str}{C:Addr},Mg K l->l.contains (c,f)=true->Kl K c C->ExcK K C/\NoAttr K C f
 |[],_,_,_,_,h,_=>by simp at h
 |(d,g)::r,c,f,C,⟨⟨D,h1,h2,h3⟩,h4⟩,h,hc=>by
  rw[WE,Bool.or_eq_true]at h
  rcases h with h|h
  .cases XF.mp h;rw[hc.inj h1];exact⟨h2,h3⟩
  .exact Mg.at_ h4 h hc
def mz(l:List (Str×Str))(f:Str)(te:aO):aO:=λσ S Q E=>te σ S (λp S1=>match p with | .exc c ks ps=>l.contains (c,f)=true/\(match (ks.zip ps).lookup f with|some v=>Q v S1|none=>False)|_=>False) E
def iC{X:Cx}{pins:Va}{σ:L2.St}{H:Hp}{s:Shared}{a C:Addr}{ks:Vs}{vs:List V}(I:Inv X pins σ H s)(h:Qc H a C ks vs):∃(oe od:Obj)(mA:Vr),PySem.W.InstAt s.heap a oe C (some od)/\(∀name,PySem.W.lookIn name od=some (mA name))/\∀f,Ly ((ks.zip vs).lookup f) (mA f):=by
 obtain⟨oe,dx,od,h1,h2,h3,h4,h5⟩:=h
 have g1:=(show JS X.prog X.w H s.heap a (.frz oe (.ext λ_=>True))from I.hok a _ h1).1
 have g2:=(show JS X.prog X.w H s.heap dx (.frz od (.ext (XD dx (ks.zip vs))))from I.hok dx _ h5)
 obtain⟨g3,⟨mA,m1,m2,m3⟩,_⟩:=g2
 obtain⟨od',e1,hl⟩:=tX m1
 rw[g3]at e1;cases e1
 exact⟨oe,od,mA,⟨g1,h2,by obtain⟨p1,p2,p3,p4⟩:=oe;cases p3<;>first|rfl|exact absurd rfl (h4 _),by rw[h3];exact g3⟩,hl,m2⟩
section
variable {X:Cx}{e:Expr}{te:aO}{f:Str}{pos:Pos}{l:List (Str×Str)}
def wP(hl:Mg X.K l)(he:aY X e te)(hb:attributeBase e f X.env (eval e X.env)=eval e X.env):aY X (.Attribute e f pos) (mz l f te):=
 ⟨λpins s σ H Q I ⟨σ3,S,Q3,E3,rσ,rS,h,xo,k⟩=>by
  refine zE hb (JN (he.ok pins s σ H (λv H1=>∃p S1,Rep X.K H1 v p/\JM X.K H1 S1/\Grow X.K H H1/\(match p with | .exc c ks ps=>l.contains (c,f)=true/\(match (ks.zip ps).lookup f with|some v=>Q3 v S1|none=>False)|_=>False)) I ⟨σ3,S,_,E3,rσ,rS,h,xo,λp S1 v H1 h1 rv JT g1=>⟨p,S1,rv,JT,g1,h1⟩⟩) λu s1 ⟨v,H1,I1,rv,p,S1,rp,JT,g1,q⟩=>?_)
  split at q
  .rename_i c ks ps
   obtain⟨q1,q2⟩:=q
   split at q2
   .rename_i p' hp'
    cases rp with
    |exc hn hx rs=>
     cases rv
     obtain⟨ek,na⟩:=hl.at_ q1 hn
     obtain⟨oe,od,mA,J,hlk,rel⟩:=iC I1 hx
     obtain⟨v',hv',TC⟩:=pI rs hp'
     obtain⟨u,hu,ru⟩:=Ly.some_of (v:=v') (o:=mA f) (by rw[<-hv'];exact rel f)
     exact z9 I1.L_ J ek (PySem.W.findObj_own ek.dict na rfl (by rw[hlk,hu])) (tY ru) ⟨v',H1,I1.tok _,ru,k _ S1 _ H1 q2 TC JT g1⟩
   .exact q2.elim
  .exact q.elim⟩
def Gd{x:Str}{C:Addr}(hg:Gl X x)(hm:X.mg x=some (.ref C))(hc:Kl X.K x C)(hd:(x == ("__debug__":Str))=false:=by decide):aY X (.Name x pos) (c3 (.cls x)):=
 ⟨aK (il (v:=.ref C) hg hm rfl hd) λσ H Q ⟨σ3,S,Q3,E3,rσ,rS,h,xo,k⟩=>k _ S _ H h (.cls hc) rS .refl⟩
end
noncomputable def XTab(K:Vo):List (Str×Str×Bool)->Prop
 |[]=>True
 |(c,d,b)::r=>(∃C D,Kl K c C/\Kl K d D/\ExcK K C/\PySem.W.kitOne K (.ref C) (.ref D)=some b/\PySem.W.kitOne K (.ref C) (.type "ValueError")=some true)/\XTab K r
noncomputable def kW(c d:Str):List (Str×Str×Bool)->Option Bool
 |[]=>none
 |(c',d',b)::r=>if c=c'/\d=d' then some b else kW c d r
theorem XTab.at_{K:Vo}:∀{l:List (Str×Str×Bool)}{c d:Str}{b:Bool}{C D:Addr},XTab K l->kW c d l=some b->Kl K c C->Kl K d D->ExcK K C/\PySem.W.kitOne K (.ref C) (.ref D)=some b
 |[],_,_,_,_,_,_,h,_,_=>by cases h
 |(c',d',b')::r,c,d,b,C,D,⟨⟨C',D',h1,h2,h3,h4,h5⟩,h6⟩,h,hc,hd=>by
  unfold kW at h
  split at h
  .rename_i e
   obtain⟨rfl,rfl⟩:=e
   cases h
   rw[hc.inj h1,hd.inj h2]
   exact⟨h3,h4⟩
  .exact XTab.at_ h6 h hc hd
theorem XTab.ve{K:Vo}:∀{l:List (Str×Str×Bool)}{c:Str}{C:Addr},XTab K l->l.any (λt=>t.1 == c)=true->Kl K c C->ExcK K C/\PySem.W.kitOne K (.ref C) (.type "ValueError")=some true
 |[],_,_,_,h,_=>by simp at h
 |(c',d',b')::r,c,C,⟨⟨C',D',h1,h2,h3,h4,h5⟩,h6⟩,h,hc=>by
  rw[W8,Bool.or_eq_true]at h
  rcases h with h|h
  .have e:c'=c:=XF.mp h
   subst e
   rw[hc.inj h1]
   exact⟨h3,h5⟩
  .exact XTab.ve h6 h hc
noncomputable def uA(l:List (Str×Str×Bool))(c:Str):List PV->Option Bool
 |[]=>some false
 | .cls d::r=>(match kW c d l with|some true=>some true|some false=>uA l c r|none=>none)
 |_::_=>none
def kX(l:List (Str×Str×Bool)):lW:=λps S Q=>match ps with
 |[.exc c _ _,.cls d]=>(match kW c d l with|some b=>Q (.bl b) S|none=>False)
 |[.exc c _ _,.ty n]=>n = "ValueError"/\l.any (λt=>t.1 == c)=true/\Q (.bl true) S
 |[.exc c _ _,.tup ds]=>l.any (λt=>t.1 == c)=true/\(match uA l c ds with|some b=>Q (.bl b) S|none=>False)
 |_=>False
theorem MN{K:Vo}{H:Hp}{l:List (Str×Str×Bool)}{c:Str}{C:Addr}(T:XTab K l)(hc:Kl K c C):∀{ds:List PV}{b:Bool}{vs:List V}{its:Vv},uA l c ds=some b->Reps K H vs ds->Vals vs its->PySem.W.kitAny K (.ref C) its=some b
 |[],b,_,_,h,.nil,.nil=>h
 |p::ds,b,_,_,h,.cons a rs,r=>by
  cases p with
  |cls d=>
   cases a with
   |@cls D _ hd=>
    cases r with
    |@cons _ u _ us r1 r2=>
     cases (show u=Value.ref D from r1)
     show(match PySem.W.kitOne K (.ref C) (.ref D)with|some true=>some true|some false=>PySem.W.kitAny K (.ref C) us|none=>none)=_
     unfold uA at h
     split at h
     .rename_i e;rw[(T.at_ e hc hd).2];exact h
     .rename_i e;rw[(T.at_ e hc hd).2];exact MN T hc h rs r2
     .cases h
  |_=>cases h
def qV{X:Cx}{l:List (Str×Str×Bool)}(T:XTab X.K l):cF X (.builtin "isinstance") (kX l):=⟨λpins s σ H xs us Q I r ⟨ps,S,Q3,rp,rS,q,k⟩=>by
 unfold kX at q
 split at q
 .rename_i c ks as d
  split at q
  .rename_i b hb
   cases rp with
   |cons a rr=>
    cases rr with
    |cons b' r3=>
     cases r3
     cases r with
     |cons r1 r2=>
      cases r2 with
      |cons r4 r5=>
       cases r5
       cases a with
       |exc hn hx rs=>
        cases b' with
        |cls hd=>
         cases r1;cases r4
         obtain⟨ek,e⟩:=T.at_ hb hn hd
         obtain⟨oe,od,mA,J,_,_⟩:=iC I hx
         exact Vg I.tk (PySem.W.kia_one (kH ek) I.L_ J e (λz=>nomatch z) λtk ht=>⟨.bl _,H,I.tok _,rfl,k _ S _ H q (.bl _) rS .refl⟩)
  .exact q.elim
 .rename_i c ks as n
  obtain⟨rfl,q1,q2⟩:=q
  cases rp with
  |cons a rr=>
   cases rr with
   |cons b' r3=>
    cases r3
    cases r with
    |cons r1 r2=>
     cases r2 with
     |cons r4 r5=>
      cases r5
      cases a with
      |exc hn hx rs=>
       cases b'
       cases r1;cases r4
       obtain⟨ek,e⟩:=T.ve q1 hn
       obtain⟨oe,od,mA,J,_,_⟩:=iC I hx
       exact Vg I.tk (PySem.W.kia_one (kH ek) I.L_ J e (λz=>nomatch z) λtk ht=>⟨.bl _,H,I.tok _,rfl,k _ S _ H q2 (.bl _) rS .refl⟩)
 .rename_i c ks as ds
  obtain⟨q1,q⟩:=q
  split at q
  .rename_i b hb
   cases rp with
   |cons a rr=>
    cases rr with
    |cons b' r3=>
     cases r3
     cases r with
     |cons r1 r2=>
      cases r2 with
      |cons r4 r5=>
       cases r5
       cases a with
       |exc hn hx rs=>
        cases b' with
        |tup h1 Qg=>
         cases r1;cases r4
         obtain⟨ek,_⟩:=T.ve q1 hn
         obtain⟨oe,od,mA,J,_,_⟩:=iC I hx
         obtain⟨its,rv,⟨⟨oc,odd,Rk,osl⟩,ho,hc,n,hd⟩,_⟩:=I.tuple h1
         simp only at hc hd
         subst hc hd
         exact Vg I.tk (PySem.W.kia_tup (kH ek) I.L_ J ho (MN T hn hb Qg rv) (λz=>nomatch z) λtk ht=>⟨.bl _,H,I.tok _,rfl,k _ S _ H q (.bl _) rS .refl⟩)
  .exact q.elim
 .exact q.elim⟩
noncomputable def Av(s:Stmt):List Stmt:=match s with
 | .ClassDef _ _ _ body _ _ _ _ _ _ _=>body
 |_=>[]
section
variable {P:Program}{w:World}{K:Vo}{mg:Vr}{base:Heap}{N:Vs}{qual:Str}{st:Stmt}{f:Addr}{cdv:Value}{A:Around}{outer:List Env}{s:Shared}{H:Hp}{E:XK}
def Ig{fb:Bool}:PassesOwn (model (nB fb P w K mg base N qual st f cdv A outer s H E).prog (nB fb P w K mg base N qual st f cdv A outer s H E).w) (nB fb P w K mg base N qual st f cdv A outer s H E).A (nB fb P w K mg base N qual st f cdv A outer s H E).env (nB fb P w K mg base N qual st f cdv A outer s H E).xe:=PassesOwn.leaving
end
end L3
namespace L3
open PySem L2
end L3
namespace CX
open PySem L2 L3
end CX
namespace L2
open PySem PySem.Spec PyProof.Rows Xc
end L2
namespace L3
open PySem L2 Xc
section
variable {P:Program}{w:World}{K:Vo}{mg:Vr}{base:Heap}
structure bu(K:Vo)(mg:Vr)(x:Str)(st:Stmt)(ps:Vs):Prop where
 ex:∃f fd,Hb K mg x st ps f fd
structure NI(cm:Bool)(P:Program)(w:World)(K:Vo)(mg:Vr)(base:Heap)(k:Nat)(x:Str)(n:Nat)(sp:aF):Prop where
 ex:∃f fd ps,ps.length=n/\NH cm P w K mg base k f fd ps sp/\mg x=some (.ref f)/\PySem.W.keepIn K (.ref f)=true/\Binds K fd ps []
abbrev e_:=NI true
abbrev Js:=NI false
structure PK(fb:Bool)(P:Program)(w:World)(K:Vo)(mg:Vr)(base:Heap)(k:Nat)(x:Str)(n:Nat)(sp:aF):Prop where
 ex:∃f fd ps,ps.length=n/\Ob fb P w K mg base k f fd ps sp/\mg x=some (.ref f)/\PySem.W.keepIn K (.ref f)=true/\Binds K fd ps []
abbrev u6:=PK true
abbrev Jt:=PK false
def jd{cm:Bool}{x:Str}{st:Stmt}{ps:Vs}{k n:Nat}{t:bB}{sp:aF}(N:Vs)(O:bu K mg x st ps)
  (hbody:∀(f:Addr)(cdv:Value)(A:Around)(outer:List Env)(s:Shared)(H:Hp)(E:XK),RoomG cm k (A.deeper (PyProof.Rows.envOfC x (aC st) s.heap.objs.size f cdv))->N.Nodup->eB (DF cm P w K mg base N x st f cdv A outer s H E) (bj st) t) (e:sp=bV N.length t)
  (hn:ps.length=n:=by rfl) (S:b5 N ps (aC st):=by walk_at "8"):NI cm P w K mg base (k+1) x n sp:=by
 subst e
 obtain⟨f,fd,o⟩:=O.ex
 exact⟨f,fd,ps,hn,IV o.F S λcdv A outer s H E hr=>hbody f cdv A outer s H E hr S.nd,o.m,o.k,o.b⟩
def zk{fb:Bool}{x:Str}{st:Stmt}{ps:Vs}{k n:Nat}{t:bB}{sp:aF}(N:Vs)(O:bu K mg x st ps)
  (hbody:∀(f:Addr)(cdv:Value)(A:Around)(outer:List Env)(s:Shared)(H:Hp)(E:XK),gB k (A.deeper (PyProof.Rows.envOfC x (aC st) s.heap.objs.size f cdv))->N.Nodup->eB (nB fb P w K mg base N x st f cdv A outer s H E) (bj st) t) (e:sp=dr N.length t)
  (hn:ps.length=n:=by rfl) (S:b5 N ps (aC st):=by walk_at "8"):PK fb P w K mg base (k+1) x n sp:=by
 subst e
 obtain⟨f,fd,o⟩:=O.ex
 exact⟨f,fd,ps,hn,Ie o.F S λcdv A outer s H E hr=>hbody f cdv A outer s H E hr S.nd,o.m,o.k,o.b⟩
def Ju{x:Str}{st:Stmt}{ps:Vs}{k:Nat}{t:bB}{sp:aF}{f:Addr}{fd:FuncData}(N:Vs)(o:Hb K mg x st ps f fd)
  (hbody:∀(f:Addr)(cdv:Value)(A:Around)(outer:List Env)(s:Shared)(H:Hp)(E:XK),gB k (A.deeper (PyProof.Rows.envOfC x (aC st) s.heap.objs.size f cdv))->N.Nodup->eB (Jr P w K mg base N x st f cdv A outer s H E) (bj st) t) (e:sp=bV N.length t)
  (S:b5 N ps (aC st):=by walk_at "8"):HY P w K mg base (k+1) f fd ps sp:=by
 subst e
 exact IV o.F S λcdv A outer s H E hr=>hbody f cdv A outer s H E hr S.nd
def Aw:aF:=λ_ _ _ _=>False
theorem NI.zero{cm:Bool}{x:Str}{st:Stmt}{ps:Vs}{k n:Nat}(O:bu K mg x st ps)(hn:ps.length=n:=by rfl):NI cm P w K mg base k x n Aw:=by
 obtain⟨f,fd,o⟩:=O.ex
 exact⟨f,fd,ps,hn,.zero rfl,o.m,o.k,o.b⟩
theorem PK.zero{fb:Bool}{x:Str}{st:Stmt}{ps:Vs}{k n:Nat}(O:bu K mg x st ps)(hn:ps.length=n:=by rfl):PK fb P w K mg base k x n Aw:=by
 obtain⟨f,fd,o⟩:=O.ex
 exact⟨f,fd,ps,hn,.zero rfl,o.m,o.k,o.b⟩
theorem DI{b n:Nat}{x:Str}{st:Stmt}{ps:Vs}{r:Nat->aF}(O:bu K mg x st ps)(h:∀j,e_ P w K mg base (b+j) x n (r j)->e_ P w K mg base (b+j+1) x n (r (j+1)))(h0:r 0=Aw)(hn:ps.length=n:=by rfl):∀j,e_ P w K mg base (b+j) x n (r j)
 |0=>by rw[h0];exact .zero O hn
 |j+1=>h j (DI O h h0 hn j)
theorem Ge{b n:Nat}{x:Str}{st:Stmt}{ps:Vs}{r:Nat->aF}(O:bu K mg x st ps)(h:∀j,u6 P w K mg base (b+j) x n (r j)->u6 P w K mg base (b+j+1) x n (r (j+1)))(h0:r 0=Aw)(hn:ps.length=n:=by rfl):∀j,u6 P w K mg base (b+j) x n (r j)
 |0=>by rw[h0];exact .zero O hn
 |j+1=>h j (Ge O h h0 hn j)
end
section
variable {X:Cx}{a b e o:Expr}{es:List Expr}{ta tb te to:aO}{ts:List aO}{x c m f:Str}{p pos apos cpos:Pos}{j k n:Nat}{sp:aF}
def c4{cm:Bool}(O:NI cm X.prog X.w X.K X.mg X.base k x n sp)(hr:RoomG cm j X.A)(ha:jG X (e::es) ts)(hj:k<=j:=by omega)(hl:ts.length=n:=by rfl)(hg:Gl X x:=by rfl)(he:starEach (e::es) X.env=(false,eval e X.env)::starEach es X.env:=by rfl)(hdb:(x == ("__debug__":Str))=false:=by decide)(hpl:(backTo pos (starEach es X.env)).any (·.1)=false:=by rfl) :
  aY X (.Call (.Name x p) (e::es) [] pos) (ak sp ts):=by
 obtain⟨f,fd,ps,hn,F,h1,h2,h3⟩:=O.ex
 exact DE F (hr.mono hj) hg h1 h2 h3 he ha (hl.trans hn.symm) hdb hpl
def Ih(O:e_ X.prog X.w X.K X.mg X.base k x 0 sp)(hr:gB j X.A)(hj:k<=j:=by omega)(hg:Gl X x:=by rfl)(hdb:(x == ("__debug__":Str))=false:=by decide):aY X (.Call (.Name x p) [] [] pos) (ak sp []):=by
 obtain⟨f,fd,ps,hn,F,h1,h2,h3⟩:=O.ex
 obtain rfl:=Vi.mp hn
 exact Ap F (hr.mono hj) hg h1 h2 h3 hdb
def cX{fb:Bool}(O:PK fb X.prog X.w X.K X.mg X.base k x n sp)(hr:gB j X.A)(ha:jG X (e::es) ts)(hj:k<=j:=by omega)(hl:ts.length=n:=by rfl)(hg:Gl X x:=by rfl)(he:starEach (e::es) X.env=(false,eval e X.env)::starEach es X.env:=by rfl)(hdb:(x == ("__debug__":Str))=false:=by decide)(hpl:(backTo pos (starEach es X.env)).any (·.1)=false:=by rfl)(hf:X.fr=true->fb=true:=by first|exact λ_=>rfl|exact λz=>z) :
  aY X (.Call (.Name x p) (e::es) [] pos) (aR sp ts):=by
 obtain⟨f,fd,ps,hn,F,h1,h2,h3⟩:=O.ex
 exact Ar F (hr.mono hj) hg h1 h2 h3 he ha hf (hl.trans hn.symm) hdb hpl
def cB{id:String}{r:lW}(hc:cF X (.builtin id) r)(hm:X.mg x=none)(ha:jG X (e::es) ts)(hg:Gl X x:=by rfl)(hv:bootBuiltins x=some (.builtin id):=by decide +kernel)(he:starEach (e::es) X.env=(false,eval e X.env)::starEach es X.env:=by rfl)
  (hnn:x ≠ "__name__":=by decide) (hdb:(x == ("__debug__":Str))=false:=by decide) (hpl:(backTo pos (starEach es X.env)).any (·.1)=false:=by rfl):aY X (.Call (.Name x p) (e::es) [] pos) (af r ts):=Aj hc hg hm hv he ha hnn hdb hpl
def cT{id:String}{r:lW}(hc:cF X (.type id) r)(hm:X.mg x=none)(ha:jG X (e::es) ts)(hg:Gl X x:=by rfl)(hv:bootBuiltins x=some (.type id):=by decide +kernel)(he:starEach (e::es) X.env=(false,eval e X.env)::starEach es X.env:=by rfl)
  (hnn:x ≠ "__name__":=by decide) (hdb:(x == ("__debug__":Str))=false:=by decide) (hpl:(backTo pos (starEach es X.env)).any (·.1)=false:=by rfl):aY X (.Call (.Name x p) (e::es) [] pos) (af r ts):=Ak hc hg hm hv he ha hnn hdb hpl
def lc{r:List Expr}(ha:aY X a ta)(hr:jG X r ts)(hs:starEach (a::r) X.env=(false,eval a X.env)::starEach r X.env:=by rfl):jG X (a::r) (ta::ts):=wo hs ha hr
def l1(ha:aY X a ta)(hs:starEach [a] X.env=(false,eval a X.env)::starEach [] X.env:=by rfl):jG X [a] [ta]:=wo hs ha jH
def gM{cm:Bool}{i:Int}{q:Nat}{p2:Pos}(hr:RoomG cm j X.A)(ha:aY X a ta)(hs:ip (.Constant (.int i) q p2):=by exact λ_ _=>rfl):aY X (.Subscript a (.Constant (.int i) q p2) pos) (am az ta (c3 (.int i))):=F5 (IU (zj hr)) ha ad hs
def fF{cm:Bool}(hr:RoomG cm j X.A)(ha:aY X a ta)(hb:aY X b tb)(hs:ip b:=by exact λ_ _=>rfl):aY X (.Subscript a b pos) (am az ta tb):=F5 (IU (zj hr)) ha hb hs
def fg{cm:Bool}(hr:RoomG cm j X.A)(ha:aY X a ta)(hb:aY X b tb):pp X (.Compare a [.Eq] [b] pos) (aH (am (bo false) ta tb)):=aZ (BN (pG hr)) ha hb (aQ _)
def oQ{cm:Bool}(hr:RoomG cm j X.A)(ha:aY X a ta)(hb:aY X b tb):pp X (.Compare a [.NotEq] [b] pos) (aH (am (bo true) ta tb)):=aZ (F3 (pG hr)) ha hb (aQ _)
def s4(i:Nat){pos':Pos}(nd:X.N.Nodup)(he:aY X e te)(hi:X.N[i]?=some x:=by rfl)(hx:Bz X.env.scope x:=by walk_at "d")(hs:swapsWith e (some (.Name x pos')) pos.line X.env=pure false:=by rfl)
  (hf:X.fn x=true\/X.env.scope.names.lookup x=some .local:=by walk_at "9"):ml X (.Assign [.Name x pos'] e pos) (ap i te):=F9 nd hi hx he hs hf
def gn(i:Nat)(nd:X.N.Nodup)(hi:X.N[i]?=some x:=by rfl)(hx:Bz X.env.scope x:=by walk_at "d")(hf:X.fn x=true\/X.env.scope.names.lookup x=some .local:=by walk_at "9"):zi X (.Name x pos) (.n i):=Jp i nd hi hx hf
def IW{z:Str}(h:∃t,X.mg x=some (.str z t))(hg:Gl X x:=by rfl)(hd:(x == ("__debug__":Str))=false:=by decide):aY X (.Name x pos) (c3 (.str z)):=let ⟨_,h1⟩:=h;Dp hg h1 hd
end
structure BS(T:String)(name:Str)(id:String):Prop where
 pa:PlainAttrs T
 slot:Slot T name id
 ty:typeOf (.builtin id)=pure (.type "method_descriptor")
section
variable {X:Cx}{e o:Expr}{es:List Expr}{to:aO}{ts:List aO}{name:Str}{T id:String}{p pos apos cpos:Pos}{r:uw}
def bf:BS "list" "append" "list.append":=⟨PySem.F.plainAttrs_list,PySem.F.slot_list_append,PySem.F.type_list_append⟩
def wQ:BS "list" "pop" "list.pop":=⟨PySem.F.plainAttrs_list,PySem.F.slot_list_pop,PySem.F.type_list_pop⟩
def dD:BS "str" "join" "str.join":=⟨W5,PySem.F.slot_str_join,PySem.F.type_str_join⟩
def gD(k:BS T name id)(hm:wG X id r)(ho:aY X o to)(ha:jG X (e::es) ts)(hs:starEach (e::es) X.env=(false,eval e X.env)::starEach es X.env:=by rfl)
  (hbase:attributeBase o name X.env (eval o X.env)=eval o X.env:=by rfl)
  (hfew:((backTo cpos (starEach (e::es) X.env)).all (λx=>!x.1)&&(backToKw cpos (keywordEach [] X.env)).all (λx=>x.1.isSome)
   && decide ((e::es).length+([]:List Keyword).length+(if ([]:List Keyword).isEmpty then 0 else 1) < 30))=true:=by rfl)
  (hline:(apos.endLine == cpos.line)=true:=by rfl) (hplain:(backTo cpos (starEach es X.env)).any (·.1)=false:=by rfl):aY X (.Call (.Attribute o name apos) (e::es) [] cpos) (bL T r to ts):=HU k.pa k.slot k.ty hm hs ho ha hbase hfew hline hplain
def DJ(k:BS T name id)(hm:wG X id r)(ho:aY X o to)
  (hbase:attributeBase o name X.env (eval o X.env)=eval o X.env:=by rfl) (hline:(apos.endLine == cpos.line)=true:=by rfl):aY X (.Call (.Attribute o name apos) [] [] cpos) (bL T r to []):=F8 k.pa k.slot k.ty hm ho hbase hline
end
section
variable {X:Cx}{tg iter elt:Expr}{ifs:List Expr}{scope:Scope}{pos:Pos}{ti:sy}{g:Tg}{tc:iw}{te:aO}
def DK(fs:Vs)(own:Nat)(fr:List Nat)(N:Vs)(hi:wK X tg iter ti)(hg:∀B,zi (X.Ku N scope fs B) tg g)(hf:∀B,Dy (X.Ku N scope fs B) ifs tc)(he:∀B,aY (X.Ku N scope fs B) elt te)
  (Nc:g.under own=true:=by rfl) (hc:X.calm=true:=by rfl) (hclos:closureFor scope X.env=pure (bF X.env fs):=by rfl) (hcell:∀y∈scope.names,y.2 ≠ .cell:=by decide +kernel) (hkind:scope.kind = .function:=by rfl)
  (hnames:∀x∈scope.names,x.2 = .local->scope.names.lookup x.1=some .local:=by decide +kernel) (hcl:bJ X.env fs:=by walk_at "b") (hhas:hasB (relabel scope X.env).names (bF X.env fs)=true:=by rfl)
  (hlen:N.length=own+fr.length:=by rfl) (hN:(N.drop own).map some=fr.map (λj=>X.N[j]?):=by rfl) (hF:J3 X.env scope (bF X.env fs) (N.drop own):=by walk_at "a")
  (hs:∀x,foldedSetIterable iter X.env x=pure x:=by intro _;rfl):aY X (.ListComp elt [⟨tg,iter,ifs,0⟩] scope pos) (bU ti g tc te own fr):=Dz fs own fr N Nc hc hclos hcell hkind hnames hcl hhas hlen hN hF hi hg hf he hs
def Ii(fs:Vs)(own:Nat)(fr:List Nat)(N:Vs)(i:Nat){y:Str}{py spos:Pos}(hX:X.N.Nodup)(hi:wK X tg iter ti)(hg:∀B,zi (X.Ku N scope fs B) tg g)(hf:∀B,Dy (X.Ku N scope fs B) ifs tc)(he:∀B,aY (X.Ku N scope fs B) elt te)
  (hix:X.N[i]?=some y:=by rfl) (hy:X.env.scope.names.lookup y=some .local:=by rfl) (hsw:swapsWith (.ListComp elt [⟨tg,iter,ifs,0⟩] scope pos) (some (.Name y py)) spos.line X.env=pure true:=by rfl)
  (Nc:g.under own=true:=by rfl) (hc:X.calm=true:=by rfl) (hclos:closureFor scope X.env=pure (bF X.env fs):=by rfl) (hcell:∀y∈scope.names,y.2 ≠ .cell:=by decide +kernel) (hkind:scope.kind = .function:=by rfl)
  (hnames:∀x∈scope.names,x.2 = .local->scope.names.lookup x.1=some .local:=by decide +kernel) (hcl:bJ X.env fs:=by walk_at "b") (hhas:hasB (relabel scope X.env).names (bF X.env fs)=true:=by rfl)
  (hlen:N.length=own+fr.length:=by rfl) (hN:(N.drop own).map some=fr.map (λj=>X.N[j]?):=by rfl) (hF:J3 X.env scope (bF X.env fs) (N.drop own):=by walk_at "a")
  (hs:∀x,foldedSetIterable iter X.env x=pure x:=by intro _;rfl):ml X (.Assign [.Name y py] (.ListComp elt [⟨tg,iter,ifs,0⟩] scope pos) spos) (ap i (bU ti g tc te own fr)):=DD fs own fr N hX hix hy hsw Nc hc hclos hcell hkind hnames hcl hhas hlen hN hF hi hg hf he hs
end
structure Ij(P:Program)(w:World)(K:Vo)(mg:Vr)(base:Heap)(x:Str)(ks:Vs):Prop where
 ex:∃qual st ps C f fd,As K mg x qual st ps ks C f fd/\lQ P w K mg base oP 1 f fd ps (gU K C ks)/\ps.length=ks.length+1
structure Hc(K:Vo)(mg:Vr)(x q:Str)(st:Stmt)(ps ks:Vs):Prop where
 ex:∃C f fd,As K mg x q st ps ks C f fd
structure Gf(K:Vo)(mg:Vr)(x:Str)(cs:Vs):Prop where
 ex:∃D,mg x=some (.ref D)/\Ac K D/\Nd K D cs
structure zm(K:Vo)(mg:Vr)(x:Str):Prop where
 ex:∃C,mg x=some (.ref C)/\Kl K x C
section
variable {P:Program}{w:World}{K:Vo}{mg:Vr}{base:Heap}
def Jv{x q k1:Str}{st:Stmt}{ps:Vs}(N:Vs)(h:Hc K mg x q st ps [k1])(hp:ps.length=2)
  (hb:∀(f:Addr)(cdv:Value)(A:Around)(outer:List Env)(s:Shared)(H:Hp)(E:XK),Mk (qA oP P w K mg base N q (aC st) f cdv A outer s H E).OR (bj st) (Ab K (oV 0) (oV 1) k1))
  (S:b5 N ps (aC st):=by walk_at "8"):Ij P w K mg base x [k1]:=by
 obtain⟨C,f,fd,T⟩:=h.ex
 exact⟨q,st,ps,C,f,fd,T,BL T.F S hp (hb f),hp⟩
end
section
variable {X:Cx}{e:Expr}{es:List Expr}{ts:List aO}{x:Str}{p pos cpos:Pos}{ks:Vs}{j:Nat}
def u7(T:Ij X.prog X.w X.K X.mg X.base x ks)(hr:gB j X.A)(ha:jG X (e::es) ts)(hj:2<=j:=by omega)(MK:X.calm=true:=by rfl)(hg:Gl X x:=by rfl)(he:starEach (e::es) X.env=(false,eval e X.env)::starEach es X.env:=by rfl)
  (hl:ts.length=ks.length:=by rfl) (hks:ks.length<=1000:=by exact V3 rfl) (hdb:(x == ("__debug__":Str))=false:=by decide) (hpl:(backTo cpos (starEach es X.env)).any (·.1)=false:=by rfl) :
  ml X (.Raise (some (.Call (.Name x p) (e::es) [] cpos)) none pos) (bd x ks ts):=by
 obtain⟨qual,st,ps,C,f,fd,T,F,hp⟩:=T.ex
 exact At T F hp (hr.mono hj) MK hg he ha hl hks hdb hpl
def DL(h:zm X.K X.mg x)(hg:Gl X x:=by rfl)(hd:(x == ("__debug__":Str))=false:=by decide):aY X (.Name x pos) (c3 (.cls x)):=let ⟨_,h1,h2⟩:=h.ex;Gd hg h1 h2 hd
def Ax{n:String}(hm:X.mg x=none)(hg:Gl X x:=by rfl)(hv:bootBuiltins x=some (.type n):=by decide +kernel)(hn:x ≠ "__name__":=by decide)(hd:(x == ("__debug__":Str))=false:=by decide):aY X (.Name x pos) (c3 (.ty n)):=HS hg hm hv hn hd
end
end L3
namespace L2
open PySem PySem.Spec PyProof.Rows
section
variable {X:Cx}
noncomputable def DM:V->List V->Hp->VK->Prop:=λx vs H Q=>∃z i,x = .str z/\vs=[.int i]/\PadOk i=true/\Q (.str (Txt.zfill z i)) H
def wR:CZ X "str.zfill" DM:=by
 intro pins s σ H x vs v us Q I rx rv h
 obtain⟨z,i,rfl,rfl,hp,q⟩:=h
 obtain⟨t,rfl⟩:=rx
 obtain⟨w,rfl,u,rfl⟩:=dh rv
 exact Vg I.tk (call_gives F.slot_str_zfill (XA _ _ _) F.entry_str_zfill (F.args_str_zfill_2 _ _) (gives_str_zfill z i t u (PadOk.parts hp).1 (PadOk.parts hp).2) (post_val_or_made (fits_zfilled (PadOk.parts hp).2) λt' k ht=>⟨.str _,H,I.tok _,⟨_,rfl⟩,q⟩))
theorem DN:∀(l:List (Str×Tok)),Vals ((l.map (·.1)).map V.str) (strValues l)
 |[]=>.nil
 |(x,t)::r=>.cons ⟨t,rfl⟩ (DN r)
def wS{prog:Program}{w:World}{A:Around}{E:Vq}{s:Shared}{x y:Str}{t u:Tok}{Q:Vq}(hy:(y.length == 0)=false)(hsz:x.length<=sizeLine)(hsz2:(Txt.split x y).length<=sizeLine)
  (hq:∀(l:List (Str×Tok)) tk,l.map (·.1)=Txt.split x y->Q (.ref s.heap.objs.size) { s with heap:=s.heap.push { cls:=.type "list",data:=.seq (strValues l).toArray },toks:=tk }) :
  wpAny (model prog w) A (call (.builtin "str.split") [.str x t,.str y u]) Q E s:=by
 cases h1:(decide (x.length < y.length) || decide (Builtin.Str.strKind x < Builtin.Str.strKind y))
 .cases hf:(Builtin.Str.occurrences x y 0 x.length (x.length+1)).isEmpty
  .have es:Txt.split x y=Builtin.Str.partsBetween x (Builtin.Str.occurrences x y 0 x.length (x.length+1)) y.length:=(if_neg (Xu h1)).trans (if_neg (Xu hf))
   refine Xf Ye (XA _ _ _) XS (F.args_str_split_2 _ _) (meets_str_split_sep x y t u h1 hy hf hsz (by rw[<-es];exact hsz2)) ?_
   show wants Q E _ { s with toks:=_,heap:=s.heap.push { cls:=.type "list",data:=.seq (strsFrom s.toks (Builtin.Str.partsBetween x (Builtin.Str.occurrences x y 0 x.length (x.length+1)) y.length)).toArray } }
   rw[strsFrom_eq]
   exact hq _ _ ((numbered_texts _ _).trans es.symm)
  .exact Xf Ye (XA _ _ _) XS (F.args_str_split_2 _ _) (meets_str_split_not_found x y t u h1 hy hf)
    (hq [(x,t)] s.toks ((if_neg (Xu h1)).trans (if_pos hf)).symm)
 .exact Xf Ye (XA _ _ _) XS (F.args_str_split_2 _ _) (meets_str_split_cannot_occur x y t u h1)
   (hq [(x,t)] s.toks (if_pos h1).symm)
noncomputable def DO:V->List V->Hp->VK->Prop:=λx vs H Q=>∃z y,x = .str z/\vs=[.str y]/\(y.length == 0)=false/\z.length<=sizeLine/\(Txt.split z y).length<=sizeLine/\∀q,H q=none->Q (.ref q) (upd H q (.lst ((Txt.split z y).map V.str)))
def wT:CZ X "str.split" DO:=by
 intro pins s σ H x vs v us Q I rx rv h
 obtain⟨z,y,rfl,rfl,hy,h1,h2,q⟩:=h
 obtain⟨t,rfl⟩:=rx
 obtain⟨w,rfl,u,rfl⟩:=dh rv
 refine Vg I.tk (wS hy h1 h2 λl tk e ht=>?_)
 rw[<-e]at q h2
 refine⟨.ref _,_,I.laid (a:=s.heap.objs.size) (o:=.lst ((l.map (·.1)).map V.str)) (t':=tk) (λb o e=>UG _ e) (UH _) ?_,rfl,q _ (I.hok.fresh (UH _))⟩
 exact⟨by rw[UJ];exact h2,strValues l,0,DN l,U0 _ rfl⟩
def uB:dg X (.type "int") (λxs H Q=>∃z n,xs=[.str z]/\z.length<=640/\PySem.intText? z=some n/\Q (.int n) H):=by
 intro pins s σ H xs us Q I r h
 obtain⟨z,n,rfl,hl,hn,q⟩:=h
 obtain⟨u,rfl,t,rfl⟩:=dh r
 exact PySem.W.KIN.call_text hn hl ⟨.int n,H,I.tok _,⟨_,rfl⟩,q⟩
end
end L2
namespace L3
open PySem PySem.Spec PyProof.Rows L2
section
variable {X:Cx}
def nE:uw:=λx ps S Q=>match x,ps with
 | .str z,[.int i]=>PadOk i=true/\Q (.str (Txt.zfill z i)) S
 |_,_=>False
def Ay:wG X "str.zfill" nE:=⟨λpins s σ H x xs v us Q I rx rs ⟨px,ps,S,Q3,r1,rp,rS,q,k⟩=>by
 unfold nE at q
 split at q
 .cases r1
  cases rp with
  |cons b rr=>cases rr;cases b;exact wR pins s σ H _ _ v us Q I rx rs ⟨_,_,rfl,rfl,q.1,k _ S _ H q.2 (.str _) rS .refl⟩
 .exact q.elim⟩
theorem d4{K:Vo}{H:Hp}:∀l:List Str,Reps K H (l.map V.str) (l.map PV.str)
 |[]=>.nil
 |_::r=>.cons (.str _) (d4 r)
def bT:uw:=λx ps S Q=>match x,ps with
 | .str z,[.str y]=>(y.length == 0)=false/\z.length<=sizeLine/\(Txt.split z y).length<=sizeLine/\∀p,S p=none->Q (.ref p) (JH S p (.lst ((Txt.split z y).map PV.str)))
 |_,_=>False
def cC:wG X "str.split" bT:=⟨λpins s σ H x xs v us Q I rx rs ⟨px,ps,S,Q3,r1,rp,rS,q,k⟩=>by
 unfold bT at q
 split at q
 .cases r1
  cases rp with
  |cons b rr=>cases rr;cases b;exact wT pins s σ H _ _ v us Q I rx rs ⟨_,_,rfl,rfl,q.1,q.2.1,q.2.2.1,λp hp=>k _ _ _ _ (q.2.2.2 p (rS.free hp)) (.ref p) (rS.new hp ⟨_,au,d4 _⟩) (.new hp)⟩
 .exact q.elim⟩
def cr:lW:=λps S Q=>match ps with
 |[.str z]=>z.length<=640/\(match PySem.intText? z with|some n=>Q (.int n) S|none=>False)
 |ps=>iA ps S Q
def jM:cF X (.type "int") cr:=⟨λpins s σ H xs us Q I r ⟨ps,S,Q3,rp,rS,q,k⟩=>by
 unfold cr at q
 split at q
 .cases rp with
  |cons a rr=>
   cases rr;cases a
   obtain⟨q1,q2⟩:=q
   split at q2
   .rename_i n e
    exact uB pins s σ H _ us Q I r ⟨_,_,rfl,q1,e,k _ S _ H q2 (.int _) rS .refl⟩
   .exact q2.elim
 .exact Qd.ok pins s σ H xs us Q I r ⟨_,S,Q3,rp,rS,q,k⟩⟩
def wU:BS "str" "zfill" "str.zfill":=⟨W5,PySem.F.slot_str_zfill,PySem.F.type_str_zfill⟩
def bN:BS "str" "split" "str.split":=⟨W5,PySem.F.slot_str_split,PySem.F.type_str_split⟩
end
end L3
namespace L2
open PySem PySem.Spec PyProof.Rows
end L2
namespace L3
open PySem PySem.Spec PyProof.Rows L2
end L3
namespace PySem
open PyProof.Rows Builtin Builtin.Str
end PySem
namespace L2
open PySem PySem.Spec PyProof.Rows
end L2
namespace L3
open PySem PySem.Spec PyProof.Rows L2
end L3
namespace L2
open PySem PySem.Spec PyProof.Rows
noncomputable def Hd(lo c:Int)(n:Nat):It:=⟨λi _=>i < n,λi H x H'=>H'=H/\x = .int (lo+i * c),λi _=>n<=i⟩
def uC{P:Program}{w:World}{K:Vo}{tg:Expr}(it:Addr)(lo c:Int)(n:Nat):mS P w K tg (Hd lo c n) [it] it (λi h=>IsRangeIter h it (lo+(i:Nat) * c) ((n:Int) - (i:Nat)) c) where
 mem:=by simp
 obj:=λi h st b hb=>by
  have e:b=it:=by simpa using hb
  subst e
  exact⟨_,st,λv z=>by
   have z':Data.fields _=Data.cell v:=z
   cases z'⟩
 keep:=λi h h' st k=>k it (by simp) _ st
 item:=by
  walk_at "4"
  subst hP hw hK
  walk_at "6"
  have W:=Walks.range (prog:=X.prog) (w:=X.w) (I.ok.hd hc) it lo c n
  refine Vg I.tk (W.item i s _ _ hg st λv h' tk hv st' kk ht=>?_)
  obtain⟨t,rfl⟩:=hv
  have I1:Inv X pins σ H { s with heap:=h',toks:=tk }:=I.turned (λb o hb e=>kk b o (by simpa using hb) e) f0 f1 f3 f4 f5
  exact⟨_,rfl,oY (s:={ s with heap:=h',toks:=tk }) (n:="range_iterator") st' rfl rfl (by decide) ⟨.int (lo+i * c),H,I1,⟨t,rfl⟩,⟨rfl,rfl⟩,st',λb hb=>(hf b hb).1⟩⟩
 done:=by
  walk_at "4"
  subst hP hw hK
  walk_at "6"
  exact wpAny_pyNext_range_end (I.ok.hd hc) st (by have:n<=i:=hg;omega) λh' eb=>⟨rfl,I.turned (t':=s.toks) (λb o hb e=>eb b o hb e) f0 f1 f3 f4 f5⟩
 self:=λ_ _ _ _ _ st h=>wpAny_pyIter_rangeiter st h
section
variable {X:Cx}{tg:Expr}
def qW(a b c:Int)(n:Nat):Prop:=c≠0/\Builtin.Range.small a b c=true/\Builtin.Range.rangeSize a b c=n/\Builtin.divisionGoesByPylong (b - a) c=false
def Az{pins:Va}{σ:St}{H:Hp}{s:Shared}{R:It->Hp->Prop}{E:Vq}{lo hi c:Int}{n:Nat}{t u v:Tok}{tk:Nat}(I:Inv X pins σ H s)(ht:1<=tk)(ok:qW lo hi c n)
  (q:R (Hd lo c n) H):wpAny (model X.prog X.w) X.A (pyIter (.ref s.heap.objs.size)) (G3 X pins σ tg R) E { s with heap:=s.heap.push { cls:=.type "range",data:=.fields #[.int lo t,.int hi u,.int c v] },toks:=tk }:=by
 refine wpAny_pyIter_range (IsRange.new ..) ok.2.1 ?_
 have I1:Inv X pins σ H { s with heap:=s.heap.push { cls:=.type "range",data:=.fields #[.int lo t,.int hi u,.int c v] },toks:=tk }:=I.kept λb o e=>UG _ e
 refine⟨(s.heap.push { cls:=.type "range",data:=.fields #[.int lo t,.int hi u,.int c v] }).objs.size,[(s.heap.push { cls:=.type "range",data:=.fields #[.int lo t,.int hi u,.int c v] }).objs.size],_,_,H,rfl,
  I1.kept (t':=tk) λb o e=>UG _ e,uC _ lo c n,?_,λb hb=>?_,q⟩
 .have e1:lo+((0:Nat):Int) * c=lo:=by simp
  have e2:(n:Int) - ((0:Nat):Int)=Builtin.Range.rangeSize lo hi c:=by rw[ok.2.2.1];simp
  show IsRangeIter _ _ (lo+((0:Nat):Int) * c) ((n:Int) - ((0:Nat):Int)) c
  rw[e1,e2]
  exact U0 _ rfl
 .have e:b=(s.heap.push { cls:=.type "range",data:=.fields #[.int lo t,.int hi u,.int c v] }).objs.size:=by simpa using hb
  subst e
  exact I1.Lb (UH _) (I1.hok.fresh (UH _))
def Gg(ta:TA):TI:=λσ H R=>ta σ H λvs H1=>∃(i j c:Int)(n:Nat),vs=[.int i,.int j,.int c]/\qW i j c n/\R (Hd i c n) H1
def uD{a b c:Expr}{ta:TA}{p pos:Pos}(hg:Gl X "range")(hm:X.mg "range" = none)(ha:PA X [a,b,c] ta)(hs:starEach [a,b,c] X.env=[(false,eval a X.env),(false,eval b X.env),(false,eval c X.env)])(hs2:starEach [b,c] X.env=[(false,eval b X.env),(false,eval c X.env)]) :
  PI X tg (.Call (.Name "range" p) [a,b,c] [] pos) (Gg ta):=by
 intro pins s σ H R I h
 refine Call_ (ef I hg hm boot_range (VO (JN (ha pos pins s σ H _ I h) λus s1 ⟨vs,H1,I1,r1,q1⟩=>?_) (by rw[hs,hs2]) (by rw[hs2];rfl)))
 obtain⟨i,j,k,n,e,ok,q⟩:=q1
 subst e
 cases r1 with
 |cons r rr=>
  cases rr with
  |cons r' rr=>
   cases rr with
   |cons r2 rr=>
    cases rr
    obtain⟨t,rfl⟩:=r
    obtain⟨t',rfl⟩:=r'
    obtain⟨t2,rfl⟩:=r2
    exact call_range_3 ok.1 (Az I1 (by walk_at "t") ok q) (.inl ok.2.2.2)
end
end L2
namespace L3
open PySem PySem.Spec PyProof.Rows L2
section
variable {X:Cx}{a b c tg:Expr}{ta tb tc:aO}{p pos:Pos}
noncomputable def kY(lo c:Int)(n:Nat):List PV:=(List.range n).map λ(i:Nat)=>PV.int (lo+i * c)
def wV{K:Vo}{H0:Hp}{lo c:Int}{n:Nat}:jK K H0 (Hd lo c n) ⟨kY lo c n,λ_=>True⟩:=by
 intro i S H g rS _
 refine⟨λp hp=>?_,λhi=>by show n<=i;rw[hi];simp[kY]⟩
 unfold kY at hp
 rw[U7]at hp
 by_cases hi:i < n
 .rw[Xs hi]at hp
  cases hp
  refine⟨hi,λx H' ⟨e,h⟩=>?_⟩
  subst e h
  exact⟨.int _,rS,.refl⟩
 .rw[VR (by simpa using hi)]at hp
  cases hp
def DP(ta tb tc:aO):sy:=λσ S R E=>ta σ S (λv S1=>tb σ S1 (λw S2=>tc σ S2 (λu S3=>match v,w,u with | .int i,.int j,.int c=>∃n,qW i j c n/\R ⟨kY i c n,λ_=>True⟩ S3|_,_,_=>False) E) E) E
def wW(hs:starEach [a,b,c] X.env=[(false,eval a X.env),(false,eval b X.env),(false,eval c X.env)])(hs2:starEach [b,c] X.env=[(false,eval b X.env),(false,eval c X.env)])(hg:Gl X "range")(hm:X.mg "range" = none)(ha:jG X [a,b,c] [ta,tb,tc]):wK X tg (.Call (.Name "range" p) [a,b,c] [] pos) (DP ta tb tc):=
 ⟨kQ (uD hg hm ha.ok hs hs2) λσ H R ⟨σ3,S,R3,E3,rσ,rS,h,xo,k⟩=>⟨σ3,S,_,E3,rσ,rS,h,xo,λv S1 v' H1 h1 rv JT g1=>⟨σ3,S1,_,E3,rσ.mono g1,JT,h1,xo.mono g1,λw S2 w' H2 h2 rw' KY g2=>⟨σ3,S2,_,E3,rσ.mono (g1.trans g2),KY,h2,xo.mono (g1.trans g2),λu S3 u' H3 h3 ru NY g3=>by
  split at h3
  .cases rv;cases rw';cases ru
   obtain⟨n,ok,q⟩:=h3
   exact⟨_,_,_,n,rfl,ok,k _ S3 _ H3 q wV NY ((g1.trans g2).trans g3)⟩
  .exact h3.elim⟩⟩⟩⟩
end
end L3
namespace T5
open PySem PySem.NumText
noncomputable def ofL(l:List Nat):Str:=⟨l.toArray⟩
def du(z:Str):ofL z.cps.toList=z:=by obtain⟨⟨l⟩⟩:=z;rfl
def toL(l:List Nat):(ofL l).cps.toList=l:=rfl
def JL(l:List Nat):(ofL l).length=l.length:=rfl
noncomputable def sp:List Nat->List (List Nat)
 |[]=>[[]]
 |c::r=>if c=47 then []::sp r else match sp r with
  |[]=>[[c]]
  |p::q=>(c::p)::q
theorem sB:∀l,sp l≠[]
 |[]=>by simp[sp]
 |c::r=>by
  unfold sp
  split
  .simp
  .split<;>simp
noncomputable def qX:List (List Nat)->List Nat
 |[]=>[]
 |[p]=>p
 |p::q=>p++47::qX q
def je{p:List Nat}{q:List (List Nat)}(h:q≠[]):qX (p::q)=p++47::qX q:=by
 cases q with
 |nil=>exact absurd rfl h
 |cons a b=>rfl
theorem gk:∀(p:List Nat),47 ∉ p->sp p=[p]
 |[],_=>rfl
 |c::r,h=>by
  unfold sp
  rw[if_neg (λe=>h (by rw[e];exact Vj)),gk r λz=>h (UP _ z)]
theorem nF:∀(p r:List Nat),47 ∉ p->sp (p++47::r)=p::sp r
 |[],r,_=>by
  show sp (47::r)=_
  rw[sp,if_pos rfl]
 |c::p,r,h=>by
  show sp (c::(p++47::r))=_
  rw[sp,if_neg (λe=>h (by rw[e];exact Vj)),nF p r λz=>h (UP _ z)]
theorem sC:∀(P:List (List Nat)),P≠[]->(∀p∈P,47 ∉ p)->sp (qX P)=P
 |[],h,_=>absurd rfl h
 |[p],_,h=>gk p (h p Vj)
 |p::a::q,_,h=>by
  rw[je (by simp),nF _ _ (h p Vj),sC (a::q) (by simp) λx hx=>h x (UP _ hx)]
theorem sD:∀l,qX (sp l)=l
 |[]=>rfl
 |c::r=>by
  have ih:=sD r
  unfold sp
  split
  .rename_i e
   rw[je (sB r),ih,e];rfl
  .split
   .rename_i e
    exact absurd e (sB r)
   .rename_i p q e
    rw[e]at ih
    cases q with
    |nil=>show c::p=_;rw[<-ih];rfl
    |cons a b=>rw[je (by simp)]at ih ⊢;rw[<-ih];rfl
def wX(l:List Nat):(sp l).length<=l.length+1:=by
 induction l with
 |nil=>simp[sp]
 |cons c r ih=>
  unfold sp
  split
  .simpa using ih
  .split
   .simp
   .rename_i e;rw[e]at ih;simp at ih ⊢;omega
theorem mB:∀(P:Vs),(Str.join (ofL [47]) P).cps.toList=qX (P.map λz=>z.cps.toList)
 |[]=>rfl
 |[p]=>rfl
 |p::a::q=>by
  have ih:=mB (a::q)
  show(p++ofL [47]++Str.join (ofL [47]) (a::q)).cps.toList=p.cps.toList++47::qX ((a::q).map λz=>z.cps.toList)
  rw[<-ih]
  show((p.cps++#[47])++(Str.join (ofL [47]) (a::q)).cps).toList=_
  simp
def pJ(z:Str):Txt.split z "/" = (sp z.cps.toList).map ofL:=by
 have e0:("/":Str)=ofL [47]:=rfl
 have h1:=PySem.StrLaws.join_split z (ofL [47])
 have h2:=Xx z 47
 have h3:=PyProof.Rows.split_pos z (ofL [47])
 rw[e0]
 have e:(ofL [47]:Str)=⟨#[47]⟩:=rfl
 rw[<-e]at h2
 generalize Txt.split z (ofL [47])=P at *
 have h4:=mB P
 rw[h1]at h4
 rw[h4,sC _ (by intro z;have:=U4 List.length z;simp at this;rw[this]at h3;simp at h3) (by intro p hp;obtain⟨y,hy,rfl⟩:=Vf.mp hp;exact h2 y hy),VF]
 conv=>lhs;rw[<-YD P]
 exact List.map_congr_left λy _=>(du y).symm
noncomputable def dn(m:Nat):List Nat:=(Nat.toDigits 10 m).map Char.toNat
noncomputable def num(n:Int):List Nat:=(PySem.Str.ofString (toString n)).cps.toList
def bx(m:Nat):num (m:Int)=dn m:=PySem.W.KIN.signs_num m
def AA(m:Nat)(h:0 < m):num (-(m:Int))=45::dn m:=by
 obtain⟨k,rfl⟩:∃k,m=k+1:=⟨m - 1,by omega⟩
 unfold num
 rw[show -((k+1:Nat):Int)=Int.negSucc k from rfl,PyProof.Rows.signs_ofString]
 show("-" ++ Nat.repr (k+1)).toList.map Char.toNat=_
 rw[String.toList_append,U5,Nat.toList_repr]
 rfl
def Lc{m:Nat}(h:m < 10):dn m=[48+m]:=by
 unfold dn
 rw[Nat.toDigits_of_lt_base h]
 show[(Nat.digitChar m).toNat]=_
 have:∀d:Nat,d < 10->(Nat.digitChar d).toNat=48+d:=by decide
 rw[this m h]
def pK{m:Nat}(h:10<=m):dn m=dn (m / 10)++[48+m % 10]:=by
 have hm:m % 10 < 10:=Nat.mod_lt m (by decide)
 have t:Nat.toDigits 10 (m / 10)++Nat.toDigits 10 (m % 10)=Nat.toDigits 10 (10 * (m / 10)+m % 10):=Nat.toDigits_append_toDigits (by decide) (by omega) hm
 rw[Nat.div_add_mod]at t
 rw[<-Lc hm]
 unfold dn
 rw[<-t,U5]
def nG(m:Nat):AllDigits (dn m):=by
 induction m using Nat.strongRecOn with
 |_ m ih=>
  by_cases h:m < 10
  .rw[Lc h];intro c hc;rw[UM.mp hc];omega
  .rw[pK (by omega)]
   intro c hc
   rcases UT.mp hc with hc|hc
   .exact ih (m / 10) (by omega) c hc
   .rw[UM.mp hc];omega
def wY(m:Nat):dn m≠[]:=by
 by_cases h:m < 10
 .rw[Lc h];simp
 .rw[pK (by omega)];simp
def nH(m:Nat):digitsVal (dn m)=m:=PySem.W.KIN.val_back m
def nI{k:Nat}:∀{m:Nat},m < 10 ^ (k+1)->(dn m).length<=k+1:=by
 induction k with
 |zero=>intro m h;rw[Lc (by simpa using h)];simp
 |succ k ih=>
  intro m h
  by_cases h9:m < 10
  .rw[Lc h9];simp
  .rw[pK (by omega),UK]
   have:=ih (m:=m / 10) (by rw[Nat.pow_succ]at h;omega)
   simp;omega
def AB(m:Nat)(h:0 < m):∀r,dn m≠48::r:=by
 induction m using Nat.strongRecOn with
 |_ m ih=>
  intro r e
  by_cases h9:m < 10
  .rw[Lc h9]at e
   have:=(W9 e).1
   omega
  .rw[pK (by omega)]at e
   cases ed:dn (m / 10)with
   |nil=>exact wY _ ed
   |cons a b=>
    rw[ed]at e
    have:=(W9 e).1
    exact ih (m / 10) (by omega) (by omega) b (by rw[ed,this])
def kZ(l:List Nat):Prop:=∀r,l=48::r->r=[]
def wZ(m:Nat):kZ (dn m):=by
 intro r e
 by_cases h:0 < m
 .exact absurd e (AB m h r)
 .have:m=0:=by omega
  subst this
  rw[Lc (by decide)]at e
  exact((W9 e).2).symm
def AC:∀(k:Nat)(h:List Nat),h.length=k->AllDigits h->h≠[]->kZ h->dn (digitsVal h)=h:=by
 intro k
 induction k with
 |zero=>intro h hl _ hn;exact absurd (Vi.mp hl) hn
 |succ k ih=>
  intro h hl hd hn hc
  obtain⟨p,c,rfl⟩:∃p c,h=p++[c]:=⟨h.dropLast,h.getLast hn,(W7 hn).symm⟩
  have hcd:=hd c (by simp)
  have hp:AllDigits p:=λx hx=>hd x (VA _ hx)
  rw[digitsVal_snoc]
  by_cases OH:p=[]
  .subst OH
   show dn (0 * 10+(c - 48))=[c]
   rw[Lc (by omega)]
   congr 1
   omega
  .have M7:kZ p:=by
    intro r e
    have:=hc (r++[c]) (by rw[e];rfl)
    simp at this
   have e:=ih p (by simpa using hl) hp OH M7
   have h0:0 < digitsVal p:=by
    apply Nat.pos_of_ne_zero
    intro z
    rw[z,Lc (by decide)]at e
    have:=hc [c] (by rw[<-e];rfl)
    simp at this
   rw[pK (by omega),show(digitsVal p * 10+(c - 48)) / 10=digitsVal p by omega,e]
   congr 2
   omega
def u8(l:List Nat):Prop:=l≠[]/\AllDigits l
open Classical in
noncomputable def rf(l:List Nat):Option Nat:=if u8 l/\kZ l then some (digitsVal l) else none
noncomputable def rn(l:List Nat):Option (Nat×Nat):=match sp l with
 |[a]=>(match rf a with|some t=>some (t,1)|none=>none)
 |[a,b]=>(match rf a,rf b with|some t,some u=>if u < 2\/Nat.gcd t u≠1 then none else some (t,u)|_,_=>none)
 |_=>none
noncomputable def txt(f:Int×Int):List Nat:=if f.2=1 then num f.1 else num f.1++47::num f.2
open Classical in
def sE{l:List Nat}(h:u8 l)(c:kZ l):rf l=some (digitsVal l):=if_pos ⟨h,c⟩
def ke{l:List Nat}(h:¬(u8 l/\kZ l)):rf l=none:=if_neg h
def Oe(v:Nat):u8 (dn v):=⟨wY v,nG v⟩
def w_(v:Nat):rf (dn v)=some v:=by rw[sE (Oe v) (wZ v),nH]
def xg{l:List Nat}{v:Nat}(h:rf l=some v):l=dn v/\digitsVal l=v:=by
 unfold rf at h
 split at h
 .rename_i q
  cases h
  exact⟨(AC _ l rfl q.1.2 q.1.1 q.2).symm,rfl⟩
 .cases h
end T5
namespace T5
open PySem PySem.NumText PySem.Builtin PySem.Builtin.Str
def AD(l:List Nat)(i:Nat):Txt.slice (ofL l) (some (i:Int)) none=ofL (l.drop i):=by
 rw[show Txt.slice (ofL l) (some (i:Int)) none=StrLaws.sliceText (ofL l) (some (i:Int)) none from rfl]
 have key:∀k:Nat,k<=l.length->StrLaws.sliceText (ofL l) (some (k:Int)) none=ofL (l.drop k):=by
  intro k hk
  rw[StrLaws.sliceText_from ⟨by omega,by rw[toL];omega⟩,toL]
  show ofL ((l.drop ((k:Int).toNat)).take ((l.length:Int) - (k:Int)).toNat)=_
  rw[XN,Wm (by simp)]
 by_cases h:i<=l.length
 .exact key i h
 .have e:StrLaws.sliceText (ofL l) (some (i:Int)) none=StrLaws.sliceText (ofL l) (some (l.length:Int)) none:=by
   have e2:strSliceIndices (some (i:Int)) none 1 (ofL l).length=strSliceIndices (some (l.length:Int)) none 1 (ofL l).length:=by
    rw[JL]
    unfold strSliceIndices
    have e3:max (0:Int) (min (i:Int) (l.length:Int))=max (0:Int) (min (l.length:Int) (l.length:Int)):=by omega
    have h1:¬((i:Int) < 0):=by omega
    have h2:¬((l.length:Int) < 0):=by omega
    simp[e3,h1,h2]
   unfold StrLaws.sliceText
   rw[e2]
  rw[e,key _ (UH _),XT (by omega),XT (by omega)]
def BU(l:List Nat)(i:Nat):Txt.slice (ofL l) none (some (i:Int))=ofL (l.take i):=by
 rw[show Txt.slice (ofL l) none (some (i:Int))=StrLaws.sliceText (ofL l) none (some (i:Int))from rfl]
 have key:∀k:Nat,k<=l.length->StrLaws.sliceText (ofL l) none (some (k:Int))=ofL (l.take k):=by
  intro k hk
  rw[StrLaws.sliceText_to ⟨by omega,by rw[toL];omega⟩,toL]
  show ofL ((l.drop 0).take ((k:Int) - 0).toNat)=_
  rw[WY,Int.sub_zero,XN]
 by_cases h:i<=l.length
 .exact key i h
 .have e:StrLaws.sliceText (ofL l) none (some (i:Int))=StrLaws.sliceText (ofL l) none (some (l.length:Int)):=by
   have e2:strSliceIndices none (some (i:Int)) 1 (ofL l).length=strSliceIndices none (some (l.length:Int)) 1 (ofL l).length:=by
    rw[JL]
    unfold strSliceIndices
    have e3:max (0:Int) (min (i:Int) (l.length:Int))=max (0:Int) (min (l.length:Int) (l.length:Int)):=by omega
    have h1:¬((i:Int) < 0):=by omega
    have h2:¬((l.length:Int) < 0):=by omega
    simp[e3,h1,h2]
   unfold StrLaws.sliceText
   rw[e2]
  rw[e,key _ (UH _),Wm (by omega),Wm (by omega)]
def xh(l:List Nat)(h:l.length=60):Txt.slice (ofL l) (some 0) (some 60)=ofL l:=by
 rw[show Txt.slice (ofL l) (some 0) (some 60)=StrLaws.sliceText (ofL l) (some ((0:Nat):Int)) (some ((60:Nat):Int))from rfl,StrLaws.sliceText_nat _ (by decide) (by rw[JL,h];exact UH _),toL]
 show ofL ((l.drop 0).take 60)=_
 rw[WY,Wm (by omega)]
noncomputable def uE(l:List Nat):List Nat:=List.replicate (60 - l.length) 48++l
def gm{l:List Nat}(h:l.length<=60):(uE l).length=60:=by unfold uE;simp;omega
def zf{l:List Nat}(h:u8 l)(hl:l.length<=60):Txt.zfill (ofL l) 60=ofL (uE l):=by
 unfold Txt.zfill
 rw[JL]
 by_cases h6:(60:Int)<=(l.length:Int)
 .rw[if_pos h6]
  unfold uE
  rw[show 60 - l.length=0 by omega]
  rfl
 .rw[if_neg h6]
  obtain⟨hne,hd⟩:=h
  cases l with
  |nil=>exact absurd rfl hne
  |cons c r=>
   have hc:=hd c (by simp)
   unfold zfilled
   have e:(ofL (c::r)).cps[0]?=some c:=by simp[ofL]
   rw[e]
   have:padded (ofL (c::r)) ((60:Int).toNat - (c::r).length) 0 48=ofL (uE (c::r)):=by
    unfold padded uE ofL
    apply Str.ext'
    apply Array.toList_inj.mp
    simp
   rw[<-this]
   split
   .rename_i e2;cases e2;omega
   .rename_i e2;cases e2;omega
   .rfl
def AE(l:List Nat):digitsVal (uE l)=digitsVal l:=by
 unfold uE digitsVal
 rw[List.foldl_append]
 have:∀k:Nat,(List.replicate k 48).foldl (λacc c=>acc * 10+(c - 48)) 0=0:=by
  intro k
  induction k with
  |zero=>rfl
  |succ k ih=>rw[V9,List.foldl_cons];exact ih
 rw[this]
def AF{l:List Nat}(h:u8 l)(hl:l.length<=60):intText? (ofL (uE l))=some (digitsVal l:Int):=by
 have hd:AllDigits (uE l):=by
  intro c hc
  unfold uE at hc
  rcases UT.mp hc with hc|hc
  .rw[List.eq_of_mem_replicate hc];omega
  .exact h.2 c hc
 rw[intText_digits (x:=ofL (uE l)) hd (by rw[toL];intro e;have:=gm hl;rw[e]at this;cases this) (by rw[JL,gm hl];decide),toL,AE]
end T5
namespace L3
open PySem L2 Xc
end L3
namespace L2
open PySem PySem.Spec PyProof.Rows Xc
end L2
namespace L3
open PySem L2 Xc
end L3
namespace L3
open PySem L2
end L3
namespace L2
open PySem PySem.Spec PyProof.Rows
end L2
namespace L3
open PySem L2
end L3
namespace CY
open PySem L2 L3
end CY
namespace L3
open PySem L2
section
variable {X:Cx}
def mC:lW:=λps S Q=>match ps with
 |[.int i]=>i.natAbs.log2 < 1920/\Q (.str (toString i)) S
 |[.str z]=>(reprText z).length<=sizeLine/\Q (.str (reprText z)) S
 |ps=>pB ps S Q
def xi(hu:X.A.units+150 < cLine)(hg:X.A.guards=some []):cF X (.builtin "repr") mC:=⟨λpins s σ H xs us Q I r ⟨ps,S,Q3,rp,rS,q,k⟩=>by
 unfold mC at q
 split at q
 .rename_i i
  cases rp with
  |cons a rr=>
   cases rr
   cases r with
   |cons r1 r2=>
    cases r2;cases a
    obtain⟨t,rfl⟩:=r1
    exact P.repr_of_int q.1 ⟨.str _,H,I.kept (t':=s.toks+1) (h':=s.heap) (λ_ _ e=>e),⟨_,rfl⟩,k _ S _ H q.2 (.str _) rS .refl⟩
 .rename_i z
  cases rp with
  |cons a rr=>
   cases rr
   cases r with
   |cons r1 r2=>
    cases r2;cases a
    obtain⟨t,rfl⟩:=r1
    exact P.repr_of_str ⟨.str _,H,I.kept (t':=s.toks+1) (h':=s.heap) (λ_ _ e=>e),⟨_,rfl⟩,k _ S _ H q.2 (.str _) rS .refl⟩ q.1
 .exact(Dv hu hg).ok pins s σ H xs us Q I r ⟨ps,S,Q3,rp,rS,q,k⟩⟩
end
end L3
namespace L2
open PySem PySem.Spec PyProof.Rows
def DQ(K:Vo)(a:Addr)(zs:Vs):Prop:=∃(o:Obj)(its:Vw)(n:Nat),K.lookup a=some o/\o.cls = .type "tuple"/\o.dict=none/\o.data = .seq its n/\its.size<=sizeLine/\Vals (zs.map V.str) its.toList
inductive OI(K:Vo):List (bp×V)->List (Str×List Str)->Prop
 |nil:OI K [] []
 |cons {z:Str} {b:Addr} {zs:Vs} {kvs:List (bp×V)} {fs:List (Str×List Str)} (h:DQ K b zs) (t:OI K kvs fs):OI K ((.inr z,.ref b)::kvs) ((z,zs)::fs)
def KF(P:Program)(w:World)(K:Vo)(a:Addr)(fs:List (Str×List Str)):Prop:=∃kvs,KD P w K a kvs/\OI K kvs fs
noncomputable def gZ:List (Str×List Str)->Str->Option (List Str)
 |[],_=>none
 |(k,v)::r,z=>if k=z then some v else gZ r z
theorem OI.at_{K:Vo}{z:Str}:∀{kvs:List (bp×V)}{fs:List (Str×List Str)},OI K kvs fs->(match gZ fs z with|some zs=>∃b,fj kvs (.inr z)=some (.ref b)/\DQ K b zs|none=>fj kvs (.inr z)=none)
 |_,_,.nil=>rfl
 |_,_,.cons (z:=k) h t=>by
  unfold gZ
  by_cases e:k=z
  .subst e
   rw[if_pos rfl]
   exact⟨_,KU rfl,h⟩
  .rw[if_neg e]
   have ih:=t.at_ (z:=z)
   rw[KW (by intro q;cases q;exact e rfl)]
   exact ih
section
variable {X:Cx}{a:Addr}{kvs:List (bp×V)}
def sF{pins:Va}{σ:St}{H:Hp}{s:Shared}(hD:KD X.prog X.w X.K a kvs)(I:Inv X pins σ H s):∃vs,KV kvs vs/\s.heap.DictOf (aW X.prog X.w) a vs:=by
 obtain⟨_,o,vs,hk,rel,ii⟩:=hD
 exact⟨vs,rel,Heap.dictOf_iff.mpr ⟨o,I.L_ a o hk,ii⟩⟩
def Ik(hD:KD X.prog X.w X.K a kvs):CW X (λx y H Q=>∃k v,x = .ref a/\y=kV k/\fj kvs k=some v/\Q v H):=by
 intro value slice pins s σ H x y v u Q I rx ry h hs
 obtain⟨k,z,rfl,rfl,g,q⟩:=h
 cases rx
 obtain⟨vs,rel,dd⟩:=sF hD I
 obtain⟨w',hw,rw'⟩:=Ly.some_of (v:=z) (o:=valueAt vs k) (by rw[<-g];exact rel.val k)
 exact tail_any dd.typeIs PySem.F.slot_dict_getitem.lookup (wpAny_getItem_of (jB ry) dd.mapOf hw ⟨z,H,I.tok _,rw',q⟩) hs
def uF(hD:KD X.prog X.w X.K a kvs):gi X (compareOp .NotIn) (λx y H Q=>∃k,x=kV k/\y = .ref a/\Q (.bl (!(fj kvs k).isSome)) H):=by
 walk_at "3"
 obtain⟨k,rfl,rfl,q⟩:=h
 cases ry
 obtain⟨vs,rel,dd⟩:=sF hD I
 refine wpAny_notIn_of (jB rx) hD.1 dd.mapOf ?_
 rw[<-(rel.val k).Kt]
 exact⟨.bl _,H,I.tok _,rfl,q⟩
end
end L2
namespace L3
open PySem PySem.Spec PyProof.Rows L2
section
variable {X:Cx}{x:Str}{e:Expr}{te:aO}{p pos:Pos}{j:Nat}
def Jw{zs:Vs}(h:∃a,X.mg x=some (.ref a)/\DQ X.K a zs)(hg:Gl X x:=by rfl)(hd:(x == ("__debug__":Str))=false:=by decide):aY X (.Name x pos) (c3 (.tup (zs.map PV.str))):=
 let ⟨a,h1,h2⟩:=h
 ⟨aK (il (v:=.ref a) hg h1 rfl hd) λσ H Q ⟨σ3,S,Q3,E3,rσ,rS,h,xo,k⟩=>k _ S _ H h (.tup (vs:=zs.map V.str) (.inr h2) (d4 zs)) rS .refl⟩
def xk(fs:List (Str×List Str))(te:aO):aO:=λσ S Q E=>te σ S (λy S1=>match y with | .str z=>(match gZ fs z with|some zs=>Q (.tup (zs.map PV.str)) S1|none=>False)|_=>False) E
def Jx{fs:List (Str×List Str)}(h:∃a,X.mg x=some (.ref a)/\KF X.prog X.w X.K a fs)(he:aY X e te)(hs:ip e)(hg:Gl X x:=by rfl)(hd:(x == ("__debug__":Str))=false:=by decide):aY X (.Subscript (.Name x p) e pos) (xk fs te):=
 let ⟨a,h1,kvs,h2,h3⟩:=h
 ⟨aK (BI (Ik h2) (il (v:=.ref a) hg h1 rfl hd) he.ok hs) λσ H Q ⟨σ3,S,Q3,E3,rσ,rS,h,xo,k⟩=>⟨σ3,S,_,E3,rσ,rS,h,xo,λy S1 v H1 q rv JT g1=>by
  split at q
  .rename_i z
   cases rv
   have hz:=h3.at_ (z:=z)
   split at q
   .rename_i zs ez
    rw[ez]at hz
    obtain⟨b,e1,e2⟩:=hz
    exact⟨.inr z,_,rfl,rfl,e1,k _ S1 _ H1 q (.tup (vs:=zs.map V.str) (.inr e2) (d4 zs)) JT g1⟩
   .exact q.elim
  .exact q.elim⟩⟩
def xm(fs:List (Str×List Str))(te:aO):aO:=λσ S Q E=>te σ S (λy S1=>match y with | .str z=>Q (.bl (!(gZ fs z).isSome)) S1|_=>False) E
end
end L3
namespace L2
open PySem PySem.Spec PyProof.Rows
section
variable {X:Cx}{o:Expr}{to:TE}{a b:Str}{k1 k2:Nat}{p1 p2 apos cpos:Pos}
def Gh(a b:Str)(to:TE):TE:=λσ H Q=>to σ H λx H1=>∃z,x = .str z/\z.length+(z.length+1) * b.length<=16777216/\Q (.str (Txt.replace z a b)) H1
def AG(ho:PE X o to)(hab:(a == b)=false)
  (hbase:attributeBase o "replace" X.env (eval o X.env)=eval o X.env:=by rfl)
  (hfew:((backTo cpos (starEach [.Constant (.str a) k1 p1,.Constant (.str b) k2 p2] X.env)).all (λx=>!x.1)&&(backToKw cpos (keywordEach [] X.env)).all (λx=>x.1.isSome)
   && decide (([.Constant (.str a) k1 p1,.Constant (.str b) k2 p2]:List Expr).length+([]:List Keyword).length+(if ([]:List Keyword).isEmpty then 0 else 1) < 30))=true:=by rfl)
  (hline:(apos.endLine == cpos.line)=true:=by rfl)
  (hs:starEach [.Constant (.str a) k1 p1,.Constant (.str b) k2 p2] X.env=[(false,eval (.Constant (.str a) k1 p1) X.env),(false,eval (.Constant (.str b) k2 p2) X.env)]:=by rfl)
  (hb2:backTo cpos [(false,eval (.Constant (.str a) k1 p1) X.env),(false,eval (.Constant (.str b) k2 p2) X.env)]=[(false,eval (.Constant (.str a) k1 p1) X.env),(false,eval (.Constant (.str b) k2 p2) X.env)]:=by rfl) :
  PE X (.Call (.Attribute o "replace" apos) [.Constant (.str a) k1 p1,.Constant (.str b) k2 p2] [] cpos) (Gh a b to):=by
 walk_at "7"
 refine wpAny_Call_method_late hbase hfew hline rfl (JN (ho pins s σ H _ I h) λv s1 ⟨x,H1,I1,r1,z,ez,hz,q1⟩=>?_)
 subst ez
 obtain⟨h1,h2⟩:=qG (T:="str") I1 r1 rfl
 obtain⟨t,rfl⟩:=r1
 refine⟨"str","str.replace",W5,PySem.F.slot_str_replace,PySem.F.type_str_replace,h1,h2,?_⟩
 have tk:=I1.tk
 rw[hs,hb2]
 refine XQ rfl (Calls.evalArgs_plain ?_)
 refine W3 (Calls.Constant_str (W3 (Calls.Constant_str (XJ ?_))))
 have I2:Inv X pins σ H1 { s1 with toks:=s1.toks+1+1 }:=I1.tok _
 refine Vg I2.tk (SC.replace (WA tk) (Nat.succ_ne_zero _) (Vm (Nat.lt_succ_self _)) hab hz λt' k ht=>?_)
 exact⟨.str _,H1,I2.tok k ht,⟨t',rfl⟩,q1⟩
end
end L2
namespace L3
open PySem PySem.Spec PyProof.Rows L2
section
variable {X:Cx}{o:Expr}{to:aO}{a b:Str}{k1 k2:Nat}{p1 p2 apos cpos:Pos}
def k4(a b:Str)(to:aO):aO:=λσ S Q E=>to σ S (λx S1=>match x with | .str z=>z.length+(z.length+1) * b.length<=16777216/\Q (.str (Txt.replace z a b)) S1|_=>False) E
def nJ(ho:aY X o to)(hab:(a == b)=false:=by decide +kernel)
  (hbase:attributeBase o "replace" X.env (eval o X.env)=eval o X.env:=by rfl)
  (hfew:((backTo cpos (starEach [.Constant (.str a) k1 p1,.Constant (.str b) k2 p2] X.env)).all (λx=>!x.1)&&(backToKw cpos (keywordEach [] X.env)).all (λx=>x.1.isSome)
   && decide (([.Constant (.str a) k1 p1,.Constant (.str b) k2 p2]:List Expr).length+([]:List Keyword).length+(if ([]:List Keyword).isEmpty then 0 else 1) < 30))=true:=by rfl)
  (hline:(apos.endLine == cpos.line)=true:=by rfl):aY X (.Call (.Attribute o "replace" apos) [.Constant (.str a) k1 p1,.Constant (.str b) k2 p2] [] cpos) (k4 a b to):=
 ⟨aK (AG ho.ok hab hbase hfew hline) λσ H Q ⟨σ3,S,Q3,E3,rσ,rS,h,xo,k⟩=>⟨σ3,S,_,E3,rσ,rS,h,xo,λx S1 v H1 h1 rx JT g1=>by
  split at h1
  .cases rx
   exact⟨_,rfl,h1.1,k _ S1 _ H1 h1.2 (.str _) JT g1⟩
  .exact h1.elim⟩⟩
end
end L3
namespace L2
open PySem PySem.Spec PyProof.Rows
end L2
namespace L3
open PySem PySem.Spec PyProof.Rows L2
def Il{X:Cx}{x:Str}{e:Expr}{te:aO}{p pos:Pos}{fs:List (Str×List Str)}(h:∃a,X.mg x=some (.ref a)/\KF X.prog X.w X.K a fs)(he:aY X e te)(hg:Gl X x:=by rfl)(hm:behindInMarks .NotIn (.Name x p)=false:=by rfl)(hd:(x == ("__debug__":Str))=false:=by decide):pp X (.Compare e [.NotIn] [.Name x p] pos) (aH (xm fs te)):=
 let ⟨a,h1,kvs,h2,h3⟩:=h
 ⟨kI (rZ (uF h2) he.ok (il (v:=.ref a) hg h1 rfl hd) hm) λσ H Q ⟨σ3,S,Q3,E3,rσ,rS,h,xo,k⟩=>⟨σ3,S,_,E3,rσ,rS,h,xo,λy S1 v H1 q rv JT g1=>by
  dsimp only at q
  split at q
  .rename_i z
   cases rv
   have hz:=h3.at_ (z:=z)
   refine⟨.inr z,rfl,rfl,_,rfl,k _ S1 H1 ?_ JT g1⟩
   cases ez:gZ fs z with
   |none=>rw[ez]at hz q;rw[hz];exact q
   |some zs=>rw[ez]at hz q;obtain⟨b,e1,_⟩:=hz;rw[e1];exact q
  .exact q.elim⟩⟩
end L3
namespace L3
open PySem L2 Xc
def Gi{X:Cx}{a:Addr}{k:Nat}(hr:gB k X.A):vx k (X.Mf a).A:=⟨λz=>(by cases z),hr.dp,hr.un,hr.gd⟩
end L3
namespace L2
open PySem PySem.Spec PyProof.Rows
section
variable {X:Cx}
def xp{prog:Program}{w:World}{A:Around}{E:Vq}{s:Shared}{x:Str}{t:Tok}{Q:Vq}(hsz:x.length+2<=sizeLine)
  (hq:∀(l:List (Str×Tok)) tk,l.map (·.1)=Txt.words x->Q (.ref s.heap.objs.size) { s with heap:=s.heap.push { cls:=.type "list",data:=.seq (strValues l).toArray },toks:=tk }) :
  wpAny (model prog w) A (call (.builtin "str.split") [.str x t]) Q E s:=by
 have hn:(Builtin.Str.spaceWords x (x.length+1)).length<=sizeLine:=by
  have e1:=(StrLaws.sw_weight x).1
  have e2:=StrLaws.len_le_wsum (Builtin.Str.spaceWords x (x.length+1))
  omega
 refine Xf Ye (XA _ _ _) XS (F.args_str_split_1 _) (meets_str_split_space x t (by omega) hn) ?_
 cases hw:Builtin.Str.spaceWords x (x.length+1) == [(0,x.length)]
 .simp only[UR,Vx]
  rw[strsFrom_eq]
  exact hq (numbered s.toks (wordsOf x)) _ ((numbered_texts _ _).trans (if_neg (Xu hw)).symm)
 .simp only[VL]
  exact hq [(x,t)] s.toks (if_pos hw).symm
def xq:CZ X "str.split" (λx vs H Q=>∃z,x = .str z/\vs=[]/\z.length+2<=sizeLine/\∀q,H q=none->Q (.ref q) (upd H q (.lst ((Txt.words z).map V.str)))):=by
 intro pins s σ H x vs v us Q I rx rv h
 obtain⟨z,rfl,rfl,h1,q⟩:=h
 obtain⟨t,rfl⟩:=rx
 cases rv
 refine Vg I.tk (xp h1 λl tk e ht=>?_)
 rw[<-e]at q
 have h2:(l.map (·.1)).length<=sizeLine:=by
  rw[e]
  have:=StrLaws.words_weight z
  omega
 refine⟨.ref _,_,I.laid (a:=s.heap.objs.size) (o:=.lst ((l.map (·.1)).map V.str)) (t':=tk) (λb o e=>UG _ e) (UH _) ?_,rfl,q _ (I.hok.fresh (UH _))⟩
 exact⟨by rw[UJ];exact h2,strValues l,0,DN l,U0 _ rfl⟩
end
end L2
namespace L3
open PySem PySem.Spec PyProof.Rows L2
section
variable {X:Cx}
def nK:uw:=λx ps S Q=>match x,ps with
 | .str z,[]=>z.length+2<=sizeLine/\∀p,S p=none->Q (.ref p) (JH S p (.lst ((Txt.words z).map PV.str)))
 |_,_=>False
def AH:wG X "str.split" nK:=⟨λpins s σ H x xs v us Q I rx rs ⟨px,ps,S,Q3,r1,rp,rS,q,k⟩=>by
 unfold nK at q
 split at q
 .cases r1
  cases rp
  exact xq pins s σ H _ _ v us Q I rx rs ⟨_,rfl,rfl,q.1,λp hp=>k _ _ _ _ (q.2 p (rS.free hp)) (.ref p) (rS.new hp ⟨_,au,d4 _⟩) (.new hp)⟩
 .exact q.elim⟩
end
end L3
namespace L2
open PySem PySem.Spec PyProof.Rows
section
variable {X:Cx}
noncomputable def AI:V->List V->Hp->VK->Prop:=λx vs H Q=>∃d o kvs more,x = .ref d/\vs=[.ref o]/\d≠o/\H d=some (.dK kvs)/\H o=some (.dK more)/\kvs.length+more.length<=sizeLine/\Q .non (upd H d (.dK (ei kvs more)))
def uG:G8 X "dict.update" AI:=by
 intro pins s σ H x vs v us Q I rx rv h
 obtain⟨d,o,kvs,more,rfl,rfl,hdo,hd,ho,hz,q⟩:=h
 cases rx
 obtain⟨u,rfl,ru⟩:=rv.one
 cases ru
 obtain⟨z1,s1,TD,r1,d1⟩:=si I.hok hd
 obtain⟨z2,s2,LK,r2,d2⟩:=si I.hok ho
 refine call_meetsIn PySem.F.slot_dict_update d1.typeIs PySem.F.entry_dict_update (PySem.F.args_dict_update_2 _ _) (meets_dict_update (aW X.prog X.w) d o hdo s2) ⟨TD,LK,d1,d2,by rw[<-r1.length,<-r2.length];exact hz,λh' e1 e2 hs=>?_⟩
 have hm:(ei kvs more).length<=sizeLine:=UN (dO more kvs) hz
 refine⟨.non,_,I.write (x:=d) (e:=d) (o:=.dK (ei kvs more)) (t':=s.toks) (by rw[hd];trivial) (.inl rfl) (λb u hb e=>(hs.2 b hb).trans e) ?_ ⟨hm,s1,_,r2.merge r1,e1⟩,rfl,q⟩
 obtain⟨ob,_,_,e,_⟩:=e1
 exact⟨ob,e⟩
end
end L2
namespace L3
open PySem PySem.Spec PyProof.Rows L2
section
variable {X:Cx}
def iD:uw:=λx ps S Q=>match x,ps with
 | .ref a,[.ref b]=>(match S a,S b with|some (.dct kvs),some (.dct more)=>a≠b/\kvs.length+more.length<=sizeLine/\Q .non (JH S a (.dct (dP kvs more)))|_,_=>False)
 |_,_=>False
def xt:wG X "dict.update" iD:=⟨λpins s σ H x xs v us Q I rx rs ⟨px,ps,S,Q3,r1,rp,rS,q,k⟩=>by
 unfold iD at q
 split at q
 .split at q
  .rename_i e1 e2
   cases r1
   cases rp with
   |cons b rr=>
    cases rr
    cases b
    obtain⟨k1,h1,p1⟩:=rS _ _ e1
    obtain⟨k2,h2,p2⟩:=rS _ _ e2
    exact uG pins s σ H _ _ v us Q I rx rs ⟨_,_,_,_,rfl,rfl,q.1,h1,h2,by rw[p1.length,p2.length];exact q.2.1,k _ _ _ _ q.2.2 .non (rS.put h1 trivial ⟨_,au,(JZ.merge p2 p1).mono (.mut h1 trivial)⟩) (.mut h1 trivial)⟩
  .exact q.elim
 .exact q.elim⟩
def uH:BS "dict" "update" "dict.update":=⟨PySem.F.plainAttrs_dict,PySem.F.slot_dict_update,PySem.F.type_dict_update⟩
end
section
variable {X:Cx}{e o1 i1 o2 i2:Expr}{te QR ti1 to2 ti2:aO}{pos p1 p2 pt:Pos}{k:Nat}
def pL(te QR ti1 to2 ti2:aO):bB:=λD σ S=>te σ S (λv S1=>match v with
 | .tup [v1,v2]=>QR σ S1 (λo S2=>ti1 σ S2 (λi S3=>cv o i v1 S3 λS4=>to2 σ S4 (λo' S5=>ti2 σ S5 (λi' S6=>cv o' i' v2 S6 λS7=>D.nx σ S7) D.ex) D.ex) D.ex) D.ex
 |_=>False) D.ex
def xu(hu:X.A.units+1 < cLine)(he:aY X e te)(TJ:aY X o1 QR)(hi1:aY X i1 ti1)(ho2:aY X o2 to2)(hi2:aY X i2 ti2)(hc:X.calm=true:=by rfl)
  (ha1:∀v,assign (.Subscript o1 i1 p1) X.env v=(do
   let ov <-holding [v] (eval o1 X.env)
   let iv <-holding [v,ov] (eval i1 X.env)
   standAt p1
   holding [v,ov,iv] (setItem ov iv v)
   release [v,ov,iv] []):=by intro _;rfl)
  (ha2:∀v,assign (.Subscript o2 i2 p2) X.env v=(do
   let ov <-holding [v] (eval o2 X.env)
   let iv <-holding [v,ov] (eval i2 X.env)
   standAt p2
   holding [v,ov,iv] (setItem ov iv v)
   release [v,ov,iv] []):=by intro _;rfl)
  (hn:(assignEach [.Subscript o1 i1 p1,.Subscript o2 i2 p2] X.env).length=2:=by rfl) (hst:(assignEach [.Subscript o1 i1 p1,.Subscript o2 i2 p2] X.env).findIdx? (·.1)=none:=by rfl)
  (hs:swapsWithSole [.Tuple [.Subscript o1 i1 p1,.Subscript o2 i2 p2] k pt] e pos.line X.env=pure false:=by rfl) (hw:swappedStores [.Tuple [.Subscript o1 i1 p1,.Subscript o2 i2 p2] k pt] e X.env=pure none:=by rfl)
  (h1:(assignEach [.Tuple [.Subscript o1 i1 p1,.Subscript o2 i2 p2] k pt] X.env).map (·.2)=[assign (.Tuple [.Subscript o1 i1 p1,.Subscript o2 i2 p2] k pt) X.env]:=by rfl) :
  ml X (.Assign [.Tuple [.Subscript o1 i1 p1,.Subscript o2 i2 p2] k pt] e pos) (pL te QR ti1 to2 ti2):=
 ⟨b7 (vk he.ok (vj hc (kr (qu TJ.ok hi1.ok (qQ hu) ha1) (kr (qu ho2.ok hi2.ok (qQ hu) ha2) rV)) hn hst) hs hw h1) λD σ H ⟨σ3,S,D3,rσ,rS,h,xo,n,r,bk,ct⟩=>⟨σ3,S,_,D3.ex,rσ,rS,h,xo,λv S1 v' H1 h1 rv JT g1=>by
  split at h1
  .cases rv with
   |tup hq rs=>cases rs with
    |cons r1 rs=>cases rs with
     |cons r2 rs=>
      cases rs
      refine⟨_,_,rfl,hq,rfl,_,_,rfl,?_⟩
      exact⟨σ3,S1,_,D3.ex,rσ.mono g1,JT,h1,xo.mono g1,λo S2 o' H2 h2 ro KY g2=>⟨σ3,S2,_,D3.ex,rσ.mono (g1.trans g2),KY,h2,xo.mono (g1.trans g2),λi S3 i' H3 h3 ri NY g3=>
       ⟨o,i,_,S3,_,ro.mono g3,ri,r1.mono (g2.trans g3),NY,h3,λS4 H4 h4 Qe g4=>⟨_,_,rfl,⟨σ3,S4,_,D3.ex,rσ.mono (g1.trans (g2.trans (g3.trans g4))),Qe,h4,xo.mono (g1.trans (g2.trans (g3.trans g4))),λo S5 o' H5 h5 ro Pj g5=>⟨σ3,S5,_,D3.ex,rσ.mono ((g1.trans (g2.trans (g3.trans g4))).trans g5),Pj,h5,xo.mono ((g1.trans (g2.trans (g3.trans g4))).trans g5),λi S6 i' H6 h6 ri TK g6=>
        ⟨o,i,_,S6,_,ro.mono g6,ri,r2.mono ((g2.trans (g3.trans g4)).trans (g5.trans g6)),TK,h6,λS7 H7 h7 TN g7=>⟨rfl,n _ S7 _ H7 h7 (rσ.mono ((g1.trans (g2.trans (g3.trans g4))).trans (g5.trans (g6.trans g7)))) TN ((g1.trans (g2.trans (g3.trans g4))).trans (g5.trans (g6.trans g7)))⟩⟩⟩⟩⟩⟩⟩⟩
  .exact h1.elim⟩⟩
end
end L3
namespace L2
open PySem PySem.Spec PyProof.Rows
def lY(items:Vw):slicePick items none none (some (-1))=items.toList.reverse.toArray:=by
 unfold slicePick
 have e:sliceBounds none none (some (-1)) items.size=((items.size:Int) - 1,-1,-1):=by simp[sliceBounds]
 rw[e]
 dsimp only
 unfold sliceRange
 have ec:(if (-1:Int) > 0 then (if (items.size:Int) - 1 < -1 then (-1 - ((items.size:Int) - 1) + -1 - 1) / -1 else 0) else (if (items.size:Int) - 1 > -1 then ((items.size:Int) - 1 - -1 - -1 - 1) / (- -1) else 0)).toNat=items.size:=by
  rw[if_neg (by decide)]
  split<;>simp<;>omega
 dsimp only
 rw[ec,List.filterMap_map,<-HT.wN]
 congr 1
 congr 1
 funext m
 show items[((items.size:Int) - 1 + -1 * (m:Int)).toNat]?=_
 rw[Int.mul_comm]
section
variable {X:Cx}{e st:Expr}{te ts:TE}{p2 pos:Pos}
def Gj(K:Vo)(te ts:TE):TE:=λσ H Q=>te σ H λx H1=>ts σ H1 λy H2=>y = .int (-1)/\∃a xs,x = .ref a/\SqL K H2 a xs/\∀p,H2 p=none->Q (.ref p) (upd H2 p (.lst xs.reverse))
def AJ(he:PE X e te)(hst:PE X st ts):PE X (.Subscript e (.Slice none none (some st) p2) pos) (Gj X.K te ts):=by
 walk_at "7"
 refine Subscript_ (JN (he pins s σ H _ I h) λv s1 ⟨x,H1,I1,r1,q1⟩=>?_)
 refine wpAny_Slice ?_
 rw[evalPart_none]
 refine UL (UL ?_)
 show wpAny _ _ (eval st X.env) _ _ s1
 refine JN (hst pins s1 σ H1 _ I1 q1) λu s3 ⟨y,H3,I3,r3,ey,a,xs,ex,hx,q3⟩=>?_
 subst ey
 subst ex
 obtain⟨tk,rfl⟩:=r3
 cases r1
 have I4:Inv X pins σ H3 { s3 with heap:=s3.heap.push { cls:=.type "slice",data:=.fields #[.none,.none,.int (-1) tk] } }:=I3.kept (t':=s3.toks) λb ob q=>UG _ q
 obtain⟨its,r,ht,hz⟩:=I4.list hx
 have hlen:its.toArray.size=xs.length:=by rw[UX];exact r.length.symm
 have hg:=wpAny_getItem_list_slice (prog:=X.prog) (w:=X.w) (A:=X.A) (E:=X.xe) (Q:=EP X pins σ Q) ht.isList (Heap.IsSliceOf.new ..) .none .none (.int (-1) tk) (by decide) (by
  rw[lY]
  refine⟨.ref _,_,I4.laid (t':=s3.toks) (o:=.lst xs.reverse) (λb ob q=>UG _ q) (UH _) ?_,rfl,q3 _ (I4.hok.fresh (UH _))⟩
  exact⟨by rw[Ys];exact hz,_,0,r.reverse,U0 _ rfl⟩) (by rw[hlen];exact hz)
 show wpAny (model X.prog X.w) X.A (subscriptTail e (.Slice none none (some st) p2) (.ref a) (.ref s3.heap.objs.size)) (EP X pins σ Q) X.xe { s3 with heap:=s3.heap.push { cls:=.type "slice",data:=.fields #[.none,.none,.int (-1) tk] } }
 exact tail_any (ops:=[.ref a,.ref s3.heap.objs.size]) ht.isList.typeIs slot_list_getitem.lookup hg (by with_unfolding_all rfl)
end
end L2
namespace L3
open PySem PySem.Spec PyProof.Rows L2
section
variable {X:Cx}{e st:Expr}{te ts:aO}{p2 pos:Pos}
def xv(te ts:aO):aO:=λσ S Q E=>te σ S (λx S1=>ts σ S1 (λy S2=>match x,y with
 | .ref a,.int i=>i = -1/\(match S2 a with|some (.lst xs)=>∀p,S2 p=none->Q (.ref p) (JH S2 p (.lst xs.reverse))|_=>False)
 |_,_=>False) E) E
def DR(he:aY X e te)(hs:aY X st ts):aY X (.Subscript e (.Slice none none (some st) p2) pos) (xv te ts):=
 ⟨aK (AJ he.ok hs.ok) λσ H Q ⟨σ3,S,Q3,E3,rσ,rS,h,xo,k⟩=>⟨σ3,S,_,E3,rσ,rS,h,xo,λx S1 v H1 h1 rx JT g1=>⟨σ3,S1,_,E3,rσ.mono g1,JT,h1,xo.mono g1,λy S2 u H2 h2 ry KY g2=>by
  try dsimp only at h2
  split at h2
  .cases ry
   cases rx
   obtain⟨e1,h2⟩:=h2
   split at h2
   .rename_i ea
    obtain⟨vs,hv,rs⟩:=KY _ _ ea
    exact⟨by rw[e1],_,_,rfl,SqL.of hv,λp hp=>k _ _ _ _ (h2 p (KY.free hp)) (.ref p) (KY.new hp ⟨_,au,rs.reverse.mono (.new hp)⟩) (g1.trans (g2.trans (.new hp)))⟩
   .exact h2.elim
  .exact h2.elim⟩⟩⟩
end
end L3
namespace Xc
open PySem PySem.W PySem.Calls PyProof.Rows Builtin Builtin.ObjectAttr
def lZ:entryFor table "proto.unchain" = some Builtin.«proto.unchain»:=entryFor_of_tree (by kernel_rfl)
section
variable {prog:Program}{w:World}{A:Around}{E:Vq}{env:Env}{K:Frag}{C:Addr}
def pM{α:Type}{s:Shared}{e h:Addr}{oe oh:Obj}{vs hs:Vw}{Q:α->Shared->Prop}(hh:A.handled=some (.ref h))(he:s.heap.get? e=some oe)(hd:oe.data = .fields vs)(hsz:2 < vs.size)
  (hne:h≠e) (ho:s.heap.get? h=some oh) (Ru:oh.data = .fields hs) (h2:hs[2]?=some .none)
  (hE:E (.ref e) { s with heap:=s.heap.update e (Obj.mapFields (·.setIfInBounds 2 (.ref h))) }):wpAny (model prog w) A (raiseNew (.ref e):Sem α) Q E s:=by
 unfold raiseNew
 refine UD (wpAny_handled ?_)
 rw[hh]
 dsimp only
 rw[if_pos (show(Value.ref h != Value.ref e)=true from by simpa using hne)]
 refine UD (We (runValue_entry lZ ?_))
 unfold Builtin.«proto.unchain»
 dsimp only
 refine UD (Vt ho Ru h2 ?_)
 rw[if_pos (show((Value.none == Value.none)=true)from rfl)]
 refine UD (UL (UL ⟨.none,rfl,?_⟩))
 unfold updateField
 refine UD (UD (wpAny_load he ?_))
 rw[hd]
 dsimp only
 rw[if_pos hsz]
 exact wpAny_update he (wpAny_throw hE)
def qY{s:Shared}{x c:Sem Value}{h:Addr}{Q:Flow->Shared->Prop}(q:ir K C=true)(hh:A.handled=some (.ref h))
  (hc:∀{s:Shared}{Q:Vq},Q .none s->wpAny (model prog w) A c Q E s)
  (hx:wpAny (model prog w) A x (λv s₁=>∃e oe vs oh hs,v = .ref e/\K.In s₁.heap/\s₁.heap.get? e=some oe/\oe.cls = .ref C/\oe.data = .fields vs/\vs[1]?=some .none/\4 < vs.size/\h≠e/\s₁.heap.get? h=some oh/\oh.data = .fields hs/\hs[2]?=some .none/\
   ∀h' Ml vs',h'.get? e=some Ml->Ml.cls=oe.cls->Ml.dict=oe.dict->Ml.data = .fields vs'->vs'[1]?=some .none->(∀b o,b≠e->s₁.heap.get? b=some o->h'.get? b=some o)->h'.objs.size=s₁.heap.objs.size->E (.ref e) { s₁ with heap:=h' }) E s) :
  wpAny (model prog w) A (raiseStmt env (some x) (some c)) Q E s:=by
 unfold raiseStmt
 refine UD (V8 hx (λv s₁ h₁=>?_) λ_ _ x=>x)
 obtain⟨e,oe,vs,oh,hs,rfl,X,he,hcl,hd,h1,hsz,hne,ho,Ru,h2,hE⟩:=h₁
 obtain⟨nm,qn,N,bs,bm,sn,sub,ab,col,dd,k0,k1,k2,k3,k5,hK,T⟩:=ni X q
 have hC:=X _ _ hK
 have QO:(Value.ref C::bm).contains (.type "BaseException")=true:=by rw[WE,T.hasType Xh.hasBase];rfl
 have QP:(Value.ref C::bm).contains (.type "type")=false:=by rw[WE,T.hasType (b:=false) (by decide +kernel)];rfl
 dsimp only
 refine UD (We (hc ?_))
 obtain⟨hp,g,d,tk,os⟩:=s₁
 refine UD (UL ?_)
 dsimp only
 refine UD (We ?_)
 have Sx:C≠e:=λz=>by
  rw[z]at hC
  rw[show((⟨hp,g,d,tk,os⟩:Shared).heap.get? e)=some oe from he]at hC
  cases hC
  cases hd
 have ds:∀{o:Obj}{ws:Vw}(f:Array Value->Array Value),o.data = .fields ws->(Obj.mapFields f o).data = .fields (f ws):=λf hz=>Wh hz f
 unfold excFromValue
 repeat (first|(with_reducible refine Wl he ?_;rw[hcl])|with_reducible refine Wl hC ?_|(with_reducible refine Yt hC ?_;first|rw[QO]|rw[QP])|with_reducible refine Vt he hd h1 ?_|with_reducible refine Xg he hd (by omega) ?_|wp_step)
 have up:∀{hh:Heap}{o:Obj}{ws:Vw}(i:Nat)(x:Value),hh.get? e=some o->o.data = .fields ws->(hh.update e (Obj.mapFields (·.setIfInBounds i x))).get? e=some (Obj.mapFields (·.setIfInBounds i x) o)/\(Obj.mapFields (·.setIfInBounds i x) o).data = .fields (ws.setIfInBounds i x)/\(Obj.mapFields (·.setIfInBounds i x) o).cls=o.cls/\(Obj.mapFields (·.setIfInBounds i x) o).dict=o.dict:=
  λ{hh o ws} i x h1 h2=>⟨V1 _ h1 (WG (ds _ h2)),ds _ h2,Obj.cls_mapFields _ _,by obtain⟨c,dd,da,sl⟩:=o;cases h2;rfl⟩
 have ot:∀{hh:Heap}{b:Addr}(f:Obj->Obj),b≠e->(hh.update e f).get? b=hh.get? b:=λf hb=>Vc _ _ (VI hb)
 obtain⟨u1,u2,u3,u4⟩:=up 3 .none he hd
 refine wpAny_load u1 ?_
 rw[u2]
 dsimp only
 rw[if_pos (by simpa using hsz)]
 refine wpAny_update u1 ?_
 obtain⟨v1,v2,v3,v4⟩:=up 4 (.bool true) u1 u2
 have Sy:=((ot (hh:=hp.update e (Obj.mapFields (·.setIfInBounds 3 Value.none))) (Obj.mapFields (·.setIfInBounds 4 (Value.bool true))) Sx).trans (ot (hh:=hp) (Obj.mapFields (·.setIfInBounds 3 Value.none)) Sx)).trans hC
 have ho2:=((ot (hh:=hp.update e (Obj.mapFields (·.setIfInBounds 3 Value.none))) (Obj.mapFields (·.setIfInBounds 4 (Value.bool true))) hne).trans (ot (hh:=hp) (Obj.mapFields (·.setIfInBounds 3 Value.none)) hne)).trans ho
 have Rv:=(v3.trans u3).trans hcl
 have k1:((vs.setIfInBounds 3 Value.none).setIfInBounds 4 (Value.bool true))[1]?=some .none:=by simp[h1]
 repeat (first|(with_reducible refine Wl v1 ?_;rw[Rv])|with_reducible refine Wl Sy ?_|(with_reducible refine Yt Sy ?_;first|rw[QO]|rw[QP])|with_reducible refine Vt v1 v2 k1 ?_|wp_step)
 refine pM hh v1 v2 (by simp;omega) hne ho2 Ru h2 ?_
 obtain⟨w1,w2,w3,w4⟩:=up 2 (.ref h) v1 v2
 refine hE _ _ _ w1 (w3.trans (v3.trans u3)) (w4.trans (v4.trans u4)) w2 (by simp[h1]) (λb o hb hb'=>?_) ?_
 .exact((ot _ hb).trans ((ot _ hb).trans (ot _ hb))).trans hb'
 .simp[Heap.size_after_update]
end
end Xc
namespace L2
open PySem PySem.Spec PyProof.Rows Xc
noncomputable abbrev Cx.inR(X:Cx)(a:Addr)(oa:Obj):Cx:={ X with A:=X.A.mark (some (.ref a)),calm:=false,fr:=false,pn:=X.pn++[(a,oa)] }
section
variable {X:Cx}{pins pins':Va}{σ:St}{H H':Hp}{s s':Shared}{a:Addr}{oa:Obj}
theorem Cx.Ok.inR(ok:X.Ok):(X.inR a oa).Ok:=⟨ok.mod,ok.kind,ok.glob,ok.blt,ok.above,ok.inj,ok.has,ok.Nm,λz=>absurd (show false=true from z) (by decide),ok.frames,ok.stk,ok.NZ,ok.bs,ok.MH,ok.LF,ok.LL,ok.KB,ok.M6⟩
def Cx.Ok.L4(hc:X.calm=true->X.A.handled=none)(ok:(X.inR a oa).Ok):X.Ok:=⟨ok.mod,ok.kind,ok.glob,ok.blt,ok.above,ok.inj,ok.has,ok.Nm,hc,ok.frames,ok.stk,ok.NZ,ok.bs,ok.MH,ok.LF,ok.LL,ok.KB,ok.M6⟩
theorem Inv.inR(I:Inv X pins σ H s)(f:JV X pins H a)(ha:s.heap.get? a=some oa)(hd:∀v,oa.data ≠ .cell v):Inv (X.inR a oa) pins σ H s:=
 ⟨I.ok.inR,I.os,I.bare,I.base,I.loc,I.cell,I.free,I.J6,λp hp=>by
  have hp:p∈(X.pn++[(a,oa)])++pins:=hp
  rw[U8]at hp
  rcases UT.mp hp with z|z
  .exact I.pin p (VA _ z)
  .rcases UT.mp z with z|z
   .rw[UM.mp z];exact⟨ha,f.1,f.2.1,f.2.2.1,hd⟩
   .exact I.pin p (Vh _ z),I.hok,I.len,I.tk⟩
theorem Inv.L4(hc:X.calm=true->X.A.handled=none)(I:Inv (X.inR a oa) pins σ H s):Inv X pins σ H s:=
 ⟨I.ok.L4 hc,I.os,I.bare,I.base,I.loc,I.cell,I.free,I.J6,λp hp=>I.pin p (by
  show p∈(X.pn++[(a,oa)])++pins
  rw[U8]
  rcases UT.mp hp with z|z
  .exact VA _ z
  .exact Vh _ (Vh _ z)),I.hok,I.len,I.tk⟩
end
section
variable {X:Cx}{f C a:Addr}{oa:Obj}{hs:Vw}{fd:FuncData}{ps ks:Vs}{x:Str}{p cpos pos p2:Pos}{e:Expr}{es:List Expr}{t:TA}{j:Nat}
def uI(F:BF X.prog X.w X.K X.mg X.base oP 1 f fd ps (gU X.K C ks))(hps:ps.length=ks.length+1)(hks:ks.length<=1000)(ek:ExcK X.K C)(en:∀k∈ks,NoAttr X.K C k)(hi:PySem.W.findIn X.K (.ref C) "__init__" = some (some (.ref f)))(hf:PySem.W.isFn X.K (.ref f)=true)(hkp:PySem.W.keepIn X.K (.ref C)=true)
  (hr:vx 2 (X.inR a oa).A) (hg:Gl X x) (hm:X.mg x=some (.ref C)) (hb:Binds X.K fd ps []) (hod:oa.data = .fields hs) (h2:hs[2]?=some .none)
  (ha:PA (X.inR a oa) (e::es) t)
  (hdb:(x == ("__debug__":Str))=false:=by decide) (he:starEach (e::es) X.env=(false,eval e X.env)::starEach es X.env:=by rfl) (hpl:(backTo cpos (starEach es X.env)).any (·.1)=false:=by rfl) :
  PS (X.inR a oa) (.Raise (some (.Call (.Name x p) (e::es) [] cpos)) (some (.Constant .none j p2)) pos) (wf (X.inR a oa) C ks t):=by
 intro pins s σ H D I h
 rw[arm_exec_Raise]
 refine UD (WQ ?_)
 show wpAny _ _ (raiseStmt X.env (some (do let v <-eval (.Call (.Name x p) (e::es) [] cpos) X.env;standAt pos;pure v)) (some (do let v <-eval (.Constant .none j p2) X.env;standAt pos;pure v))) _ _ _
 refine qY (K:=X.K) (C:=C) (h:=a) ek.ok rfl (λq=>UD (Constant_none (UD (WQ (UL q))))) (pk (X:=X.inR a oa) F hps hks ek en hi hf hkp hr hg hm hb ha hdb he hpl I h λb oe ws vs H1 dx od s' q d1 g1 g2 g3 g4 g5 g6 g7 I5 fe=>?_)
 have pm:(a,oa)∈(X.inR a oa).pn++pins:=VA _ (Vh _ (by simp))
 refine⟨b,oe,ws,oa,hs,rfl,I5.L_,g1,g2,g4,g5,g7,fe.2.2.2.2.2 _ pm,(I5.pin _ pm).1,hod,h2,λh' Ml vs' m1 m2 m3 m4 m5 m6 m7=>?_⟩
 have I6:Inv (X.inR a oa) pins σ (upd H1 dx (.frz od (.ext (XD dx (ks.zip vs))))) { s' with heap:=h' }:=Inv.turned (s:=s') I5 (t':=s'.toks) (it:=b) (λb o hb e=>m6 b o hb e) fe.1 fe.2.1 fe.2.2.2.1 fe.2.2.2.2.1 fe.2.2.2.2.2
 exact q pins dx od d1 _ _ C dx rfl rfl I6 ⟨Ml,vs',⟨m1,m4,.inl m5⟩,m2.trans g2,m3.trans g3,fe,λT z=>(by rw[m5]at z;cases z),λz=>(by cases z)⟩
end
section
variable {X:Cx}{pins pins':Va}{σ:St}{H:Hp}{s':Shared}{E:Vq}{a C dx Dc:Addr}{x:Str}{np hpos:Pos}{b₀:Stmt}{suite:List Stmt}{th:Addr->Obj->TS}{D:ik}
def JV.L4{oa:Obj}{b:Addr}(f:JV (X.inR a oa) pins H b):JV X pins H b:=⟨f.1,f.2.1,f.2.2.1,f.2.2.2.1,f.2.2.2.2.1,λp hp=>f.2.2.2.2.2 p (by
 show p∈(X.pn++[(a,oa)])++pins
 rw[U8]
 rcases UT.mp hp with z|z
 .exact VA _ z
 .exact Vh _ (Vh _ z))⟩
theorem N8.L4{oa:Obj}{h:Heap}{b:Addr}(hf:X.fr=false)(x:N8 (X.inR a oa) pins H h b C dx):N8 X pins H h b C dx:=by
 obtain⟨oe,vs,lx,hc,hd,fa,fT,fx⟩:=x
 exact⟨oe,vs,lx,hc,hd,fa.L4,λT z=>(fT T z).L4,λz=>by rw[hf]at z;cases z⟩
def DS(hst:X.stack=X.env::X.outer)(LN:X.env.frame=some X.env.locals)(hg:Gl X x)(hm:X.mg x=some (.ref Dc))(hD:Ac X.K Dc)
  (hs:∀a oa hs,oa.data = .fields hs->hs[2]?=some .none->Mk (X.inR a oa) (b₀::suite) (th a oa)) (I:Inv (X.tr E pins true) pins' σ H s') (xa:N8 (X.tr E pins true) pins' H s'.heap a C dx) (hb:PySem.W.mroIn X.K C (.ref Dc)=some true)
  (q:∀oa,th a oa D σ H) (hp:∀hd,PassesOwnAt (model X.prog X.w) (X.A.mark hd) X.A X.env X.xe) (hdb:(x == ("__debug__":Str))=false:=by decide) :
  wpAny (model X.prog X.w) X.A (noteFrame (.ref a) X.env) (λ_ s₂=>wpAny (model X.prog X.w) X.A (setFlight (.ref a) none) (λ_ s₃=>wpAny (model X.prog X.w) X.A (handleBy (.ref a) X.env [.ExceptHandler (some (.Name x np)) none (b₀::suite) hpos]) (SP X pins D) X.xe s₃) X.xe s₂) X.xe s':=by
 have I0:Inv X pins σ H s':=I.Lw
 obtain⟨oe,vs,lx,hc,hd,fa,fT,fx⟩:=xa
 have hfr:X.A.frames=some (X.env::X.outer):=by rw[<-hst];exact I0.ok.frames
 refine nj (base:=X.base) hfr (by rw[<-hst];exact I0.stack) LN lx λh' nt=>?_
 obtain⟨Rm,Ot,LK,Ms,hc2,hd2,PD,PH,QQ⟩:=(I0.Qb (tb:=true)).noted (h':=h') (by show jE X.stack _ _ _ _ _;rw[hst];exact nt) lx hc hd fa.Lw (λT z=>(fT T z).Lw) fx
 have I2:=Rm.OS
 refine PySem.wpAny_handleBy_cons (codeAny_handlers_test ?_) (by intro q;cases q)
 have IH:=I2.Mf (a:=a)
 refine d_ (X:=X.Mf a) IH hg hm ?_ hdb
 refine jF IH.L_ Ms.at_ hc2 hb hD.ty hD.cl hD.be ?_
 refine codeAny_handlers_suite ?_
 have flight:∀{Q:Unit->Shared->Prop} {E:Vq},(∀h3,Inv (X.Mf a) pins σ H { s' with heap:=h3 }->h3.get? a=some Ot->Q () { s' with heap:=h3 })->wpAny (model X.prog X.w) (X.Mf a).A (setFlight (.ref a) none) Q E { s' with heap:=h' }:=by
  intro Q E hQ
  rcases Ms.tb with t1|⟨T,oT,ts,t1,t2,t3,t4,t5⟩
  .unfold setFlight
   refine UD (Vt Ms.at_ Ms.dat t1 ?_)
   rw[if_neg (by decide)]
   exact UL (hQ _ IH Ms.at_)
  .have N_:=PH T t1
   refine Yl Ms.at_ Ms.dat t1 t3 t4 t5 (hQ _ ?_ ((Vc _ _ t2).trans Ms.at_))
   exact Inv.turned (s:={ s' with heap:=h' }) IH (t':=s'.toks) (it:=T) (λb o hb e=>(Vc _ _ (VI hb)).trans e) N_.1 N_.2.1 N_.2.2.2.1 N_.2.2.2.2.1 N_.2.2.2.2.2
 refine flight λh3 I3 ga=>?_
 have IX:Inv X pins σ H { s' with heap:=h3 }:=I3.OF I0.ok.hd
 have IR:=IX.inR (a:=a) (oa:=Ot) PD ga (λv z=>by rw[Ms.dat]at z;cases z)
 refine V8 (hs a Ot LK Ms.dat (QQ rfl) pins _ _ _ D IR (q Ot)) (λf s6 hf=>?_) λ_ _ z=>hp _ _ _ z
 cases f with
 |next=>obtain⟨σ6,H6,I6,q6⟩:=hf;exact⟨_,_,I6.L4 I0.ok.hd,q6⟩
 |brk=>obtain⟨σ6,H6,I6,q6⟩:=hf;exact⟨_,_,I6.L4 I0.ok.hd,q6⟩
 |cont=>obtain⟨σ6,H6,I6,q6⟩:=hf;exact⟨_,_,I6.L4 I0.ok.hd,q6⟩
 |ret u=>obtain⟨v6,σ6,H6,I6,r6,q6⟩:=hf;exact⟨_,_,_,I6.L4 I0.ok.hd,r6,q6⟩
end
end L2
namespace L3
open PySem L2 Xc
def qZ(cs:Vs)(tb th:bB):bB:=λD σ S=>tb { D with ex:=λp σ' S'=>match p with | .exc c _ _=>cs.contains c=true/\th D σ' S'|_=>False } σ S
section
variable {X:Cx}{body suite:List Stmt}{b₀:Stmt}{x:Str}{np hpos pos:Pos}{tb th:bB}{cs:Vs}
def Gk(T:Gf X.K X.mg x cs)(hb:∀E pins,PassesOwn (model X.prog X.w) X.A X.env E->eB (X.tr E pins true) body tb)(hs:∀a oa hs,oa.data = .fields hs->hs[2]?=some .none->eB (X.inR a oa) (b₀::suite) th)(hp:∀hd,PassesOwnAt (model X.prog X.w) (X.A.mark hd) X.A X.env X.xe)(hf:X.fr=false:=by rfl)
  (hst:X.stack=X.env::X.outer:=by rfl) (LN:X.env.frame=some X.env.locals:=by rfl) (hg:Gl X x:=by rfl) (hdb:(x == ("__debug__":Str))=false:=by decide) :
  ml X (.Try body [.ExceptHandler (some (.Name x np)) none (b₀::suite) hpos] [] [] pos) (qZ cs tb th):=by
 obtain⟨Dc,hm,hD,hcs⟩:=T.ex
 exact⟨b7 (wk (fb:=true) (tb:=λE pins=>LS (X.tr E pins true) tb) λE pins hp=>(hb E pins hp).ok) λD σ H ⟨σ3,S,D3,rσ,rS,h,xo,nx,rt,bk,ct⟩ pins=>
  ⟨σ3,S,_,rσ,rS,h,λc ks ps Rt S' H' pins' σ' s' a C dx od vs h1 h2 h3 h4 h5 h6 h7 h8 I xa=>by
   have hd:=I.Lw.ok.hd
   refine DS (th:=λa oa=>LS (X.inR a oa) th) hst LN hg hm hD (λa oa vs z1 z2=>(hs a oa vs z1 z2).ok) I xa (hcs.at_ h1.1 h2) (λoa=>?_) hp hdb
   refine⟨Rt,S',D3,h7,h6,h1.2,?_,nx.mono h8,rt.mono h8,bk.mono h8,ct.mono h8⟩
   intro c2 TQ ps2 TR S2 H2 Qh σ2 s2 a2 C2 TU TV LK m1 m2 m3 m4 m5 m6 m7 m8 I2 TW
   exact xo c2 TQ ps2 TR S2 H2 Qh σ2 s2 a2 C2 TU TV LK m1 m2 m3 m4 m5 m6 m7 (h8.trans m8) (I2.L4 hd) (TW.L4 hf),nx,rt,bk,ct⟩⟩
end
structure DT(P:Program)(w:World)(K:Vo)(mg:Vr)(base:Heap)(x:Str)(ks:Vs):Prop where
 ex:∃qual st ps C f fd,As K mg x qual st ps ks C f fd/\BF P w K mg base oP 1 f fd ps (gU K C ks)/\ps.length=ks.length+1
def Im{P:Program}{w:World}{K:Vo}{mg:Vr}{base:Heap}{x q k1:Str}{st:Stmt}{ps:Vs}(N:Vs)(h:Hc K mg x q st ps [k1])(hp:ps.length=2)
  (hb:∀(f:Addr)(cdv:Value)(A:Around)(outer:List Env)(s:Shared)(H:Hp)(E:XK),Mk (FF oP P w K mg base N q (aC st) f cdv A outer s H E).OR (bj st) (Ab K (oV 0) (oV 1) k1))
  (S:b5 N ps (aC st):=by walk_at "8"):DT P w K mg base x [k1]:=by
 obtain⟨C,f,fd,T⟩:=h.ex
 exact⟨q,st,ps,C,f,fd,T,BL T.F S hp (hb f),hp⟩
section
variable {X:Cx}{a:Addr}{oa:Obj}{hs:Vw}{e:Expr}{es:List Expr}{ts:List aO}{x:Str}{p pos cpos p2:Pos}{ks:Vs}{j i:Nat}
def Io(T:DT X.prog X.w X.K X.mg X.base x ks)(hod:oa.data = .fields hs)(h2:hs[2]?=some .none)(hr:gB j X.A)(ha:jG (X.inR a oa) (e::es) ts)(hj:2<=j:=by omega)(hg:Gl X x:=by rfl)(he:starEach (e::es) X.env=(false,eval e X.env)::starEach es X.env:=by rfl)
  (hl:ts.length=ks.length:=by rfl) (hks:ks.length<=1000:=by exact V3 rfl) (hdb:(x == ("__debug__":Str))=false:=by decide) (hpl:(backTo cpos (starEach es X.env)).any (·.1)=false:=by rfl) :
  ml (X.inR a oa) (.Raise (some (.Call (.Name x p) (e::es) [] cpos)) (some (.Constant .none i p2)) pos) (bd x ks ts):=by
 obtain⟨qual,st,ps,C,f,fd,T,F,hp⟩:=T.ex
 have hr2:vx 2 (X.inR a oa).A:=RoomG.mono ⟨λz=>(by cases z),hr.dp,hr.un,hr.gd⟩ hj
 exact⟨b7 (uI F hp hks T.ek T.en T.hi T.hf T.kp hr2 hg T.m T.b hod h2 ha.ok hdb he hpl) λD σ H ⟨σ3,S,D3,rσ,rS,h,xo,n,r,bk,ct⟩=>bQ rσ rS h xo λps' S' vs H' hl' q rv KE g=>
  ⟨by rw[rv.length,hl',hl],λpins dx od hdx s' a' C' Rs e3 e4 I xa=>by
   cases e3;cases e4
   exact xo x ks ps' σ3 S' _ pins σ s' a' C dx od vs q T.cn (by rw[rv.length,hl',hl]) au (rv.mono (.new hdx)) (KE.other hdx) (rσ.mono (g.trans (.new hdx))) (g.trans (.new hdx)) I xa⟩⟩
end
section
variable {P:Program}{w:World}{K:Vo}{mg:Vr}{base:Heap}{N:Vs}{qual:Str}{st:Stmt}{f:Addr}{cdv:Value}{A:Around}{outer:List Env}{s:Shared}{H:Hp}{E:XK}
def Ip(hd:Option Value):PassesOwnAt (model (uz P w K mg base N qual st f cdv A outer s H E).prog (uz P w K mg base N qual st f cdv A outer s H E).w) ((uz P w K mg base N qual st f cdv A outer s H E).A.mark hd) (uz P w K mg base N qual st f cdv A outer s H E).A (uz P w K mg base N qual st f cdv A outer s H E).env (uz P w K mg base N qual st f cdv A outer s H E).xe:=PassesOwnAt.leaving
end
section
variable {X:Cx}{body suite:List Stmt}{b₀:Stmt}{n x:Str}{i:Nat}{np hpos pos:Pos}{tb th:bB}{Dc:Addr}{cs:Vs}
def Iq(i:Nat)(T:Gf X.K X.mg x cs)(hN:X.N.Nodup)(hb:∀E pins,PassesOwn (model X.prog X.w) X.A X.env E->eB (X.tr E pins false) body tb)(hs:∀a,eB (X.Mf a) (b₀::suite) th)
  (hst:X.stack=X.env::X.outer:=by rfl) (LN:X.env.frame=some X.env.locals:=by rfl) (hi:X.N[i]?=some n:=by rfl) (hk:X.env.scope.names.lookup n=some .local:=by rfl) (hg:Gl X x:=by rfl) (hdb:(x == ("__debug__":Str))=false:=by decide) :
  ml X (.Try body [.ExceptHandler (some (.Name x np)) (some n) (b₀::suite) hpos] [] [] pos) (Au cs i tb th):=by
 obtain⟨D,h1,h2,h3⟩:=T.ex
 exact Gc hst LN hN hi hk hg h1 h2 h3 hb hs hdb
end
end L3
namespace L2
open PySem PySem.Spec PyProof.Rows Xc
noncomputable def FK(X:Cx)(N:Vs)(scope:Scope)(fs:Vs)(KX:XK)(B:Bk):Value->Shared->Prop:=λe s'=>∃pl σ' H' a C dx,e = .ref a/\Inv (X.Ku N scope fs B) pl σ' H' s'/\N8 (X.Ku N scope fs B) pl H' s'.heap a C dx/\KX (.ref C) (some dx) H'
section
variable {X:Cx}{pins:Va}{σ:St}{H:Hp}{s:Shared}
variable {elt iter tg:Expr}{ifs:List Expr}{scope:Scope}{pos:Pos}{N:Vs}{own:Nat}{fr:List Nat}{fs:Vs}{g:TG}{tc:TT}
def xx(X:Cx)(wi:TI)(g:TG)(tc:TT)(te:XK->Bk->TE)(own:Nat)(fr:List Nat):TE:=λσ H Q=>wi σ H λJ H1=>
 ∃KX:XK,(∀pins c d H',KX c d H'->EX X pins σ c d H')/\∀B,sr J g tc (te KX B) own (di own fr σ) (λys H2=>∀D,H2 D=none->Q (.ref D) (upd H2 D (.lst ys))) H1
def xy(fs:Vs)(own:Nat)(fr:List Nat)(N:Vs){wi:TI}{te:XK->Bk->TE}(hst:X.stack=X.env::X.outer)(LN:X.env.frame=some X.env.locals)(hc:X.calm=true)(hclos:closureFor scope X.env=pure (bF X.env fs))(hcell:∀y∈scope.names,y.2 ≠ .cell)(hkind:scope.kind = .function)
  (hnames:∀x∈scope.names,x.2 = .local->scope.names.lookup x.1=some .local) (hcl:bJ X.env fs) (hhas:hasB (relabel scope X.env).names (bF X.env fs)=true)
  (hlen:N.length=own+fr.length) (hN:(N.drop own).map some=fr.map λj=>X.N[j]?) (hF:J3 X.env scope (bF X.env fs) (N.drop own))
  (hi:PI X tg iter wi) (hg:∀B,PG (X.Ku N scope fs B) tg g) (hf:∀B,PF (X.Ku N scope fs B) ifs tc) (he:∀KX B,PE ((X.Ku N scope fs B).wish (FK X N scope fs KX B)) elt (te KX B))
  (hs:∀x,foldedSetIterable iter X.env x=pure x:=by intro _;rfl):PE X (.ListComp elt [⟨tg,iter,ifs,0⟩] scope pos) (xx X wi g tc te own fr):=by
 walk_at "7"
 rw[eval_ListComp]
 refine Xw (use:=none) (g:=⟨tg,iter,ifs,0⟩) (gs:=[]) rfl hs hclos hkind hnames (JN (hi pins s σ H _ I h) λv s1 h1=>JN h1 λitv s2 h2=>?_)
 obtain⟨it,fp,tn,J,H2,e,I2,T,st2,f2,KX,TX,W⟩:=h2
 subst e
 refine jD (Fe:=FK X N scope fs KX) (te:=te KX) (RR:=λacc C=>compPost (model X.prog X.w) X.A X.xe none (EP X pins σ Q) acc C) hc hcell hkind hcl hhas hlen hN hF hg hf (he KX) I2 T st2 f2 W ?_ ?_
 .intro D C s' ys H' m' I' nD hn fC fin
  exact⟨m',hn,λh' hs'=>⟨.ref D,_,I'.turned (t':=s'.toks) (λb o hb e=>(hs'.2 b hb).trans e) fC.1 fC.2.1 fC.2.2.2.1 fC.2.2.2.2.1 fC.2.2.2.2.2,rfl,fin D nD⟩⟩
 .rintro D C e s' hC hpC ⟨pl,σ',H',a,Cc,dx,rfl,Ib,xa,kx⟩
  have IX:Inv X pins σ H' s':=I2.N1 Ib.os Ib.base Ib.hok Ib.bare Ib.tk λb hb=>by
   obtain⟨f0,f1,f2,f3,f4,f5⟩:=f2 b hb
   exact⟨f3,f1,f4,f5⟩
  have Pl:∀b,JV (X.Ku N scope fs ⟨C,s2,H2,fp,X.pn++pins⟩) pl H' b->JV X pins H' b/\b≠C:=λb q=>by
   obtain⟨q0,q1,q2,q3,q4,q5⟩:=q
   refine⟨?_,q1⟩
   rcases q3 with z|z
   .obtain⟨f0,f1,TY,f3,f4,f5⟩:=f2 b z
    exact⟨q0,f1,TY,f3,f4,f5⟩
   .exact I2.Lb z q0
  have fC:JV X pins H' C:=I2.Lb hC Ib.free
  obtain⟨m',hn',_⟩:=Ib.loc
  obtain⟨oe,vs,lx,hcl',hd',fa,fT,fx⟩:=xa
  have hfr:X.A.frames=some (X.env::X.outer):=by rw[<-hst];exact IX.ok.frames
  show wpAny (model X.prog X.w) X.A (noteFrame (.ref a) X.env) _ _ s'
  refine pg (base:=X.base) hfr (by rw[<-hst];exact IX.stack) LN lx λh1 nt=>?_
  have Rw:jE X.stack a oe (d3 vs) s'.heap h1:=by rw[hst];exact nt
  obtain⟨I3,-⟩:=IX.noted (h':=h1) Rw lx hcl' hd' (Pl a fa).1 (λT z=>(Pl T (fT T z)).1) fx
  obtain⟨Ml,vs',T',oT,ts,a1,a2,a3,a4,a5,a6,a7,a8,a9,Pi,Qa⟩:=Rw.lies
  have Pm:JV X pins H' T'/\T'≠C:=by
   rcases a6 with a6|a6
   .exact⟨IX.Lb a6 (IX.hok.fresh a6),WA (UU (show C < s'.heap.objs.size from hn'.lt) a6)⟩
   .exact Pl T' (fT T' a6)
  have nC:∀o,s'.heap.get? C=some o->h1.get? C=some o:=λo q=>Rw.keep C o (VI (Pl a fa).2) (λz=>(Pl C (fT C z)).2 rfl) (λz=>by
   rcases UI.mp (IX.Lz C z)with z|z
   .exact fC.2.1 z
   .exact fC.2.2.1 z) q
  refine⟨m',hn'.at nC,λh2 hs2 cenv _=>?_⟩
  have I4:Inv X pins σ H' { s' with heap:=h2 }:=I3.turned (t':=s'.toks) (λb o hb e=>(hs2.2 b hb).trans e) fC.1 fC.2.1 fC.2.2.2.1 fC.2.2.2.2.1 fC.2.2.2.2.2
  have b1:h2.get? a=some Ml:=(hs2.2 a (Pl a fa).2).trans a1
  have b8:h2.get? T'=some oT:=(hs2.2 T' Pm.2).trans a8
  unfold PySem.passOn
  refine UD (Vt b1 a4 a5 ?_)
  rw[if_neg (show ¬((Value.ref T' == Value.none)=true)from by simp)]
  unfold setFlight
  refine UD (UD (Vt b1 a4 a5 ?_))
  rw[if_pos (show(Value.ref T' != Value.none)=true from by simp)]
  refine Xg b8 a9 Pi (wpAny_throw ?_)
  have I5:Inv X pins σ H' { s' with heap:=h2.update T' (Obj.mapFields (·.setIfInBounds 3 (cenv.frame.elim Value.none λf=>rawInt f))) }:=Inv.turned (s:={ s' with heap:=h2 }) I4 (t':=s'.toks) (it:=T') (λb o hb e=>(Vc _ _ (VI hb)).trans e) Pm.1.1 Pm.1.2.1 Pm.1.2.2.2.1 Pm.1.2.2.2.2.1 Pm.1.2.2.2.2.2
  refine TX pins _ _ _ kx _ a Cc dx rfl rfl I5 ⟨Ml,vs',⟨(Vc _ _ a7).trans b1,a4,.inr ⟨T',_,_,a5,a7,V1 _ b8 (WG (Wh a9 _)),Wh a9 _,by simpa using Pi⟩⟩,a2.trans hcl',a3.trans hd',(Pl a fa).1,λT z=>?_,λz=>(Qa _ lx.dat).trans (fx z)⟩
  rw[a5]at z
  cases z
  exact Pm.1
end
end L2
namespace L3
open PySem L2 Xc
section
variable {X:Cx}{elt iter tg c:Expr}{ifs:List Expr}{scope:Scope}{pos:Pos}{ti:sy}{g:Tg}{tc:iw}{te:aO}{fs N:Vs}{own:Nat}{fr:List Nat}
noncomputable def jf(g:Tg)(tc:iw)(te:aO)(σ':bZ)(keep:aq->Prop)(fin:List PV->aq->Prop)(E:PV->aq->Prop):List PV->List PV->aq->Prop
 |[],ys,S=>keep S/\ys.length<=sizeLine/\fin ys S
 |x::r,ys,S=>keep S/\ys.length<=sizeLine/\match g.put x σ' with
  |some σ2=>tc σ2 S (λb S3=>if b=true then te σ2 S3 (λy S4=>jf g tc te σ' keep fin E r (ys++[y]) S4) (λp _ S'=>E p S') else jf g tc te σ' keep fin E r ys S3) fu
  |none=>False
def nL(ti:sy)(g:Tg)(tc:iw)(te:aO)(own:Nat)(fr:List Nat):aO:=λσ S Q E=>ti σ S (λsrc S1=>jf g tc te (jb own fr σ) src.keep (λys S2=>∀p,S2 p=none->Q (.ref p) (JH S2 p (.lst ys))) (λp S'=>E p σ S') src.items [] S1) E
def q_{σ:L2.St}{H:Hp}{Q:VK}(Nc:g.under own=true):LE X (nL ti g tc te own fr) σ H Q->xx X (LI X ti) (g.g2 X.K) (λσ H Q=>∃σ3 S Q3,JR X.K H σ σ3/\JM X.K H S/\tc σ3 S Q3 fu/\∀b S' H',Q3 b S'->JM X.K H' S'->Grow X.K H H'->Q b H')
  (λKX B=>LE ((X.Ku N scope fs B).wish (FK X N scope fs KX B)) te) own fr σ H Q:=λ⟨σ3,S,Q3,E3,rσ,rS,h,xo,k⟩=>by
 refine⟨σ3,S,_,E3,rσ,rS,h,xo,λsrc S1 J H1 h1 sim JT g1=>?_⟩
 refine⟨λc d H2=>∃(cn:Str)(ks:Vs)(ps2:List PV)(S2:aq)(C dx:Addr)(od:Obj)(LK:List V),c = .ref C/\d=some dx/\E3 (.exc cn ks ps2) σ3 S2/\Kl X.K cn C/\LK.length=ks.length/\H2 dx=some (.frz od (.ext (XD dx (ks.zip LK))))/\Reps X.K H2 LK ps2/\JM X.K H2 S2/\Grow X.K H H2,
  λpins c d H2 ⟨cn,ks,ps2,S2,C,dx,od,LK,e1,e2,h1,h2,h3,h4,h5,h6,h7⟩ s' a C' Rs e3 e4 I xa=>by
   subst e1 e2;cases e3;cases e4
   exact xo cn ks ps2 σ3 S2 H2 pins σ s' a _ _ od LK h1 h2 h3 h4 h5 h6 (rσ.mono h7) h7 I xa,λB=>?_⟩
 refine⟨λi m ys H'=>i+m=src.items.length/\∃zs S',Reps X.K H' ys zs/\JM X.K H' S'/\Grow X.K H1 H'/\jf g tc te (jb own fr σ3) src.keep (λys S2=>∀p,S2 p=none->Q3 (.ref p) (JH S2 p (.lst ys))) (λp S'=>E3 p σ3 S') (src.items.drop i) zs S',⟨src.items.length,Xn _,[],S1,.nil,JT,.refl,by simpa using h1⟩,?_⟩
 rintro i m ys H' ⟨hm,zs,S',rz,KE,g',hw⟩
 cases hd:src.items.drop i with
 |nil=>
  rw[hd]at hw
  have hi:i=src.items.length:=by
   have:=U4 List.length hd
   rw[Wt,Wr]at this
   omega
  refine .inl ⟨(sim i S' H' g' KE hw.1).2 hi,by rw[rz.length];exact hw.2.1,λD hD=>?_⟩
  exact k _ _ _ _ (hw.2.2 D (KE.free hD)) (.ref D) (KE.new hD ⟨_,au,rz.mono (.new hD)⟩) (g1.trans (g'.trans (.new hD)))
 |cons x rest=>
  rw[hd]at hw
  have hx:src.items[i]?=some x:=by
   have:=U4 (λl=>l[0]?) hd
   simpa using this
  have hrest:src.items.drop (i+1)=rest:=by
   have:=U4 List.tail hd
   simpa [Ww]using this
  have hlt:i < src.items.length:=by
   by_cases z:i < src.items.length
   .exact z
   .rw[VR (by omega)]at hx;cases hx
  obtain⟨go,yl⟩:=(sim i S' H' g' KE hw.1).1 x hx
  refine .inr ⟨go,by rw[rz.length];exact hw.2.1,λys' H5=>∃zs' S6,Reps X.K H5 ys' zs'/\JM X.K H5 S6/\Grow X.K H1 H5/\jf g tc te (jb own fr σ3) src.keep (λys S2=>∀p,S2 p=none->Q3 (.ref p) (JH S2 p (.lst ys))) (λp S'=>E3 p σ3 S') rest zs' S6,?_,λv H5 hv=>?_⟩
  .rintro ys' H5 ⟨zs',S6,q1,q2,q3,q4⟩
   exact⟨m - 1,by omega,by omega,zs',S6,q1,q2,q3,by rw[hrest];exact q4⟩
  .obtain⟨rv,Pj,g5⟩:=yl v H5 hv
   obtain⟨_,_,hw⟩:=hw
   split at hw
   .rename_i σ6 e6
    refine Tg.Mz (own:=own) g rv ((sA rσ own fr).mono (g1.trans (g'.trans g5))) e6 λσ7 Pk d7=>⟨d7 Nc,?_⟩
    refine⟨σ6,S',_,Pk,Pj,hw,λb S8 H8 h8 Qf g8=>?_⟩
    cases b with
    |true=>
     rw[if_pos rfl]at h8 ⊢
     refine⟨σ6,S8,_,_,Pk.mono g8,Qf,h8,λc ks ps σ4 S4 H4 Qi σ5 s4 a C dx od vs m1 m2 m3 m4 m5 m6 m7 m8 I4 TZ=>⟨Qi,σ5,H4,a,C,dx,rfl,I4.KC,TZ,c,ks,ps,S4,C,dx,od,vs,rfl,rfl,m1,m2,m3,m4,m5,m6,g1.trans (g'.trans (g5.trans (g8.trans m8)))⟩,λy S9 y' H9 h9 ry Rr g9=>⟨zs++[y],S9,(rz.mono (g5.trans (g8.trans g9))).append (.cons ry .nil),Rr,g'.trans (g5.trans (g8.trans g9)),h9⟩⟩
    |false=>
     rw[if_neg (by decide)]at h8 ⊢
     exact⟨zs,S8,rz.mono (g5.trans g8),Qf,g'.trans (g5.trans g8),h8⟩
   .exact hw.elim
def Ir(fs:Vs)(own:Nat)(fr:List Nat)(N:Vs)(hi:wK X tg iter ti)(hg:∀B,zi (X.Ku N scope fs B) tg g)(hf:∀B,Dy (X.Ku N scope fs B) ifs tc)(he:∀KX B,aY ((X.Ku N scope fs B).wish (FK X N scope fs KX B)) elt te)
  (hst:X.stack=X.env::X.outer:=by rfl) (LN:X.env.frame=some X.env.locals:=by rfl)
  (Nc:g.under own=true:=by rfl) (hc:X.calm=true:=by rfl) (hclos:closureFor scope X.env=pure (bF X.env fs):=by rfl) (hcell:∀y∈scope.names,y.2 ≠ .cell:=by decide +kernel) (hkind:scope.kind = .function:=by rfl)
  (hnames:∀x∈scope.names,x.2 = .local->scope.names.lookup x.1=some .local:=by decide +kernel) (hcl:bJ X.env fs:=by walk_at "b") (hhas:hasB (relabel scope X.env).names (bF X.env fs)=true:=by rfl)
  (hlen:N.length=own+fr.length:=by rfl) (hN:(N.drop own).map some=fr.map (λj=>X.N[j]?):=by rfl) (hF:J3 X.env scope (bF X.env fs) (N.drop own):=by walk_at "a")
  (hs:∀x,foldedSetIterable iter X.env x=pure x:=by intro _;rfl):aY X (.ListComp elt [⟨tg,iter,ifs,0⟩] scope pos) (nL ti g tc te own fr):=
 ⟨aK (xy fs own fr N hst LN hc hclos hcell hkind hnames hcl hhas hlen hN hF hi.ok (λB=>(hg B).ok)
  (λB=>nz (hf B).ok λσ H Q ⟨σ3,S,Q3,rσ,rS,h,k⟩=>⟨σ3,S,Q3,fu,rσ,rS,h,.no,k⟩) (λKX B=>(he KX B).ok) hs) λ_ _ _=>q_ Nc⟩
end
end L3
namespace L3
open PySem L2
theorem pN:∀{a b:List Char},a.map Char.toNat=b.map Char.toNat->a=b
 |[],[],_=>rfl
 |[],_::_,h=>by simp at h
 |_::_,[],h=>by simp at h
 |x::a,y::b,h=>by
  simp only[UE,List.cons.injEq]at h
  rw[pN h.2,Char.toNat_inj.mp h.1]
def bD{a b:String}:(Str.ofString a=Str.ofString b)↔a=b:=by
 refine⟨λh=>?_,λh=>by rw[h]⟩
 rw[Str.ofString_eq_toList,Str.ofString_eq_toList]at h
 have h':a.toList.map Char.toNat=b.toList.map Char.toNat:=by
  have:=U4 (λs:Str=>s.cps.toList) h
  simpa using this
 exact String.toList_inj.mp (pN h')
def DU{i j:Int}(h1:-(2 ^ 64) < i)(h2:i < 2 ^ 64):IntMulOk i j:=(show Oz i j from .inl ⟨h1,h2⟩).ok
def AK{i j:Int}(h1:-(2 ^ 64) < j)(h2:j < 2 ^ 64):IntMulOk i j:=(show Oz i j from .inr ⟨h1,h2⟩).ok
def jN{i j:Int}(h:0<=j):i.fmod j=i % j:=Int.fmod_eq_emod_of_nonneg i h
def Gm{i j:Int}(h:0<=j):i.fdiv j=i / j:=Int.fdiv_eq_ediv_of_nonneg i h
def Iu{i j:Int}(h:0 < j)(h2:j < 2 ^ 64):pr i j:=⟨by omega,Xk (show j.natAbs < 2 ^ 64 by omega) (Ym (by decide) (by decide))⟩
def Oth(d l:Addr)(S S':aq):Prop:=∀a o,S a=some o->a≠d->a≠l->S' a=some o
def Oth.refl{d l:Addr}{S:aq}:Oth d l S S:=λ_ _ h _ _=>h
def Oth.trans{d l:Addr}{S S1 S2:aq}(a:Oth d l S S1)(b:Oth d l S1 S2):Oth d l S S2:=λx o h h1 h2=>b x o (a x o h h1 h2) h1 h2
def Oth.upd{d l:Addr}{S:aq}{o:SO}:Oth d l S (JH S d o):=λx u h h1 h2=>by rw[aj h1];exact h
def Oth.T0{d l:Addr}{S:aq}{o:SO}:Oth d l S (JH S l o):=λx u h h1 h2=>by rw[aj h2];exact h
def Oth.new{d l p:Addr}{S:aq}{o:SO}(h:S p=none):Oth d l S (JH S p o):=λx u hx h1 h2=>by rw[aj (λe=>by rw[e,h]at hx;cases hx)];exact hx
end L3
local macro_rules | `(tactic| walk_at "x")=>`(tactic| ((try dsimp only [L3.ae,L3.ap,L3.ax,L3.bh,L3.a_,L3.aJ,L3.am,L3.v3,L3.c3,L3.lk,L3.al,L3.af,L3.ak,L3.bL,L3.aH,L3.kJ,L3.fc,L3.eZ,L3.mn,L3.ut,L3.i_,L3.ux,L3.bG,L3.aS,L3.u5,L3.jZ,L3.az,L3.nq,L3.aA,L3.de,L3.cz,L3.cK,L3.e9,L3.gK,L3.dm,L3.gX,L3.kT,L3.uy,L3.my,L3.qo,L3.Gb,L3.bo,L3.pA,L3.aG,L3.j0,L3.aT,L3.uv,L3.kM,L3.iA,L3.bC,L3.gW,L3.cJ,List.set_cons_zero,List.set_cons_succ,List.set_nil,L3.gC,L3.cv,L3.qP,L3.bU,L3.bE,L3.eR,L3.cH,L3.jb,L3.Tg.put,L3.Tg.K6,L3.fw,L3.fv,L3.pF,L3.ja,L3.pD,L3.aI,List.reduceReplicate,List.map_cons,List.map_nil,List.cons_append,List.nil_append,L3.aR,L3.bd,L3.mz]); (try simp only [L3.ae,L3.ap,L3.ax,L3.bh,L3.a_,L3.aJ,L3.am,L3.v3,L3.c3,L3.lk,L3.al,L3.af,L3.ak,L3.bL,L3.aH,L3.kJ,L3.fc,L3.eZ,L3.mn,L3.ut,L3.i_,L3.ux,L3.bG,L3.aS,L3.u5,L3.jZ,L3.az,L3.nq,L3.aA,L3.de,L3.cz,L3.cK,L3.e9,L3.gK,L3.dm,L3.gX,L3.kT,L3.uy,L3.my,L3.qo,L3.Gb,L3.bo,L3.pA,L3.aG,L3.j0,L3.aT,L3.uv,L3.kM,L3.iA,L3.bC,L3.gW,L3.cJ,List.set_cons_zero,List.set_cons_succ,List.set_nil,L3.gC,L3.cv,L3.qP,L3.bU,L3.bE,L3.eR,L3.cH,L3.jb,L3.Tg.put,L3.Tg.K6,L3.fw,L3.fv,L3.pF,L3.ja,L3.pD,L3.aI,List.reduceReplicate,UE,Ve,List.cons_append,List.nil_append,L3.aR,L3.bd,L3.mz])))
namespace C
open PySem L2 L3
noncomputable def bS(seed number:Int)(l:Addr):List (bp×PV):=[(Sum.inr "seed",.int seed),(Sum.inr "number",.int number),(Sum.inr "left",.ref l)]
structure LP(S:aq)(d l:Addr)(seed number:Int)(left:Vu):Prop where
 d:S d=some (.dct (bS seed number l))
 l:S l=some (.lst (left.map PV.int))
 s0:0<=seed
 s1:seed < 2147483647
 nm:0<=number
 lf:∀x∈left,0<=x
 ln:left.length<=100
def Deal(S:aq)(d l:Addr):Prop:=∃seed number left,LP S d l seed number left
def LP.ne{S:aq}{d l:Addr}{seed number:Int}{left:Vu}(D:LP S d l seed number left):d≠l:=λe=>by
 have h:=D.d
 rw[e,D.l]at h
 cases h
def Deal.new{S:aq}{d l p:Addr}{o:SO}(D:Deal S d l)(h:S p=none):Deal (JH S p o) d l:=by
 obtain⟨s,n,f,D⟩:=D
 refine⟨s,n,f,?_,?_,D.s0,D.s1,D.nm,D.lf,D.ln⟩
 .rw[aj (λe=>by have:=D.d;rw[e,h]at this;cases this)];exact D.d
 .rw[aj (λe=>by have:=D.l;rw[e,h]at this;cases this)];exact D.l
def Deal.upd{S:aq}{d l p:Addr}{o:SO}(D:Deal S d l)(h1:p≠d)(h2:p≠l):Deal (JH S p o) d l:=by
 obtain⟨s,n,f,D⟩:=D
 exact⟨s,n,f,by rw[aj h1.symm];exact D.d,by rw[aj h2.symm];exact D.l,D.s0,D.s1,D.nm,D.lf,D.ln⟩
def Deal.free{S:aq}{d l p:Addr}(D:Deal S d l)(h:S p=none):p≠d/\p≠l:=by
 obtain⟨s,n,f,D⟩:=D
 exact⟨(λe=>by have:=D.d;rw[<-e,h]at this;cases this),(λe=>by have:=D.l;rw[<-e,h]at this;cases this)⟩
def k6(s n m:Int)(l:Addr):j1 (bS s n l) (Sum.inr "number") (.int m)=bS s m l:=by
 simp[j1,bS,bD]
def xz(s n m:Int)(l:Addr):j1 (bS s n l) (Sum.inr "seed") (.int m)=bS m n l:=by
 simp[j1,bS,bD]
def DV(s n:Int)(l:Addr):i9 (bS s n l) (Sum.inr "seed")=some (.int s):=by simp[i9,bS,bD]
def xA(s n:Int)(l:Addr):i9 (bS s n l) (Sum.inr "number")=some (.int n):=by simp[i9,bS,bD]
def DW(s n:Int)(l:Addr):i9 (bS s n l) (Sum.inr "left")=some (.ref l):=by simp[i9,bS,bD]
abbrev bW(w:aF):Prop:=∀{S:aq}{d l:Addr}{m:Int}{Q:bP}{E:cq},Deal S d l->0 < m->m < 2 ^ 62->(∀r S',0<=r->r < m->Deal S' d l->Oth d l S S'->Q (.int r) S')->w [.ref d,.int m] S Q E
def JJ:bW (bV 5 fE):=by
  intro S d l m Q E D h0 h1 k
  obtain⟨seed,number,left,D⟩:=D
  have hne:=D.ne
  have hsz:∀a b,(bS a b l).length < sizeLine:=λ_ _=>d0 (by show 3<=1000;decide)
  have fin:∀num Nr S1,LP S1 d l seed num Nr->Oth d l S S1->¬(num=0/\0 < Nr.length)->
      (if 0 < num then pr num m/\(bS seed num l).length < sizeLine/\m≠0/\Q (PV.int (num.fmod m)) (JH S1 d (SO.dct (bS seed (num.fdiv m) l)))
       else IntMulOk seed 48271/\(2147483647:Int)≠0/\IntMulOk ((seed * 48271+7919).fmod 2147483647) 40692/\(2147483399:Int)≠0/\(bS seed num l).length < sizeLine/\
        IntMulOk (((seed * 48271+7919).fmod 2147483647 * 40692+104729).fmod 2147483399) (((seed * 48271+7919).fmod 2147483647 * 40692+104729).fmod 2147483399)/\(2147483563:Int)≠0/\
        IntMulOk ((seed * 48271+7919).fmod 2147483647) ((seed * 48271+7919).fmod 2147483647)/\(2147483629:Int)≠0/\
        IntMulOk (((seed * 48271+7919).fmod 2147483647 * (seed * 48271+7919).fmod 2147483647).fmod 2147483629) 2147483563/\m≠0/\
        Q (PV.int ((((seed * 48271+7919).fmod 2147483647 * (seed * 48271+7919).fmod 2147483647).fmod 2147483629 * 2147483563+((((seed * 48271+7919).fmod 2147483647 * 40692+104729).fmod 2147483399) * (((seed * 48271+7919).fmod 2147483647 * 40692+104729).fmod 2147483399)).fmod 2147483563).fmod m))
          (JH S1 d (SO.dct (bS (((seed * 48271+7919).fmod 2147483647 * 40692+104729).fmod 2147483399) num l)))):=by
    intro num Nr S1 D1 O1 hz
    split
    . rename_i hp
      rw[jN (Yu h0),Gm (Yu h0)]
      refine⟨Iu h0 (by omega),hsz _ _,by omega,k _ _ (Yq _ (by omega)) (XG _ h0) ⟨seed,num / m,Nr,aa,by rw[aj hne.symm];exact D1.l,D1.s0,D1.s1,Int.ediv_nonneg D1.nm (Yu h0),D1.lf,D1.ln⟩ (O1.trans .upd)⟩
    . have e1:∀x:Int,x.fmod 2147483647=x % 2147483647:=λx=>jN (by decide)
      have e2:∀x:Int,x.fmod 2147483399=x % 2147483399:=λx=>jN (by decide)
      simp only[e1,e2,jN (Yu h0)]
      have p1:=D1.s0
      have p2:=D1.s1
      refine⟨AK (by decide) (by decide),by decide,AK (by decide) (by decide),by decide,hsz _ _,DU (by omega) (by omega),by decide,DU (by omega) (by omega),by decide,AK (by decide) (by decide),by omega,
        k _ _ (Yq _ (by omega)) (XG _ h0) ⟨_,num,Nr,aa,by rw[aj hne.symm];exact D1.l,by omega,by omega,D1.nm,D1.lf,D1.ln⟩ (O1.trans .upd)⟩
  unfold bV fE
  rw[show aB 5 [PV.ref d,PV.int m]=[some (.ref d),some (.int m),none,none,none] from rfl]
  simp only[ae]
  refine⟨λn σ S'=>σ=[some (.ref d),some (.int m),none,none,none]/\∃number left,LP S' d l seed number left/\left.length=n/\Oth d l S S',⟨_,rfl,number,left,D,rfl,.refl⟩,?_⟩
  rintro n σ S1 ⟨rfl,num,Nr,D1,hn,O1⟩
  walk_at "x"
  simp only[D1.d,D1.l,xA,DW,DV,xz,k6,aa,U6,UY]
  have hlen:(List.map PV.int Nr).length=Nr.length:=UJ ..
  rw[hlen]
  split
  . rename_i hz
    subst hz
    split
    . rename_i hl
      refine⟨λσ S'=>σ=[some (.ref d),some (.int m),none,none,none]/\∃number left,LP S' d l seed number left/\left.length < n/\Oth d l S S',?_,?_⟩
      . rintro σ' S' ⟨rfl,a,b,h2,h3,h4⟩
        exact⟨_,h3,rfl,a,b,h2,rfl,h4⟩
      . have hl':0 < Nr.length:=by omega
        obtain⟨pre,x,rfl⟩:∃pre x,Nr=pre++[x]:=by
          refine⟨Nr.dropLast,Nr.getLast (by intro e;rw[e]at hl';simp at hl'),(W7 _).symm⟩
        refine⟨trivial,?_⟩
        rw[show(List.map PV.int (pre++[x]))[(pre++[x]).length - 1]?=some (.int x) by simp,show(List.map PV.int (pre++[x])).dropLast=pre.map PV.int by simp]
        simp only[aj hne,D1.d,k6]
        refine⟨hsz _ _,trivial,x,pre,⟨aa,by rw[aj hne.symm,aa],D1.s0,D1.s1,D1.lf x (by simp),λy hy=>D1.lf y (by simp[hy]),by have:=D1.ln;simp at this;omega⟩,?_,O1.trans (Oth.T0.trans .upd)⟩
        rw[<-hn];simp
    . rename_i hl
      exact fin 0 Nr S1 D1 O1 (λz=>hl (by omega))
  . rename_i hz
    rw[if_neg (by decide)]
    exact fin num Nr S1 D1 O1 (λz=>hz z.1)
end C
namespace L3
open PySem L2
def Ext(S S':aq):Prop:=∀a o,S a=some o->S' a=some o
def Ext.refl{S:aq}:Ext S S:=λ_ _ h=>h
def Ext.trans{S S1 S2:aq}(a:Ext S S1)(b:Ext S1 S2):Ext S S2:=λx o h=>b x o (a x o h)
def Ext.new{S:aq}{p:Addr}{o:SO}(h:S p=none):Ext S (JH S p o):=λx u hx=>by rw[aj (λe=>by rw[e,h]at hx;cases hx)];exact hx
def Ext.free{S S':aq}(e:Ext S S'){p:Addr}(h:S' p=none):S p=none:=by
 cases q:S p with
 |none=>rfl
 |some o=>rw[e p o q]at h;cases h
def Ext.PC{d l:Addr}{S S':aq}(e:Ext S S'):Oth d l S S':=λa o h _ _=>e a o h
theorem eG{g:Tg}{tc:iw}{te:aO}{σ':bZ}{keep:aq->Prop}{fin:List PV->aq->Prop}{S:aq}(f:PV->PV)(c:PV->Bool)(hk:keep S):∀(items ys:List PV),
  (∀x∈items,∃σ2,g.put x σ'=some σ2/\(∀Q:Bool->aq->Prop,Q (c x) S->tc σ2 S Q fu)/\(c x=true->∀Q:bP,Q (f x) S->te σ2 S Q fu))->ys.length+items.length<=sizeLine->fin (ys++(items.filter c).map f) S->dl g tc te σ' keep fin items ys S
 |[],ys,_,hl,hf=>⟨hk,by simpa using hl,by simpa using hf⟩
 |x::r,ys,h,hl,hf=>by
  obtain⟨σ2,e,h1,h2⟩:=h x (by simp)
  refine⟨hk,by simp at hl;omega,?_⟩
  rw[e]
  refine h1 _ ?_
  cases hc:c x with
  |true=>
   rw[if_pos rfl]
   refine h2 hc _ (eG f c hk r (ys++[f x]) (λy hy=>h y (by simp[hy])) (by simp at hl ⊢;omega) ?_)
   rw[List.filter_cons,hc,if_pos rfl]at hf
   simpa using hf
  |false=>
   rw[if_neg (by decide)]
   refine eG f c hk r ys (λy hy=>h y (by simp[hy])) (by simp at hl ⊢;omega) ?_
   rw[List.filter_cons,hc,if_neg (by decide)]at hf
   exact hf
def uJ{g:Tg}{te:aO}{σ':bZ}{keep:aq->Prop}{fin:List PV->aq->Prop}{S:aq}(f:PV->PV){items:List PV}(hk:keep S)
  (h:∀x∈items,∃σ2,g.put x σ'=some σ2/\∀Q:bP,Q (f x) S->te σ2 S Q fu) (hl:items.length<=sizeLine) (hf:fin (items.map f) S):dl g eF te σ' keep fin items [] S:=by
 refine eG f (λ_=>true) hk items [] (λx hx=>?_) (by simpa using hl) (by rw[List.filter_eq_self.mpr (λ_ _=>rfl)];exact hf)
 obtain⟨σ2,e,k⟩:=h x hx
 exact⟨σ2,e,λQ q=>q,λ_=>k⟩
theorem mD{g:Tg}{tc:iw}{te:aO}{σ':bZ}{keep:aq->Prop}{fin:List PV->aq->Prop}{items:List PV}(Iv:List PV->List PV->aq->Prop)(hk:∀done ys S,Iv done ys S->keep S/\ys.length<=sizeLine)
  (step:∀done x rest ys S (K:List PV->aq->Prop),items=done++x::rest->Iv done ys S->(∀ys' S',Iv (done++[x]) ys' S'->K ys' S')->match g.put x σ' with
   |some σ2=>tc σ2 S (λb S3=>if b=true then te σ2 S3 (λy S4=>K (ys++[y]) S4) fu else K ys S3) fu
   |none=>False)
  (hf:∀ys S,Iv items ys S->fin ys S):∀(rest done ys:List PV) (S:aq),items=done++rest->Iv done ys S->dl g tc te σ' keep fin rest ys S
 |[],done,ys,S,e,h=>by
  rw[Vp]at e
  exact⟨(hk _ _ _ h).1,(hk _ _ _ h).2,hf ys S (e▸h)⟩
 |x::rest,done,ys,S,e,h=>by
  refine⟨(hk _ _ _ h).1,(hk _ _ _ h).2,?_⟩
  exact step done x rest ys S (λys' S'=>dl g tc te σ' keep fin rest ys' S') e h λys' S' h'=>mD Iv hk step hf rest (done++[x]) ys' S' (by rw[e];simp) h'
theorem pO{g:Tg}{tb:bB}{D:ix}{keep:aq->Prop}{items:List PV}(Iv:List PV->bZ->aq->Prop)(hk:∀done σ S,Iv done σ S->keep S)
  (step:∀done x rest σ S (K:bZ->aq->Prop),items=done++x::rest->Iv done σ S->(∀σ' S',Iv (done++[x]) σ' S'->K σ' S')->match g.put x σ with
   |some σ'=>tb { D with nx:=K,ct:=K,bk:=D.nx } σ' S
   |none=>False)
  (hd:∀σ S,Iv items σ S->D.nx σ S):∀(rest done:List PV)(σ:bZ)(S:aq),items=done++rest->Iv done σ S->nu g tb D keep rest σ S
 |[],done,σ,S,e,h=>by
  rw[Vp]at e
  exact⟨hk _ _ _ h,hd σ S (e▸h)⟩
 |x::rest,done,σ,S,e,h=>
  ⟨hk _ _ _ h,step done x rest σ S (nu g tb D keep rest) e h λσ' S' h'=>pO Iv hk step hd rest (done++[x]) σ' S' (by rw[e];simp) h'⟩
def cf{g:Tg}{tb:bB}{D:ix}{keep:aq->Prop}{items:List PV}{σ:bZ}{S:aq}(Iv:List PV->bZ->aq->Prop)(h0:Iv [] σ S)(hk:∀done σ S,Iv done σ S->keep S)
  (step:∀done x rest σ S (K:bZ->aq->Prop),items=done++x::rest->Iv done σ S->(∀σ' S',Iv (done++[x]) σ' S'->K σ' S')->match g.put x σ with
   |some σ'=>tb { D with nx:=K,ct:=K,bk:=D.nx } σ' S
   |none=>False)
  (hd:∀σ S,Iv items σ S->D.nx σ S):nu g tb D keep items σ S:=pO Iv hk step hd items [] σ S rfl h0
def pP{g:Tg}{tc:iw}{te:aO}{σ':bZ}{keep:aq->Prop}{fin:List PV->aq->Prop}{items:List PV}{S:aq}(Iv:List PV->List PV->aq->Prop)(h0:Iv [] [] S)(hk:∀done ys S,Iv done ys S->keep S/\ys.length<=sizeLine)
  (step:∀done x rest ys S (K:List PV->aq->Prop),items=done++x::rest->Iv done ys S->(∀ys' S',Iv (done++[x]) ys' S'->K ys' S')->match g.put x σ' with
   |some σ2=>tc σ2 S (λb S3=>if b=true then te σ2 S3 (λy S4=>K (ys++[y]) S4) fu else K ys S3) fu
   |none=>False)
  (hf:∀ys S,Iv items ys S->fin ys S):dl g tc te σ' keep fin items [] S:=mD Iv hk step hf items [] [] S rfl h0
def ar{t u:bB}{D:ix}{σ:bZ}{S:aq}(h:∀N:bZ->aq->Prop,(∀σ S,u D σ S->N σ S)->t { D with nx:=N } σ S):ae t u D σ S:=h (u D) λ_ _ q=>q
def j2{n:Nat}{b:bB}{args:List PV}{S:aq}{Q:bP}{E:cq}(h:b { nx:=λ_ S'=>Q .non S',rt:=Q,ex:=fu } (aB n args) S):bV n b args S Q E:=h
def xB{α β:Type}(f:α->β)(xs:List α)(lo hi:Option Int):cu (xs.map f) lo hi=(cu xs lo hi).map f:=by
 unfold cu
 rw[UJ,WS,Yh]
def xC{α:Type}(xs:List α)(lo hi:Option Int):(cu xs lo hi).length<=xs.length:=by
 unfold cu
 rw[VH,Wt]
 omega
def iE{n:Nat}(h:n<=1000):n<=sizeLine:=Xi (d0 h)
section
variable {α:Type}{a b c d e:α}{l:List α}
def rc:Kn (a::l) 0=some a:=by simp[Kn,r_]
def DX:Kn (a::b::l) 1=some b:=b6 (j:=1) rfl
def IY:Kn (a::b::c::l) 2=some c:=b6 (j:=2) rfl
def DY:Kn [a] (-1)=some a:=rfl
def DZ:Kn [a,b] (-1)=some b:=rfl
def D0:Kn [a,b,c] (-1)=some c:=rfl
def D_:Kn [a,b,c,d] (-1)=some d:=rfl
def Ea:Kn [a,b,c,d,e] (-1)=some e:=rfl
def Eb:Kn [a,b] (-2)=some a:=rfl
def Ec:Kn [a,b,c] (-2)=some b:=rfl
def Ed:Kn [a,b,c,d] (-2)=some c:=rfl
def Ee:Kn [a,b,c,d,e] (-2)=some d:=rfl
end
def bA(lo:Int)(n:Nat):(bM lo n).length=n:=by simp[bM]
end L3
namespace C
open PySem L2 L3
abbrev pQ(w:aF):Prop:=∀{S:aq}{ns:Vu}{b:Int}{Q:bP}{E:cq},ns.length<=63->0<=b->b < 1000->(∀d l S',S d=none->S l=none->Deal S' d l->Ext S S'->Q (.ref d) S')->w [.cl (ns.map PV.int),.int b] S Q E
def MA:pQ (bV 5 fD):=by
 intro S ns b Q E hn h0 h1 k
 unfold bV fD
 rw[show aB 5 [PV.cl (ns.map PV.int),PV.int b]=[some (.cl (ns.map PV.int)),some (.int b),none,none,none] from rfl]
 walk_at "x"
 intro p hp
 rw[aa]
 dsimp only
 rw[xB]
 have hx:(cu ns (some b) (some 63)).length<=63:=UN (xC _ _ _) hn
 generalize cu ns (some b) (some 63)=xs at hx
 refine uJ (λv=>match v with | .int i=>.int (if 0 - i > i then 0 - i else i)|v=>v) aa (λx hx=>?_) (iE (by rw[UJ];omega)) ?_
 .obtain⟨i,hi,rfl⟩:=Vf.mp hx
  refine⟨[some (.int i)],rfl,λQ q=>?_⟩
  walk_at "x"
  exact q
 intro p2 hp2
 rw[aa]
 dsimp only
 rw[VF]
 have e0:(xs.map ((λv=>match v with | .int i=>.int (if 0 - i > i then 0 - i else i)|v=>v) ∘ PV.int))=(xs.map λi=>if 0 - i > i then 0 - i else i).map PV.int:=by
  rw[VF];rfl
 rw[e0]
 have hy:((xs.map λi=>if 0 - i > i then 0 - i else i)).length<=63:=by rw[UJ];exact hx
 have PL:∀y∈xs.map (λi:Int=>if 0 - i > i then 0 - i else i),0<=y:=by
  intro y hy
  obtain⟨i,_,rfl⟩:=Vf.mp hy
  split<;>omega
 generalize (xs.map λi=>if 0 - i > i then 0 - i else i)=ys at hy PL
 have h2:p2≠p:=λe=>by rw[e,aa]at hp2;cases hp2
 have hp2':S p2=none:=by rw[<-hp2,aj h2]
 refine cf (λdone σ S'=>S'=JH (JH S p (.lst (xs.map PV.int))) p2 (.lst (ys.map PV.int))/\∃v2 n,0<=n/\n < 2147483647/\σ=[some (.cl (ns.map PV.int)),some (.int b),v2,some (.ref p2),some (.int n)]) ⟨rfl,none,7919+b,by omega,by omega,rfl⟩ (λdone σ S' h=>by rw[h.1];exact aa) ?_ ?_
 .rintro done x rest σ S' K e ⟨rfl,v2,n,n0,n1,rfl⟩ hK
  obtain⟨i,hi,rfl⟩:∃i,i∈ys/\x = .int i:=by
   have:x∈ys.map PV.int:=by rw[e];simp
   obtain⟨i,hi,rfl⟩:=Vf.mp this
   exact⟨i,hi,rfl⟩
  walk_at "x"
  refine⟨AK (by decide) (by decide),by decide,by decide,hK _ _ ⟨rfl,_,_,?_,?_,rfl⟩⟩
  .rw[jN (by decide)];omega
  .rw[jN (i:=(n * 48271+_)) (by decide)];omega
 .rintro σ S' ⟨rfl,v2,n,n0,n1,rfl⟩
  walk_at "x"
  intro d hd
  have hd2:d≠p2:=λe=>by rw[e,aa]at hd;cases hd
  rw[aj hd2]at hd
  have hd1:d≠p:=λe=>by rw[e,aa]at hd;cases hd
  rw[aj hd1]at hd
  rw[aj hd2.symm,aa]
  dsimp only
  refine eG (λv=>v) (λv=>match v with | .int i=>decide (10 ^ 18<=i)|_=>false) (by rw[aj hd2.symm,aa]) _ [] (λx hx=>?_) (by rw[UJ];exact iE (by simp;omega)) ?_
  .obtain⟨i,hi,rfl⟩:=Vf.mp hx
   refine⟨[some (.int i)],rfl,λQ q=>?_,λ_ Q q=>?_⟩
   .walk_at "x"
    exact⟨⟨by decide,by decide,by decide⟩,q⟩
   .walk_at "x"
    exact q
  intro p3 hp3
  rw[aa]
  intro l hl
  have e3:([]++List.map (λv:PV=>v) (List.filter (λv=>match v with | .int i=>decide (10 ^ 18<=i)|_=>false) (List.map PV.int ys)))=(ys.filter λi=>decide (10 ^ 18<=i)).map PV.int:=by
   rw[VT,List.map_id',List.filter_map]
   rfl
  rw[e3]at hl ⊢
  rw[<-List.map_reverse]
  generalize Sz:JH (JH (JH (JH S p (SO.lst (List.map PV.int xs))) p2 (SO.lst (List.map PV.int ys))) d (SO.dct [])) p3 (SO.lst (List.map PV.int (List.filter (λi=>decide (10 ^ 18<=i)) ys)))=S3 at hl ⊢
  have SD:S3 d=some (.dct []):=by rw[<-Sz,aj (λe=>by rw[<-e,aa]at hp3;cases hp3),aa]
  have SE:l≠d:=λe=>by rw[e,SD]at hl;cases hl
  have Rx:Ext S S3:=by
   rw[<-Sz]
   refine(Ext.new hp).trans ((Ext.new hp2).trans ((Ext.new ?_).trans (.new hp3)))
   rw[aj hd2,aj hd1];exact hd
  refine⟨by rw[aj SE.symm];exact SD,?_⟩
  have e4:kR [(PV.str "seed",PV.int n),(PV.str "number",PV.int 0),(PV.str "left",PV.ref l)]=some (bS n 0 l):=rfl
  rw[e4]
  have e5:dP [] (bS n 0 l)=bS n 0 l:=by simp[dP,bS,j1,bD]
  dsimp only
  rw[e5]
  refine k d l _ hd (Rx.free hl) ⟨n,0,_,aa,by rw[aj SE,aa],n0,n1,Int.le_refl _,λy hy=>?_,?_⟩ ?_
  .exact PL y (Yn.mp (List.mem_reverse.mp hy)).1
  .rw[Ys]
   exact UN (List.length_filter_le _ _) (by omega)
  .intro a o ha
   have had:a≠d:=λe=>by rw[e,hd]at ha;cases ha
   rw[aj had,aj (λe=>by rw[e,Rx.free hl]at ha;cases ha)]
   exact Rx a o ha
end C
namespace L3
open PySem L2
theorem iF(S:aq):∀zs:List Str,KZ S (zs.map PV.str) (zs.map PyData.str)
 |[]=>.nil
 |z::r=>.cons (.str z) (iF S r)
theorem fG:∀{zs:Vs},(∀z∈zs,PyData.strOk z=true)->PyData.canLayAll0 (zs.map PyData.str)=true
 |[],_=>rfl
 |z::r,h=>by
  show(PyData.canLay0 (.str z)&&PyData.canLayAll0 (r.map PyData.str))=true
  rw[fG λy hy=>h y (by simp[hy])]
  have:PyData.canLay0 (.str z)=true:=h z (by simp)
  rw[this];rfl
def k7(z:Str)(zs:Vs):gL (.str z) (zs.map PyData.str)=decide (z∈zs):=by
 unfold gL
 rw[List.any_map,WJ,List.any_eq_true,decide_eq_true_iff]
 constructor
 .rintro⟨y,hy,e⟩
  have e':(y == z)=true:=e
  exact(eq_of_beq e')▸hy
 .intro h
  exact⟨z,h,Xo z⟩
def sG{neg:Bool}{z:Str}{zs:Vs}{a:Addr}{S:aq}{Q:bP}(hS:S a=some (.lst (zs.map PV.str)))(hz:PyData.strOk z=true)(hzs:∀y∈zs,PyData.strOk y=true)(q:Q (.bl (neg != decide (z∈zs))) S):kL neg (.str z) (.ref a) S Q:=by
 unfold kL
 simp only[hS]
 exact⟨_,_,.str z,iF S zs,hz,fG hzs,by show 0<=150;decide,by rw[k7];exact q⟩
def xD{neg:Bool}{z:Str}{zs:Vs}{S:aq}{Q:bP}(hz:PyData.strOk z=true)(hzs:∀y∈zs,PyData.strOk y=true)(q:Q (.bl (neg != decide (z∈zs))) S):kL neg (.str z) (.tup (zs.map PV.str)) S Q:=by
 unfold kL
 exact⟨_,_,.str z,iF S zs,hz,fG hzs,by show 0<=150;decide,by rw[k7];exact q⟩
end L3
namespace C
open PySem L2 L3 Wd
abbrev nM(w:aF):Prop:=∀{S:aq}{t b:Int}{Q:bP}{E:cq},0 < b->b.natAbs < 2 ^ 8000->Q (.tup [.int (M3.kF t b),.int (M3.lV t b)]) S->w [.int t,.int b] S Q E
def LQ:nM (bV 4 gY):=by
 intro S t b Q E hb hs k
 unfold bV gY
 rw[show aB 4 [PV.int t,PV.int b]=[some (.int t),some (.int b),none,none] from rfl]
 simp only[ae]
 walk_at "x"
 refine⟨λn σ S'=>S'=S/\∃x y:Int,σ=[some (.int t),some (.int b),some (.int x),some (.int y)]/\0<=x/\0<=y/\Int.gcd x y=Int.gcd t b/\y.toNat=n,⟨_,rfl,_,b,rfl,by split<;>omega,by omega,?_,rfl⟩,?_⟩
 .split
  .rw[show(0 - t) = -t by omega,Int.neg_gcd]
  .rfl
 rintro n σ S' ⟨rfl,x,y,rfl,hx,hy,hg,rfl⟩
 walk_at "x"
 simp only[UY]
 split
 .rename_i hp
  refine⟨λσ' Nt=>Nt=S'/\∃x' y':Int,σ'=[some (.int t),some (.int b),some (.int x'),some (.int y')]/\0<=x'/\0<=y'/\Int.gcd x' y'=Int.gcd t b/\y'.toNat < y.toNat,?_,?_⟩
  .rintro σ' Nt ⟨rfl,x',y',rfl,h1,h2,h3,h4⟩
   exact⟨_,h4,rfl,x',y',rfl,h1,h2,h3,rfl⟩
  .walk_at "x"
   have e:x.fmod y=x % y:=jN hy
   have l1:=Yq x (b:=y) (by omega)
   have l2:=XG x hp
   refine⟨by omega,trivial,y,x.fmod y,rfl,hy,by omega,?_,by omega⟩
   rw[M3.pf];exact hg
 .rename_i hp
  have PL:y=0:=by omega
  subst PL
  have Ry:x=(Int.gcd t b:Int):=by
   rw[<-hg]
   rw[Int.gcd_zero_right]
   omega
  subst Ry
  have gp:(0:Int) < (Int.gcd t b:Int):=Yp.mpr (M3.iq (by omega))
  have gl:=M3.Dj (t:=t) (b:=b) (by omega)
  have cd:∀z,pr z (Int.gcd t b:Int):=λz=>⟨by omega,XE (by omega) hs⟩
  refine⟨cd _,cd _,?_⟩
  have d1:=(M3.vZ (t:=t) (b:=b) (by omega))
  rw[if_neg (by omega)]at d1
  rw[d1.1,d1.2]
  exact k
def uK{n:Nat}(h:n < 2 ^ 64):n < 2 ^ 8000:=Xk h (Ym (by decide) (by decide))
def uL{r:Int}(h0:0<=r)(h1:r < 26):∃c,Kn abc.cps.toList r=some c/\97<=c/\c<=122:=by
 obtain⟨n,rfl⟩:=Vn h0
 have q:=Di n
 rw[Nat.mod_eq_of_lt (by omega)]at q
 exact⟨_,q,by omega,by omega⟩
def Ef{z:Str}(h:E8 z):PyData.strOk z=true:=by
 unfold PyData.strOk
 rw[Array.all_eq_true']
 intro c hc
 have:=h.sm c (by simpa using hc)
 simp;omega
def nN:∀z∈J8,PyData.strOk z=true:=by decide +kernel
theorem gq:∀zs:List Str,texts (zs.map PV.str)=some zs
 |[]=>rfl
 |z::r=>by show(texts (r.map PV.str)).map (z::·)=_;rw[gq r];rfl
def uM:("":Str).length=0:=by decide +kernel
def uN{cs:List Nat}(h:cs.length<=1000):((cs.map sgn).map (·.length)).sum+(cs.map sgn).length * ("":Str).length<=1000000:=by
 rw[zZ,uM]
 omega
def re{w__law_draw:aF}(JJ:bW w__law_draw){S:aq}{d l:Addr}{σ:bZ}{n:Int}{fin:List PV->aq->Prop}(D:Deal S d l)(hn:n.toNat<=100)(h1:lk σ 1=some (.ref d))(h2:lk σ 2=some (.str abc))(hσ:∃x,σ=[x,some (.ref d),some (.str abc)])
  (k:∀(cs:List Nat) S',cs.length=n.toNat->(∀c∈cs,97<=c/\c<=122)->Deal S' d l->Oth d l S S'->fin ((cs.map sgn).map PV.str) S') :
  dl (Tg.n 0) eF (am az (v3 2) (ak w__law_draw [v3 1,c3 (.int 26)])) σ (λ_=>True) fin (bM 0 n.toNat) [] S:=by
 obtain⟨x0,rfl⟩:=hσ
 refine pP (λdone ys S'=>∃cs:List Nat,ys=(cs.map sgn).map PV.str/\cs.length=done.length/\done.length<=n.toNat/\(∀c∈cs,97<=c/\c<=122)/\Deal S' d l/\Oth d l S S') ⟨[],rfl,rfl,UZ _,by simp,D,.refl⟩ ?_ ?_ ?_
 .rintro done ys S' ⟨cs,rfl,e,hd,_⟩
  exact⟨trivial,iE (by rw[UJ,UJ,e];omega)⟩
 .rintro done x rest ys S' K e ⟨cs,rfl,e2,hd,hc,D',O'⟩ hK
  have hlen:done.length+1<=n.toNat:=by
   have:=U4 List.length e
   rw[bA,UK,UQ]at this
   omega
  walk_at "x"
  simp only[eF,VL]
  refine JJ D' (by decide) (by decide) λr S2 r0 r1 D2 O2=>⟨zY.1,?_⟩
  obtain⟨c,ec,c0,c1⟩:=uL r0 r1
  rw[ec]
  refine hK _ _ ⟨cs++[c],by simp,by simp[e2],by simpa using hlen,λy hy=>?_,D2,O'.trans O2⟩
  rcases UT.mp hy with hy|hy
  .exact hc y hy
  .rw[UM.mp hy];exact⟨c0,c1⟩
 .rintro ys S' ⟨cs,rfl,e,hd,hc,D',O'⟩
  exact k cs S' (by rw[e,bA]) hc D' O'
inductive Bd where
 |rest|pay (x y:Int)|put (z:Str) (m:Int)|use (z:Str)|K_ (a:Bd)|JN (a b:Bd)|K5 (a b:Bd)|K7 (z:Str) (m:Int) (a b:Bd)
noncomputable def Bd.pv:Bd->PV
 | .rest=>.tup [.str "rest"]
 | .pay x y=>.tup [.str "pay",.tup [.int x,.int y]]
 | .put z m=>.tup [.str "put",.str z,.int m]
 | .use z=>.tup [.str "use",.str z]
 | .K_ a=>.tup [.str "often",a.pv]
 | .JN a b=>.tup [.str "then",a.pv,b.pv]
 | .K5 a b=>.tup [.str "either",a.pv,b.pv]
 | .K7 z m a b=>.tup [.str "take",.str z,.int m,a.pv,b.pv]
noncomputable def Bd.dep:Bd->Nat
 | .K_ a=>a.dep+1
 | .JN a b=>max a.dep b.dep+1
 | .K5 a b=>max a.dep b.dep+1
 | .K7 _ _ a b=>max a.dep b.dep+1
 |_=>1
noncomputable def Bd.size:Bd->Nat
 | .K_ a=>a.size+1
 | .JN a b=>a.size+b.size+1
 | .K5 a b=>a.size+b.size+1
 | .K7 _ _ a b=>a.size+b.size+1
 |_=>1
def Bd.OJ(t:Bd):1<=t.dep:=by cases t<;>simp[Bd.dep]
def iG{α:Type}{xs:List α}{r:Int}(h0:0<=r)(h1:r < xs.length):∃v,Kn xs r=some v/\v∈xs:=by
 obtain⟨n,rfl⟩:=Vn h0
 have hn:n < xs.length:=by omega
 exact⟨xs[n],b6 (by simp[hn]),Xm hn⟩
end C
local macro_rules | `(tactic| walk_at "w")=>`(tactic| simp only [L3.ae,L3.ap,L3.ax,L3.bh,L3.a_,L3.aJ,L3.am,L3.v3,L3.c3,L3.lk,L3.al,L3.af,L3.ak,L3.bL,L3.aH,L3.kJ,L3.fc,L3.eZ,L3.mn,L3.ut,L3.i_,L3.ux,L3.bG,L3.aS,L3.u5,L3.jZ,L3.az,L3.nq,L3.aA,L3.de,L3.cz,L3.cK,L3.e9,L3.gK,L3.dm,L3.gX,L3.kT,L3.uy,L3.my,L3.qo,L3.Gb,L3.bo,L3.pA,L3.aG,L3.j0,L3.aT,L3.uv,L3.kM,L3.iA,L3.bC,L3.gW,L3.cJ,List.set_cons_zero,List.set_cons_succ,List.set_nil,L3.gC,L3.cv,L3.qP,L3.bU,L3.bE,L3.eR,L3.cH,L3.jb,L3.Tg.put,L3.Tg.K6,L3.fw,L3.fv,L3.pF,L3.ja,L3.pD,L3.aI,List.reduceReplicate,UE,Ve,List.cons_append,List.nil_append,L3.rc,L3.DX,L3.IY,L3.DY,L3.DZ,L3.D0,L3.D_,L3.Ea,L3.Eb,L3.Ec,L3.Ed,L3.Ee,L3.bD,String.reduceEq,decide_true,decide_false,U6,WB,VW,V4,VL,Vx,UR,reduceIte,ite_true,ite_false,L3.aR,L3.bd,L3.mz])
local macro_rules | `(tactic| walk_at "y")=>`(tactic| ((try walk_at "x"); (try walk_at "w")))
namespace C
open PySem L2 L3 Wd
structure Sh(S:aq)(v:PV)(d:PyData)(n k:Nat):Prop where
 dat:Dat S v d
 lay:d.canLay0=true
 Pn:d.showable=true
 dep:d.depth<=k
 len:d.shown.length<=n
structure M8(S:aq)(vs:List PV)(ds:List PyData)(n k:Nat):Prop where
 dat:KZ S vs ds
 lay:PyData.canLayAll0 ds=true
 Pn:PyData.showableAll ds=true
 dep:PyData.depthAll ds<=k
 len:piled (PyData.shownAll ds)<=n
def Sh.le{S:aq}{v:PV}{d:PyData}{n k m j:Nat}(h:Sh S v d n k)(a:n<=m)(b:k<=j):Sh S v d m j:=⟨h.dat,h.lay,h.Pn,UN h.dep b,UN h.len a⟩
def M8.le{S:aq}{v:List PV}{d:List PyData}{n k m j:Nat}(h:M8 S v d n k)(a:n<=m)(b:k<=j):M8 S v d m j:=⟨h.dat,h.lay,h.Pn,UN h.dep b,UN h.len a⟩
theorem Sh.int{S:aq}{i:Int}(h:i.natAbs.log2 < 1920):Sh S (.int i) (.int i) 1921 0:=
 ⟨.int i,by simp[PyData.canLay0],by simpa [PyData.showable]using h,by simp[PyData.depth],by rw[PyData.shown_int];exact PyProof.Rows.int_text_len_1921 h⟩
theorem Sh.str{S:aq}{z:Str}(h:PyData.strOk z=true):Sh S (.str z) (.str z) (10 * z.length+2) 0:=
 ⟨.str z,by simpa [PyData.canLay0]using h,by simp[PyData.showable],by simp[PyData.depth],by
  rw[PyData.shown_str]
  refine StrLaws.reprText_len z λc hc=>?_
  have h3:=Array.all_eq_true_iff_forall_mem.mp h c (Array.mem_toList_iff.mp hc)
  have h4:c < 0x110000:=by simpa using h3
  have e:(16:Nat) ^ 8=4294967296:=by decide
  omega⟩
theorem M8.nil{S:aq}:M8 S [] [] 0 0:=⟨.nil,by simp[PyData.canLayAll0],by simp[PyData.showableAll],by simp[PyData.depthAll],by simp[PyData.shownAll,piled]⟩
theorem Sh.cons{S:aq}{v:PV}{d:PyData}{n k:Nat}{vs:List PV}{ds:List PyData}{m:Nat}(a:Sh S v d n k)(b:M8 S vs ds m k):M8 S (v::vs) (d::ds) (n+2+m) k:=
 ⟨.cons a.dat b.dat,by simp[PyData.canLayAll0,a.lay,b.lay],by simp[PyData.showableAll,a.Pn,b.Pn],by simp only[PyData.depthAll];exact Nat.max_le.mpr ⟨a.dep,b.dep⟩,by
  rw[PyData.shownAll_cons,piled_cons]
  have:=a.len
  have:=b.len
  omega⟩
theorem Sh.tup{S:aq}{n k:Nat}{vs:List PV}{ds:List PyData}(a:M8 S vs ds n k):Sh S (.tup vs) (.tuple ds) (n+3) (k+1):=
 ⟨.tup a.dat,by simp[PyData.canLay0,a.lay],by simp[PyData.showable,a.Pn],by simp only[PyData.depth];exact V0 a.dep,by
  rw[PyData.shown_tuple,strLen_append,strLen_append]
  have e1:((("(":String):Str)).length=1:=rfl
  have e3:(((if ds.length == 1 then ",)" else ")":String):Str)).length<=2:=by split<;>decide
  have q:=a.len
  rcases ds with _|⟨d,ds⟩
  .have:(Str.join ", " (PyData.shownAll [])).length=0:=by simp[PyData.shownAll];rfl
   omega
  .have:=join_length_add (PyData.shownAll (d::ds)) (by simp[PyData.shownAll])
   omega⟩
theorem M8.map{α:Type}{S:aq}{n k:Nat}(f:α->PV)(g:α->PyData):∀{xs:List α},(∀x∈xs,Sh S (f x) (g x) n k)->M8 S (xs.map f) (xs.map g) (xs.length * (n+2)) k
 |[],_=>M8.nil.le (UZ _) (UZ _)
 |x::r,h=>((h x (by simp)).cons (M8.map f g λy hy=>h y (by simp[hy]))).le (by rw[UQ,YG];omega) (UH _)
def Sh.dict{S:aq}{v:PV}{d:PyData}{n k:Nat}(h:Sh S v d n k):d.hasDict=false:=PyData.hasDict_of_canLay d h.lay
def Eg:(2:Nat) ^ 24<=sizeLine:=by decide
def pR{S:aq}{vs:List PV}{d:PyData}{n k:Nat}{Q:bP}(h:Sh S (.tup vs) d n k)(hn:n<=2 ^ 24)(hk:k<=100)(q:Q (.str d.shown) S):pB [.tup vs] S Q:=by
 unfold pB
 exact⟨d,h.dat,h.Pn,h.dict,UN h.dep hk,UN h.len (UN hn Eg),q⟩
noncomputable def Bd.dt:Bd->PyData
 | .rest=>.tuple [.str "rest"]
 | .pay x y=>.tuple [.str "pay",.tuple [.int x,.int y]]
 | .put z m=>.tuple [.str "put",.str z,.int m]
 | .use z=>.tuple [.str "use",.str z]
 | .K_ a=>.tuple [.str "often",a.dt]
 | .JN a b=>.tuple [.str "then",a.dt,b.dt]
 | .K5 a b=>.tuple [.str "either",a.dt,b.dt]
 | .K7 z m a b=>.tuple [.str "take",.str z,.int m,a.dt,b.dt]
def uO{i:Int}(h:i.natAbs < 2 ^ 64):i.natAbs.log2 < 1920:=by
 by_cases h0:i.natAbs=0
 .rw[h0];decide
 .exact(Nat.log2_lt h0).mpr (Xk h (Ym (by decide) (by decide)))
def Sh.s{S:aq}(z:String)(k:Nat)(h:PyData.strOk (z:Str)=true)(hl:(z:Str).length<=6):Sh S (.str z) (.str z) 62 k:=(Sh.str h).le (by omega) (UZ _)
def M8.MO{S:aq}(k:Nat):M8 S [] [] 0 k:=.le .nil (UH _) (UZ _)
theorem Sh.i{S:aq}{i:Int}(h:i.natAbs < 2 ^ 64):Sh S (.int i) (.int i) 1921 0:=Sh.int (uO h)
def Deal.ext{S S':aq}{d l:Addr}(D:Deal S d l)(e:Ext S S'):Deal S' d l:=by
 obtain⟨s,n,f,D⟩:=D
 exact⟨s,n,f,e _ _ D.d,e _ _ D.l,D.s0,D.s1,D.nm,D.lf,D.ln⟩
def _root_.L3.Oth.free{d l p:Addr}{S S':aq}(O:Oth d l S S')(h:S' p=none)(h1:p≠d)(h2:p≠l):S p=none:=by
 cases e:S p with
 |none=>rfl
 |some o=>rw[O p o e h1 h2]at h;cases h
end C
namespace CX
open PySem L2 L3 Wd
open C
def rg{n:Nat}{b:bB}{args:List PV}{S:aq}{Q:bP}{E:cq}(h:b { nx:=λ_ S'=>Q .non S',rt:=Q,ex:=λp _ S'=>E p [] S' } (aB n args) S):dr n b args S Q E:=h
end CX
namespace C
open PySem L2 L3 Wd
noncomputable def Bd.hd:Bd->Str
 | .rest=>"rest" | .pay _ _=>"pay" | .put _ _=>"put" | .use _=>"use" | .K_ _=>"often" | .JN _ _=>"then" | .K5 _ _=>"either" | .K7 _ _ _ _=>"take"
noncomputable def Bd.tl:Bd->List PV
 | .rest=>[] | .pay x y=>[.tup [.int x,.int y]] | .put z m=>[.str z,.int m] | .use z=>[.str z] | .K_ a=>[a.pv] | .JN a b=>[a.pv,b.pv] | .K5 a b=>[a.pv,b.pv] | .K7 z m a b=>[.str z,.int m,a.pv,b.pv]
def Bd.Mt(t:Bd):t.pv = .tup (.str t.hd::t.tl):=by cases t<;>rfl
theorem jg{α:Type}{g:Tg}{te:aO}{σ':bZ}{keep:aq->Prop}{fin:List PV->aq->Prop}{S:aq}(enc f:α->PV)(hk:keep S):∀(xs:List α)(ys:List PV),
  (∀x∈xs,∃σ2,g.put (enc x) σ'=some σ2/\∀Q:bP,Q (f x) S->te σ2 S Q fu)->ys.length+xs.length<=sizeLine->fin (ys++xs.map f) S->dl g eF te σ' keep fin (xs.map enc) ys S
 |[],ys,_,hl,hf=>⟨hk,by simpa using hl,by simpa using hf⟩
 |x::r,ys,h,hl,hf=>by
  obtain⟨σ2,e,h1⟩:=h x (by simp)
  refine⟨hk,by simp at hl;omega,?_⟩
  rw[e]
  show te σ2 S (λy S4=>dl g eF te σ' keep fin (r.map enc) (ys++[y]) S4) fu
  exact h1 _ (jg enc f hk r (ys++[f x]) (λy hy=>h y (by simp[hy])) (by simp at hl ⊢;omega) (by simpa using hf))
abbrev k8(w:aF):Prop:=∀{S:aq}{a b:Int}{Q:bP}{E:cq},0<=a->0<=b->Q (.int (Int.gcd a b)) S->w [.int a,.int b] S Q E
def uP:k8 (bV 3 kU):=by
 intro S a b Q E ha hb k
 unfold kU
 refine j2 ?_
 rw[show aB 3 [PV.int a,PV.int b]=[some (.int a),some (.int b),none] from rfl]
 walk_at "5"
 refine⟨λn σ S'=>S'=S/\∃(x y:Int) (z:Option PV),σ=[some (.int x),some (.int y),z]/\0<=x/\0<=y/\Int.gcd x y=Int.gcd a b/\y.toNat=n,⟨_,rfl,a,b,none,rfl,ha,hb,rfl,rfl⟩,?_⟩
 rintro n σ S' ⟨rfl,x,y,z,rfl,hx,hy,hg,rfl⟩
 walk_at "x"
 simp only[WB,YC,decide_eq_false_iff_not]
 split
 .rename_i hp
  refine⟨λσ' Nt=>Nt=S'/\∃(x' y':Int) (z':Option PV),σ'=[some (.int x'),some (.int y'),z']/\0<=x'/\0<=y'/\Int.gcd x' y'=Int.gcd a b/\y'.toNat < y.toNat,?_,?_⟩
  .rintro σ' Nt ⟨rfl,x',y',z',rfl,h1,h2,h3,h4⟩
   exact⟨_,h4,rfl,x',y',z',rfl,h1,h2,h3,rfl⟩
  .have e:x.fmod y=x % y:=jN hy
   have l1:=Yq x (b:=y) hp
   have l2:=XG x (show 0 < y by omega)
   refine⟨hp,rfl,y,x.fmod y,_,rfl,hy,by omega,?_,by omega⟩
   rw[M3.pf];exact hg
 .rename_i hp
  have PL:y=0:=by omega
  subst PL
  refine hN _ _ ?_
  walk_at "x"
  rw[if_neg (by omega)]
  have Ry:x=(Int.gcd a b:Int):=by
   rw[<-hg]
   rw[Int.gcd_zero_right]
   omega
  rw[Ry]
  exact k
end C
namespace T7
open PySem PySem.NumText T5
noncomputable def gl(s:List Nat):List (List Nat)->List Nat
 |[]=>[]
 |p::q=>match q with|[]=>p|_::_=>p++s++gl s q
def bv(s p:List Nat):gl s [p]=p:=by rw[gl]
def aX(s p:List Nat){q:List (List Nat)}(h:q≠[]):gl s (p::q)=p++s++gl s q:=by
 cases q with
 |nil=>exact absurd rfl h
 |cons a b=>rw[gl]
theorem nO(s:List Nat):∀(a b:List (List Nat)),a≠[]->b≠[]->gl s (a++b)=gl s a++s++gl s b
 |[],b,h,_=>absurd rfl h
 |[p],b,_,h=>by rw[VS,aX s p h,bv]
 |p::q::r,b,_,h=>by
  rw[V5,aX s p (by simp),nO s (q::r) b (by simp) h,aX s p (q:=q::r) (by simp)]
  simp only[U8]
theorem iH(s:List Nat):∀(P:Vs),(Str.join (ofL s) P).cps.toList=gl s (P.map λz=>z.cps.toList)
 |[]=>rfl
 |[p]=>by rw[UE,Ve,bv];rfl
 |p::a::q=>by
  have ih:=iH s (a::q)
  rw[UE,aX s _ (by simp),<-ih]
  show((p.cps++(ofL s).cps)++(Str.join (ofL s) (a::q)).cps).toList=_
  simp[ofL]
noncomputable def JK(c:Nat):List Nat->List (List Nat)
 |[]=>[[]]
 |d::r=>if d=c then []::JK c r else match JK c r with
  |[]=>[[d]]
  |p::q=>(d::p)::q
theorem Ko(c:Nat):∀l,JK c l≠[]
 |[]=>by simp[JK]
 |d::r=>by
  unfold JK
  split
  .simp
  .split<;>simp
theorem k9(c:Nat):∀(p:List Nat),c ∉ p->JK c p=[p]
 |[],_=>rfl
 |d::r,h=>by
  unfold JK
  rw[if_neg (λe=>h (by rw[<-e];exact Vj)),k9 c r λz=>h (UP _ z)]
theorem sH(c:Nat):∀(p r:List Nat),c ∉ p->JK c (p++[c]++r)=p::JK c r
 |[],r,_=>by
  show JK c (c::r)=_
  rw[JK,if_pos rfl]
 |d::p,r,h=>by
  show JK c (d::(p++[c]++r))=_
  rw[JK,if_neg (λe=>h (by rw[<-e];exact Vj)),sH c p r λz=>h (UP _ z)]
theorem rh(c:Nat):∀(P:List (List Nat)),P≠[]->(∀p∈P,c ∉ p)->JK c (gl [c] P)=P
 |[],h,_=>absurd rfl h
 |[p],_,h=>by rw[bv];exact k9 c p (h p Vj)
 |p::a::q,_,h=>by
  rw[aX _ _ (by simp),sH c _ _ (h p Vj),rh c (a::q) (by simp) λx hx=>h x (UP _ hx)]
def k_(z:Str)(c:Nat):gl [c] ((Txt.split z ⟨#[c]⟩).map λy=>y.cps.toList)=z.cps.toList:=by
 have h1:=PySem.StrLaws.join_split z (ofL [c])
 have h4:=iH [c] (Txt.split z (ofL [c]))
 rw[h1]at h4
 exact h4.symm
def uQ(z:Str)(c:Nat):(Txt.split z ⟨#[c]⟩).map (λy=>y.cps.toList)=JK c z.cps.toList:=by
 have h2:=Xx z c
 have h3:=PyProof.Rows.split_pos z ⟨#[c]⟩
 rw[<-k_ z c,rh c]
 .intro e
  have:=U4 List.length e
  simp at this
  rw[this]at h3
  simp at h3
 .intro p hp
  obtain⟨y,hy,rfl⟩:=Vf.mp hp
  exact h2 y hy
def pS(l:List Nat)(c:Nat):Txt.split (ofL l) ⟨#[c]⟩=(JK c l).map ofL:=by
 have h:=uQ (ofL l) c
 rw[toL]at h
 rw[<-h,VF]
 conv=>lhs;rw[<-YD (Txt.split (ofL l) ⟨#[c]⟩)]
 exact List.map_congr_left λy _=>(du y).symm
noncomputable def rp(c:Nat)(d l:List Nat):List Nat:=l.flatMap λx=>if x=c then d else [x]
def jh(c:Nat)(d a b:List Nat):rp c d (a++b)=rp c d a++rp c d b:=by simp[rp]
theorem cD(c:Nat)(d:List Nat):∀(p:List Nat),c ∉ p->rp c d p=p
 |[],_=>rfl
 |x::r,h=>by
  show(if x=c then d else [x])++rp c d r=_
  rw[if_neg (λe=>h (by rw[<-e];exact Vj)),cD c d r λz=>h (UP _ z)]
  rfl
def Eh(c:Nat)(d:List Nat):rp c d [c]=d:=by simp[rp]
theorem BV(c:Nat)(d:List Nat):∀(P:List (List Nat)),(∀p∈P,c ∉ p)->rp c d (gl [c] P)=gl d P
 |[],_=>rfl
 |[p],h=>by rw[bv,bv];exact cD c d p (h p Vj)
 |p::a::q,h=>by
  rw[aX [c] p (q:=a::q) (by simp),aX d p (q:=a::q) (by simp),jh,jh,Eh,cD c d p (h p Vj),BV c d (a::q) λx hx=>h x (UP _ hx)]
def nP(l d:List Nat)(c:Nat):Txt.replace (ofL l) ⟨#[c]⟩ (ofL d)=ofL (rp c d l):=by
 rw[PySem.StrLaws.replace_one]
 have h:=iH d (Txt.split (ofL l) ⟨#[c]⟩)
 have h2:rp c d l=gl d ((Txt.split (ofL l) ⟨#[c]⟩).map λy=>y.cps.toList):=by
  have e:=k_ (ofL l) c
  rw[toL]at e
  conv=>lhs;rw[<-e]
  refine BV c d _ λp hp=>?_
  obtain⟨y,hy,rfl⟩:=Vf.mp hp
  exact Xx (ofL l) c y hy
 rw[h2,<-h,du]
theorem rm(c:Nat)(d s:List Nat):∀(P:List (List Nat)),c ∉ s->rp c d (gl s P)=gl s (P.map (rp c d))
 |[],_=>rfl
 |[p],_=>by rw[UE,Ve,bv,bv]
 |p::a::q,h=>by
  rw[aX s p (q:=a::q) (by simp),UE,aX s (rp c d p) (q:=(a::q).map (rp c d)) (by simp),jh,jh,cD c d s h,rm c d s (a::q) h]
end T7
namespace T7
open PySem PySem.NumText T5 C
noncomputable abbrev sg(z:Str):List Nat:=z.cps.toList
noncomputable def tx:Bd->List Nat
 | .rest=>sg "rest"
 | .pay x y=>[40]++gl [32] [sg "pay",txt (x,y)]++[41]
 | .put z m=>[40]++gl [32] [sg "put",sg z,num m]++[41]
 | .use z=>[40]++gl [32] [sg "use",sg z]++[41]
 | .K_ a=>[40]++gl [32] [sg "often",tx a]++[41]
 | .JN a b=>[40]++gl [32] [sg "then",tx a,tx b]++[41]
 | .K5 a b=>[40]++gl [32] [sg "either",tx a,tx b]++[41]
 | .K7 z m a b=>[40]++gl [32] [sg "take",sg z,num m,tx a,tx b]++[41]
noncomputable def wd:Bd->List (List Nat)
 | .rest=>[sg "rest"]
 | .pay x y=>[[40],sg "pay",txt (x,y),[41]]
 | .put z m=>[[40],sg "put",sg z,num m,[41]]
 | .use z=>[[40],sg "use",sg z,[41]]
 | .K_ a=>[[40],sg "often"]++wd a++[[41]]
 | .JN a b=>[[40],sg "then"]++wd a++wd b++[[41]]
 | .K5 a b=>[[40],sg "either"]++wd a++wd b++[[41]]
 | .K7 z m a b=>[[40],sg "take",sg z,num m]++wd a++wd b++[[41]]
def Wo(l:List Nat):Prop:=32 ∉ l/\40 ∉ l/\41 ∉ l/\10 ∉ l
noncomputable def Wf:Bd->Prop
 | .rest=>True
 | .pay x y=>Wo (txt (x,y))
 | .put z m=>Wo (sg z)/\Wo (num m)
 | .use z=>Wo (sg z)
 | .K_ a=>Wf a
 | .JN a b=>Wf a/\Wf b
 | .K5 a b=>Wf a/\Wf b
 | .K7 z m a b=>Wo (sg z)/\Wo (num m)/\Wf a/\Wf b
theorem pT:∀t,wd t≠[]
 | .rest=>by simp[wd]
 | .pay _ _=>by simp[wd]
 | .put _ _=>by simp[wd]
 | .use _=>by simp[wd]
 | .K_ a=>by simp[wd]
 | .JN a b=>by simp[wd]
 | .K5 a b=>by simp[wd]
 | .K7 _ _ a b=>by simp[wd]
noncomputable def rq(l:List Nat):List Nat:=rp 41 [32,41] (rp 40 [40,32] l)
def nQ(a b:List Nat):rq (a++b)=rq a++rq b:=by simp[rq,jh]
def mE{l:List Nat}(h:Wo l):rq l=l:=by rw[rq,cD 40 _ l h.2.1,cD 41 _ l h.2.2.1]
def Gn(P:List (List Nat)):rq (gl [32] P)=gl [32] (P.map rq):=by
 rw[rq,rm 40 _ _ _ (by simp),rm 41 _ _ _ (by simp),VF]
 rfl
def lg(P:List (List Nat))(W:List (List Nat))(hW:W≠[])(e:gl [32] (P.map rq)=gl [32] W):rq ([40]++gl [32] P++[41])=gl [32] ([[40]]++W++[[41]]):=by
 rw[nQ,nQ,Gn,e,nO [32] ([[40]]++W) [[41]] (by simp) (by simp),nO [32] [[40]] W (by simp) hW,bv,bv]
 show[40,32]++gl [32] W++[32,41]=_
 simp
theorem iI:∀(Ws:List (List (List Nat))),(∀W∈Ws,W≠[])->gl [32] (Ws.map (gl [32]))=gl [32] Ws.flatten
 |[],_=>rfl
 |[W],_=>by simp[bv]
 |W::V::r,h=>by
  have ih:=iI (V::r) λx hx=>h x (UP _ hx)
  rw[UE,aX [32] _ (q:=(V::r).map (gl [32])) (by simp),ih,show(W::V::r).flatten=W++(V::r).flatten from rfl,nO [32] W _ (h W Vj)]
  intro e
  have:=h V (by simp)
  simp at e
  exact this e.1
theorem iJ:∀t,Wf t->rq (tx t)=gl [32] (wd t)
 | .rest,_=>by decide +kernel
 | .pay x y,h=>by
  have:=lg [sg "pay",txt (x,y)] [sg "pay",txt (x,y)] (by simp) (by rw[UE,UE,Ve,mE h,show rq (sg "pay")=sg "pay" by decide +kernel])
  exact this
 | .put z m,h=>by
  have:=lg [sg "put",sg z,num m] [sg "put",sg z,num m] (by simp) (by rw[UE,UE,UE,Ve,mE h.1,mE h.2,show rq (sg "put")=sg "put" by decide +kernel])
  exact this
 | .use z,h=>by
  have:=lg [sg "use",sg z] [sg "use",sg z] (by simp) (by rw[UE,UE,Ve,mE h,show rq (sg "use")=sg "use" by decide +kernel])
  exact this
 | .K_ a,h=>by
  have e:=iI [[sg "often"],wd a] (by simp[pT])
  have:=lg [sg "often",tx a] ([sg "often"]++wd a) (by simp) (by
   rw[UE,UE,Ve,iJ a h,show rq (sg "often")=gl [32] [sg "often"] by decide +kernel]
   simpa using e)
  simpa [wd,tx]using this
 | .JN a b,h=>by
  have e:=iI [[sg "then"],wd a,wd b] (by simp[pT])
  have:=lg [sg "then",tx a,tx b] ([sg "then"]++wd a++wd b) (by simp) (by
   rw[UE,UE,UE,Ve,iJ a h.1,iJ b h.2,show rq (sg "then")=gl [32] [sg "then"] by decide +kernel]
   simpa using e)
  simpa [wd,tx]using this
 | .K5 a b,h=>by
  have e:=iI [[sg "either"],wd a,wd b] (by simp[pT])
  have:=lg [sg "either",tx a,tx b] ([sg "either"]++wd a++wd b) (by simp) (by
   rw[UE,UE,UE,Ve,iJ a h.1,iJ b h.2,show rq (sg "either")=gl [32] [sg "either"] by decide +kernel]
   simpa using e)
  simpa [wd,tx]using this
 | .K7 z m a b,h=>by
  have e:=iI [[sg "take"],[sg z],[num m],wd a,wd b] (by simp[pT])
  have:=lg [sg "take",sg z,num m,tx a,tx b] ([sg "take",sg z,num m]++wd a++wd b) (by simp) (by
   rw[UE,UE,UE,UE,UE,Ve,mE h.1,mE h.2.1,iJ a h.2.2.1,iJ b h.2.2.2,show rq (sg "take")=gl [32] [sg "take"] by decide +kernel]
   simpa [bv]using e)
  simpa [wd,tx]using this
theorem dE:∀t,Wf t->∀w∈wd t,32 ∉ w
 | .rest,_,w,h=>by rw[UM.mp h];decide +kernel
 | .pay x y,f,w,h=>by
  simp only[wd,UI,UW,Vy]at h
  rcases h with rfl|rfl|rfl|rfl
  .simp
  .decide +kernel
  .exact f.1
  .simp
 | .put z m,f,w,h=>by
  simp only[wd,UI,UW,Vy]at h
  rcases h with rfl|rfl|rfl|rfl|rfl
  .simp
  .decide +kernel
  .exact f.1.1
  .exact f.2.1
  .simp
 | .use z,f,w,h=>by
  simp only[wd,UI,UW,Vy]at h
  rcases h with rfl|rfl|rfl|rfl
  .simp
  .decide +kernel
  .exact f.1
  .simp
 | .K_ a,f,w,h=>by
  simp only[wd,UI,UT,UW,Vy]at h
  rcases h with((rfl|rfl)|h)|rfl
  .simp
  .decide +kernel
  .exact dE a f w h
  .simp
 | .JN a b,f,w,h=>by
  simp only[wd,UI,UT,UW,Vy]at h
  rcases h with(((rfl|rfl)|h)|h)|rfl
  .simp
  .decide +kernel
  .exact dE a f.1 w h
  .exact dE b f.2 w h
  .simp
 | .K5 a b,f,w,h=>by
  simp only[wd,UI,UT,UW,Vy]at h
  rcases h with(((rfl|rfl)|h)|h)|rfl
  .simp
  .decide +kernel
  .exact dE a f.1 w h
  .exact dE b f.2 w h
  .simp
 | .K7 z m a b,f,w,h=>by
  simp only[wd,UI,UT,UW,Vy]at h
  rcases h with(((rfl|rfl|rfl|rfl)|h)|h)|rfl
  .simp
  .decide +kernel
  .exact f.1.1
  .exact f.2.1.1
  .exact dE a f.2.2.1 w h
  .exact dE b f.2.2.2 w h
  .simp
end T7
namespace T9
open PySem PySem.NumText T5 T7 C Wd L3
noncomputable def dec:List Nat->List Nat
 |[]=>[]
 |[x]=>[x]
 |x::y::r=>if x=40/\y=32 then 40::dec r else if x=32/\y=41 then 41::dec r else x::dec (y::r)
def gu(x:Nat)(l:List Nat):rq (x::l)=(if x=40 then [40,32] else if x=41 then [32,41] else [x])++rq l:=by
 have:x::l=[x]++l:=rfl
 rw[this,nQ]
 congr 1
 by_cases h:x=40
 .subst h;rfl
 .by_cases h':x=41
  .subst h';rfl
  .rw[if_neg h,if_neg h',rq,cD 40 _ [x] (by simp;omega),cD 41 _ [x] (by simp;omega)]
def Go(l:List Nat):∀r,rq l≠41::r:=by
 cases l with
 |nil=>intro r h;cases h
 |cons x l=>
  intro r h
  rw[gu]at h
  split at h
  .cases h
  .split at h
   .cases h
   .rename_i h';injection h with h1;exact h' h1
def xE(x:Nat)(r:List Nat)(h:¬(x=40/\∃s,r=32::s))(h':¬(x=32/\∃s,r=41::s)):dec (x::r)=x::dec r:=by
 cases r with
 |nil=>rfl
 |cons y r=>
  rw[dec,if_neg (λz=>h ⟨z.1,r,by rw[z.2]⟩),if_neg (λz=>h' ⟨z.1,r,by rw[z.2]⟩)]
theorem li:∀l,dec (rq l)=l
 |[]=>rfl
 |x::l=>by
  rw[gu]
  split
  .rename_i h;subst h;show dec (40::32::rq l)=_;rw[dec,if_pos ⟨rfl,rfl⟩,li l]
  .rename_i h
   split
   .rename_i h';subst h';show dec (32::41::rq l)=_;rw[dec,if_neg (by simp),if_pos ⟨rfl,rfl⟩,li l]
   .show dec (x::rq l)=_
    rw[xE x _ (λz=>h z.1) (λ⟨_,s,e⟩=>Go l s e),li l]
def Ei{a b:List Nat}(h:rq a=rq b):a=b:=by rw[<-li a,h,li]
inductive Kd|cost|things|name|body
deriving DecidableEq
inductive Pt|b(t:Bd)|c (x y:Nat)|m (k:Nat)|n (z:List Nat)
noncomputable def Pt.pv:Pt->PV
 | .b t=>t.pv
 | .c x y=>.tup [.int x,.int y]
 | .m k=>.int k
 | .n z=>.str (ofL z)
noncomputable def Pt.wd:Pt->List (List Nat)
 | .b t=>T7.wd t
 | .c x y=>[txt ((x:Int),(y:Int))]
 | .m k=>[num k]
 | .n z=>[z]
noncomputable def ci(l:List Nat):Bool:=!l.isEmpty&&decide (l.length<=6)&&(l.all λc=>decide (97<=c)&&decide (c<=122))&&decide (ofL l ∉ J8)
noncomputable def VB:Bd->Prop
 | .rest=>True
 | .pay x y=>∃v b:Nat,x=v/\y=b/\1<=b/\Nat.gcd v b=1
 | .put z m=>ci (sg z)=true/\1<=m/\m<=9
 | .use z=>ci (sg z)=true
 | .K_ a=>VB a
 | .JN a b=>VB a/\VB b
 | .K5 a b=>VB a/\VB b
 | .K7 z m a b=>ci (sg z)=true/\1<=m/\m<=9/\VB a/\VB b
noncomputable def Pt.ok:Kd->Pt->Prop
 | .body,.b t=>VB t
 | .cost,.c x y=>1<=y/\Nat.gcd x y=1
 | .things,.m k=>1<=k/\k<=9
 | .name,.n z=>ci z=true
 |_,_=>False
inductive u9:List Kd->List Pt->Prop
 |nil:u9 [] []
 |cons {k:Kd} {p:Pt} {ks:List Kd} {ps:List Pt}:Pt.ok k p->u9 ks ps->u9 (k::ks) (p::ps)
noncomputable def lO:Kd->List Nat->Option Pt
 | .cost,l=>(rn l).map λf=>.c f.1 f.2
 | .things,l=>match l with
  |[c]=>if 49<=c/\c<=57 then some (.m (c - 48)) else none
  |_=>none
 | .name,l=>if ci l=true then some (.n l) else none
 | .body,_=>none
abbrev Ws:=List (List Nat)
noncomputable def iX(r:Ws->Option (Bd×Ws)):List Kd->Ws->Option (List Pt×Ws)
 |[],W=>some ([],W)
 |k::ks,W=>
  match (if k = .body then (r W).map (λq=>(Pt.b q.1,q.2)) else (lO k (W.headD [])).map λp=>(p,W.tail))with
  |none=>none
  |some (p,W1)=>match iX r ks W1 with
   |none=>none
   |some (ps,W2)=>some (p::ps,W2)
noncomputable def tab:List (Str×List Kd):=[("pay",[.cost]),("put",[.name,.things]),("then",[.body,.body]),("either",[.body,.body]),("take",[.name,.things,.body,.body]),("often",[.body]),("use",[.name])]
noncomputable def iK(h:Str):List Pt->Bd
 |[.c x y]=>.pay x y
 |[.n z,.m k]=>.put (ofL z) k
 |[.b a,.b b]=>if h = "then" then .JN a b else .K5 a b
 |[.n z,.m k,.b a,.b b]=>.K7 (ofL z) k a b
 |[.b a]=>.K_ a
 |[.n z]=>.use (ofL z)
 |_=>.rest
noncomputable def nR:Nat->Ws->Option (Bd×Ws)
 |0,_=>none
 |n+1,W=>if W.headD []=sg "rest" then some (.rest,W.tail) else if W.headD []=[40] then
   (match tab.lookup (ofL (W.tail.headD []))with
   |none=>none
   |some ks=>match iX (nR n) ks W.tail.tail with
    |none=>none
    |some (ps,W1)=>if W1.headD []=[41] then some (iK (ofL (W.tail.headD [])) ps,W1.tail) else none) else none
def Gp{l:List Nat}{v b:Nat}(h:rn l=some (v,b)):l=txt ((v:Int),(b:Int))/\1<=b/\Nat.gcd v b=1:=by
 have hg:=sD l
 unfold rn at h
 split at h
 .rename_i a e
  split at h
  .rename_i t ht
   cases h
   rw[e]at hg
   refine⟨?_,UH _,YE _⟩
   rw[<-hg]
   show a=_
   rw[(xg ht).1,<-bx]
   exact(if_pos rfl).symm
  .cases h
 .rename_i a c e
  split at h
  .rename_i t u ht hu
   split at h
   .cases h
   .rename_i hn
    cases h
    rw[e]at hg
    refine⟨?_,by omega,by omega⟩
    rw[<-hg]
    show a++47::c=_
    rw[(xg ht).1,(xg hu).1,<-bx,<-bx]
    exact(if_neg (by show ¬(b:Int)=1;omega)).symm
  .cases h
 .cases h
def sI{k:Nat}(h:k < 10):num (k:Int)=[48+k]:=by rw[bx,Lc h]
def nT{k:Kd}{l:List Nat}{p:Pt}(h:lO k l=some p):p.ok k/\p.wd=[l]:=by
 cases k with
 |cost=>
  change (rn l).map (λf=>Pt.c f.1 f.2)=some p at h
  cases e:rn l with
  |none=>rw[e]at h;cases h
  |some f=>
   rw[e]at h
   cases h
   obtain⟨h1,h2,h3⟩:=Gp (v:=f.1) (b:=f.2) e
   exact⟨⟨h2,h3⟩,by rw[Pt.wd,<-h1]⟩
 |things=>
  unfold lO at h
  dsimp only at h
  split at h
  .rename_i c
   split at h
   .rename_i hc
    cases h
    refine⟨⟨by omega,by omega⟩,?_⟩
    rw[Pt.wd,sI (by omega)]
    congr 2
    omega
   .cases h
  .cases h
 |name=>
  unfold lO at h
  dsimp only at h
  split at h
  .rename_i hc;cases h;exact⟨hc,rfl⟩
  .cases h
 |body=>cases h
def AL(k:Kd):lO k []=none:=by
 cases k with
 |cost=>
  have:rn []=none:=by
   unfold rn
   rw[show sp []=[[]] from rfl]
   dsimp only
   rw[ke (λz=>z.1.1 rfl)]
  show(rn []).map (λf=>Pt.c f.1 f.2)=none
  rw[this];rfl
 |things=>rfl
 |name=>rfl
 |body=>rfl
theorem nU{r:Ws->Option (Bd×Ws)}(hr:∀W t B,r W=some (t,B)->W=wd t++B/\VB t):∀(ks:List Kd)(W:Ws)(ps:List Pt)(B:Ws),iX r ks W=some (ps,B)->W=ps.flatMap Pt.wd++B/\u9 ks ps
 |[],W,ps,B,h=>by cases h;exact⟨rfl,.nil⟩
 |k::ks,W,ps,B,h=>by
  unfold iX at h
  split at h
  .cases h
  .rename_i p W1 e1
   split at h
   .cases h
   .rename_i ps' W2 e2
    cases h
    obtain⟨q1,q2⟩:=nU hr ks W1 ps' _ e2
    have:W=p.wd++W1/\p.ok k:=by
     split at e1
     .rename_i hk
      subst hk
      cases e:r W with
      |none=>rw[e]at e1;cases e1
      |some q=>
       rw[e]at e1
       cases e1
       exact hr W q.1 q.2 e
     .cases e:lO k (W.headD [])with
      |none=>rw[e]at e1;cases e1
      |some q=>
       rw[e]at e1
       cases e1
       obtain⟨h1,h2⟩:=nT e
       refine⟨?_,h1⟩
       rw[h2]
       cases W with
       |nil=>rw[show([]:Ws).headD []=[] from rfl,AL]at e;cases e
       |cons w W=>rfl
    refine⟨?_,.cons this.2 q2⟩
    rw[this.1,q1,Xb,U8]
def kg{h:Str}{ks:List Kd}(e:tab.lookup h=some ks):(h,ks)∈tab:=Wn e
def lj{h:Str}{ks:List Kd}{ps:List Pt}(e:tab.lookup h=some ks)(g:u9 ks ps):VB (iK h ps)/\wd (iK h ps)=[40]::sg h::(ps.flatMap Pt.wd++[[41]])/\(iK h ps).pv = .tup (.str h::ps.map Pt.pv):=by
 have hm:=kg e
 simp only[tab,UI,YF,UW,Vy]at hm
 rcases hm with⟨rfl,rfl⟩|⟨rfl,rfl⟩|⟨rfl,rfl⟩|⟨rfl,rfl⟩|⟨rfl,rfl⟩|⟨rfl,rfl⟩|⟨rfl,rfl⟩
 .cases g with
  |@cons _ p _ _ h1 g=>cases g;cases p with
   |c x y=>exact⟨⟨x,y,rfl,rfl,h1.1,h1.2⟩,rfl,rfl⟩
   |_=>exact h1.elim
 .cases g with
  |@cons _ p _ _ h1 g=>cases g with
   |@cons _ q _ _ h2 g=>cases g;cases p with
    |n z=>cases q with
     |m k=>exact⟨⟨h1,by have:=h2.1;omega,by have:=h2.2;omega⟩,rfl,rfl⟩
     |_=>exact h2.elim
    |_=>exact h1.elim
 .cases g with
  |@cons _ p _ _ h1 g=>cases g with
   |@cons _ q _ _ h2 g=>cases g;cases p with
    |b a=>cases q with
     |b c=>exact⟨⟨h1,h2⟩,by simp[iK,wd,Pt.wd,U8],rfl⟩
     |_=>exact h2.elim
    |_=>exact h1.elim
 .cases g with
  |@cons _ p _ _ h1 g=>cases g with
   |@cons _ q _ _ h2 g=>cases g;cases p with
    |b a=>cases q with
     |b c=>
      have:iK "either" [.b a,.b c] = .K5 a c:=by rw[iK,if_neg (by simp[bD])]
      rw[this]
      exact⟨⟨h1,h2⟩,by simp[wd,Pt.wd,U8],rfl⟩
     |_=>exact h2.elim
    |_=>exact h1.elim
 .cases g with
  |@cons _ p _ _ h1 g=>cases g with
   |@cons _ q _ _ h2 g=>cases g with
    |@cons _ r _ _ h3 g=>cases g with
     |@cons _ s _ _ h4 g=>cases g;cases p with
      |n z=>cases q with
       |m k=>cases r with
        |b a=>cases s with
         |b c=>exact⟨⟨h1,by have:=h2.1;omega,by have:=h2.2;omega,h3,h4⟩,by simp[iK,wd,Pt.wd,U8,sg,ofL],rfl⟩
         |_=>exact h4.elim
        |_=>exact h3.elim
       |_=>exact h2.elim
      |_=>exact h1.elim
 .cases g with
  |@cons _ p _ _ h1 g=>cases g;cases p with
   |b a=>exact⟨h1,by simp[iK,wd,Pt.wd,U8],rfl⟩
   |_=>exact h1.elim
 .cases g with
  |@cons _ p _ _ h1 g=>cases g;cases p with
   |n z=>exact⟨h1,rfl,rfl⟩
   |_=>exact h1.elim
def kh{W:Ws}{l:List Nat}(h:W.headD []=l)(hl:l≠[]):W=l::W.tail:=by
 cases W with
 |nil=>exact absurd h.symm hl
 |cons w W=>simp at h;rw[h];rfl
theorem nV:∀(n:Nat)(W:Ws)(t:Bd)(B:Ws),nR n W=some (t,B)->W=wd t++B/\VB t
 |0,_,_,_,h=>by cases h
 |n+1,W,t,B,h=>by
  unfold nR at h
  split at h
  .rename_i e
   cases h
   exact⟨kh e (by decide),trivial⟩
  .split at h
   .rename_i e0
    split at h
    .cases h
    .rename_i ks ek
     split at h
     .cases h
     .rename_i ps W1 er
      split at h
      .rename_i e1
       cases h
       obtain⟨q1,q2⟩:=nU (nV n) ks _ _ _ er
       obtain⟨a1,a2,-⟩:=lj ek q2
       refine⟨?_,a1⟩
       obtain⟨V,rfl⟩:∃V,W=[40]::V:=⟨_,kh e0 (by decide)⟩
       cases V with
       |nil=>exact absurd ek (by rw[show tab.lookup (ofL (([[40]]:Ws).tail.headD []))=none from by decide];simp)
       |cons w V=>
        rw[a2]
        change V=_ at q1
        show[40]::w::V=_
        rw[q1,kh e1 (by decide)]
        simp[sg,ofL]
      .cases h
   .cases h
def uR(n:Nat):47 ∉ dn n:=λh=>by have:=nG n _ h;omega
def Ej{n m:Nat}(h:1<=m)(g:Nat.gcd n m=1):rn (txt ((n:Int),(m:Int)))=some (n,m):=by
 by_cases e:m=1
 .subst e
  have e1:txt ((n:Int),((1:Nat):Int))=dn n:=by rw[<-bx];exact if_pos rfl
  rw[e1]
  unfold rn
  rw[gk _ (uR n)]
  dsimp only
  rw[w_]
 .have e1:txt ((n:Int),(m:Int))=dn n++47::dn m:=by rw[<-bx,<-bx];exact if_neg (by show ¬(m:Int)=1;omega)
  rw[e1]
  unfold rn
  rw[nF _ _ (uR n),gk _ (uR m)]
  dsimp only
  rw[w_,w_]
  dsimp only
  rw[if_neg (by omega)]
def xF{k:Kd}{p:Pt}(h:p.ok k)(hk:k ≠ .body):∃l,p.wd=[l]/\lO k l=some p:=by
 cases k with
 |body=>exact absurd rfl hk
 |cost=>cases p with
  |c x y=>exact⟨_,rfl,by show(rn _).map _=_;rw[Ej h.1 h.2];rfl⟩
  |_=>exact h.elim
 |things=>cases p with
  |m k=>
   refine⟨_,rfl,?_⟩
   have h1:=h.1
   have h2:=h.2
   rw[sI (by omega)]
   show(if 49<=48+k/\48+k<=57 then some (Pt.m (48+k - 48)) else none)=_
   rw[if_pos (by omega),show 48+k - 48=k by omega]
  |_=>exact h.elim
 |name=>cases p with
  |n z=>exact⟨_,rfl,if_pos h⟩
  |_=>exact h.elim
theorem xG{r:Ws->Option (Bd×Ws)}:∀{ks:List Kd}{ps:List Pt}(B:Ws),u9 ks ps->(∀t,Pt.b t∈ps->∀B,r (wd t++B)=some (t,B))->iX r ks (ps.flatMap Pt.wd++B)=some (ps,B)
 |_,_,B,.nil,_=>rfl
 |k::ks,p::ps,B,.cons h1 h2,hr=>by
  have ih:=xG (r:=r) B h2 λt ht=>hr t (UP _ ht)
  unfold iX
  rw[Xb,U8]
  by_cases hk:k = .body
  .subst hk
   cases p with
   |b t=>
    rw[if_pos rfl,show Pt.wd (.b t)=wd t from rfl,hr t (by simp)]
    show(match iX r ks (ps.flatMap Pt.wd++B)with|none=>none|some (ps',W2)=>some (Pt.b t::ps',W2))=_
    rw[ih]
   |_=>exact h1.elim
  .obtain⟨l,e1,e2⟩:=xF h1 hk
   rw[if_neg hk,e1,show([l]++(ps.flatMap Pt.wd++B)).headD []=l from rfl,e2]
   show(match iX r ks (ps.flatMap Pt.wd++B)with|none=>none|some (ps',W2)=>some (p::ps',W2))=_
   rw[ih]
noncomputable def dQ:Bd->List Pt
 | .rest=>[]
 | .pay x y=>[.c x.toNat y.toNat]
 | .put z m=>[.n (sg z),.m m.toNat]
 | .use z=>[.n (sg z)]
 | .K_ a=>[.b a]
 | .JN a b=>[.b a,.b b]
 | .K5 a b=>[.b a,.b b]
 | .K7 z m a b=>[.n (sg z),.m m.toNat,.b a,.b b]
noncomputable def He:Bd->List Kd
 | .rest=>[]
 | .pay x y=>[.cost]
 | .put z m=>[.name,.things]
 | .use z=>[.name]
 | .K_ a=>[.body]
 | .JN a b=>[.body,.body]
 | .K5 a b=>[.body,.body]
 | .K7 z m a b=>[.name,.things,.body,.body]
def rA{t:Bd}(h:t ≠ .rest):tab.lookup t.hd=some (He t):=by
 cases t with
 |rest=>exact absurd rfl h
 |_=>simp only[Bd.hd,He];decide +kernel
def Gq{m:Int}(h1:1<=m)(h2:m<=9):Pt.ok .things (.m m.toNat):=⟨by omega,by omega⟩
def ll{t:Bd}(g:VB t):u9 (He t) (dQ t):=by
 cases t with
 |rest=>exact .nil
 |pay x y=>obtain⟨v,b,rfl,rfl,h1,h2⟩:=g;exact .cons ⟨h1,h2⟩ .nil
 |put z m=>exact .cons g.1 (.cons (Gq g.2.1 g.2.2) .nil)
 |use z=>exact .cons g .nil
 |K_ a=>exact .cons g .nil
 |JN a b=>exact .cons g.1 (.cons g.2 .nil)
 |K5 a b=>exact .cons g.1 (.cons g.2 .nil)
 |K7 z m a b=>exact .cons g.1 (.cons (Gq g.2.1 g.2.2.1) (.cons g.2.2.2.1 (.cons g.2.2.2.2 .nil)))
def eI(z:Str):ofL (sg z)=z:=du z
def lm{t:Bd}(g:VB t):iK t.hd (dQ t)=t:=by
 cases t with
 |rest=>rfl
 |pay x y=>obtain⟨v,b,rfl,rfl,h1,h2⟩:=g;rfl
 |put z m=>show Bd.put (ofL (sg z)) (m.toNat:Int)=_;rw[eI,Wz (by have:=g.2.1;omega)]
 |use z=>show Bd.use (ofL (sg z))=_;rw[eI]
 |K_ a=>rfl
 |JN a b=>rfl
 |K5 a b=>show iK "either" [.b a,.b b]=_;rw[iK,if_neg (by simp[bD])]
 |K7 z m a b=>show Bd.K7 (ofL (sg z)) (m.toNat:Int) a b=_;rw[eI,Wz (by have:=g.2.1;omega)]
def nW{t:Bd}(g:VB t)(h:t ≠ .rest):wd t=[40]::sg t.hd::((dQ t).flatMap Pt.wd++[[41]]):=by
 have:=(lj (rA h) (ll g)).2.1
 rwa [lm g]at this
def nX{t u:Bd}(g:VB t)(h:Pt.b u∈dQ t):VB u/\u.dep+1<=t.dep:=by
 cases t with
 |rest=>cases h
 |pay x y=>simp[dQ]at h
 |put z m=>simp[dQ]at h
 |use z=>simp[dQ]at h
 |K_ a=>simp[dQ]at h;subst h;exact⟨g,UH _⟩
 |JN a b=>
  simp[dQ]at h
  rcases h with rfl|rfl
  .exact⟨g.1,by simp only[Bd.dep];omega⟩
  .exact⟨g.2,by simp only[Bd.dep];omega⟩
 |K5 a b=>
  simp[dQ]at h
  rcases h with rfl|rfl
  .exact⟨g.1,by simp only[Bd.dep];omega⟩
  .exact⟨g.2,by simp only[Bd.dep];omega⟩
 |K7 z m a b=>
  simp[dQ]at h
  rcases h with rfl|rfl
  .exact⟨g.2.2.2.1,by simp only[Bd.dep];omega⟩
  .exact⟨g.2.2.2.2,by simp only[Bd.dep];omega⟩
def AM(t:Bd):1<=t.dep:=by cases t<;>simp only[Bd.dep]<;>omega
theorem xH:∀(n:Nat)(t:Bd)(B:Ws),VB t->t.dep<=n->nR n (wd t++B)=some (t,B)
 |0,t,_,_,h=>by have:=AM t;omega
 |n+1,t,B,g,h=>by
  by_cases ht:t = .rest
  .subst ht;exact if_pos rfl
  .have e:=xG (r:=nR n) ([41]::B) (ll g) λu hu B=>by
    obtain⟨h1,h2⟩:=nX g hu
    exact xH n u B h1 (by omega)
   rw[nW g ht]
   have eW:[40]::sg t.hd::((dQ t).flatMap Pt.wd++[[41]])++B=[40]::sg t.hd::((dQ t).flatMap Pt.wd++([41]::B)):=by simp
   rw[eW]
   unfold nR
   refine(if_neg (show ¬([40]:List Nat)=sg "rest" from by decide)).trans ((if_pos rfl).trans ?_)
   show(match tab.lookup (ofL (sg t.hd))with|none=>none|some ks=>match iX (nR n) ks ((dQ t).flatMap Pt.wd++([41]::B))with
    |none=>none
    |some (ps,W1)=>if W1.headD []=[41] then some (iK (ofL (sg t.hd)) ps,W1.tail) else none)=_
   rw[eI,rA ht]
   dsimp only
   rw[e]
   show(if ([41]:List Nat)=[41] then some (iK t.hd (dQ t),B) else none)=_
   rw[if_pos rfl,lm g]
def lp{l:List Nat}(h:∀c∈l,45<=c):Wo l:=⟨λq=>by have:=h _ q;omega,λq=>by have:=h _ q;omega,λq=>by have:=h _ q;omega,λq=>by have:=h _ q;omega⟩
def xI{l:List Nat}(h:ci l=true):∀c∈l,45<=c:=by
 unfold ci at h
 simp only[Vl,VD,UY]at h
 intro c hc
 have:=(h.1.2 c hc).1
 omega
def Gr(n:Nat):∀c∈dn n,45<=c:=λc hc=>by have:=nG n c hc;omega
def lq{m:Int}(h:0<=m):∀c∈num m,45<=c:=by
 obtain⟨n,rfl⟩:∃n:Nat,m=(n:Int):=⟨m.toNat,by omega⟩
 rw[bx]
 exact Gr n
def Ek(v b:Nat):∀c∈txt ((v:Int),(b:Int)),45<=c:=by
 intro c hc
 unfold txt at hc
 split at hc
 .exact lq (by simp) c hc
 .rcases UT.mp hc with hc|hc
  .exact lq (by simp) c hc
  .rcases UI.mp hc with rfl|hc
   .decide
   .exact lq (by simp) c hc
theorem gN:∀t:Bd,VB t->Wf t
 | .rest,_=>trivial
 | .pay x y,g=>by obtain⟨v,b,rfl,rfl,-,-⟩:=g;exact lp (Ek v b)
 | .put z m,g=>⟨lp (xI g.1),lp (lq (by have:=g.2.1;omega))⟩
 | .use z,g=>lp (xI g)
 | .K_ a,g=>gN a g
 | .JN a b,g=>⟨gN a g.1,gN b g.2⟩
 | .K5 a b,g=>⟨gN a g.1,gN b g.2⟩
 | .K7 z m a b,g=>⟨lp (xI g.1),lp (lq (by have:=g.2.1;omega)),gN a g.2.2.2.1,gN b g.2.2.2.2⟩
def dR(c:Nat)(l:List Nat):gl [c] (JK c l)=l:=by
 have h:=k_ (ofL l) c
 rw[pS,VF,toL]at h
 have e:(JK c l).map ((λy:Str=>y.cps.toList) ∘ ofL)=JK c l:=by(conv=>rhs;rw[<-YD (JK c l)]);rfl
 rw[e]at h
 exact h
noncomputable def Nf(l:List Nat):Ws:=JK 32 (rq l)
def BW{t:Bd}(g:VB t):Nf (tx t)=wd t:=by
 unfold Nf
 rw[iJ t (gN t g),rh 32 (wd t) (pT t) (dE t (gN t g))]
def Gs{t:Bd}(g:VB t){l:List Nat}(h:Nf l=wd t):l=tx t:=by
 apply Ei
 rw[iJ t (gN t g),<-h]
 exact(dR 32 _).symm
noncomputable def l0(n:Nat)(l:List Nat):Option Bd:=match nR n (Nf l)with
 |some (t,[])=>some t
 |_=>none
def nY{n:Nat}{l:List Nat}{t:Bd}(h:l0 n l=some t):VB t/\l=tx t:=by
 unfold l0 at h
 split at h
 .rename_i u e
  cases h
  obtain⟨h1,h2⟩:=nV _ _ _ _ e
  rw[Vp]at h1
  exact⟨h2,Gs h2 h1⟩
 .cases h
def El{n:Nat}{t:Bd}(g:VB t)(h:t.dep<=n):l0 n (tx t)=some t:=by
 unfold l0
 rw[BW g]
 have:=xH n t [] g h
 rw[Vp]at this
 rw[this]
theorem fH:∀t:Bd,t.dep<=(wd t).count [40]+1
 | .rest=>by simp[Bd.dep]
 | .pay _ _=>by simp[Bd.dep]
 | .put _ _=>by simp[Bd.dep]
 | .use _=>by simp[Bd.dep]
 | .K_ a=>by have:=fH a;simp only[Bd.dep,wd,Vb,VM];omega
 | .JN a b=>by have:=fH a;have:=fH b;simp only[Bd.dep,wd,Vb,VM];omega
 | .K5 a b=>by have:=fH a;have:=fH b;simp only[Bd.dep,wd,Vb,VM];omega
 | .K7 _ _ a b=>by have:=fH a;have:=fH b;simp only[Bd.dep,wd,Vb,VM];omega
def AN{n:Nat}{l:List Nat}(h:(Nf l).count [40] < n){t:Bd}:l0 n l=some t↔VB t/\l=tx t:=by
 refine⟨nY,λ⟨g,e⟩=>?_⟩
 subst e
 refine El g ?_
 rw[BW g]at h
 have:=fH t
 omega
noncomputable def La:List Nat->List Nat->Ws
 |run,[]=>if run=[] then [] else [run]
 |run,c::l=>if Unicode.isSpace c=true then (if run=[] then La [] l else run::La [] l) else La (run++[c]) l
theorem iL:∀(l:List Nat)(ws:Vs)(run:List Nat),KWd.fin (l.foldl KWd.step (ws,ofL run))=ws++(La run l).map ofL
 |[],ws,run=>by
  show KWd.fin (ws,ofL run)=_
  unfold KWd.fin La
  dsimp only
  rw[JL]
  by_cases h:run=[]
  .subst h;simp
  .rw[if_neg h,if_neg (λz=>h (Vi.mp z))];rfl
 |c::l,ws,run=>by
  rw[List.foldl_cons]
  unfold KWd.step
  dsimp only
  rw[JL]
  unfold La
  by_cases hc:Unicode.isSpace c=true
  .rw[if_pos hc,if_pos hc]
   by_cases h:run=[]
   .subst h
    rw[if_pos (show([]:List Nat).length=0 from rfl),if_pos rfl]
    exact iL l ws []
   .rw[if_neg h,if_neg (λz=>h (Vi.mp z))]
    refine(iL l (ws++[ofL run]) []).trans ?_
    simp
  .rw[if_neg hc,if_neg hc]
   have e:ofL run++(⟨#[c]⟩:Str)=ofL (run++[c]):=by
    show Str.mk (run.toArray++#[c])=Str.mk (run++[c]).toArray
    simp
   rw[e]
   exact iL l ws (run++[c])
def uS(l:List Nat):Txt.words (ofL l)=(La [] l).map ofL:=by
 rw[KWd.words_scan]
 exact iL l [] []
def Nb(l:List Nat):Prop:=∀c∈l,Unicode.isSpace c=false
def xJ{l:List Nat}(h:∀c∈l,40<=c/\c<=126):Nb l:=by
 have:∀c < 127,40<=c->Unicode.isSpace c=false:=by decide +kernel
 exact λc hc=>this c (by have:=(h c hc).2;omega) (h c hc).1
def Bl(r:List Nat):Prop:=r=[]\/∃s,r=32::s
def Gu:Unicode.isSpace 32=true:=by decide +kernel
theorem sJ:∀(p run r:List Nat),Nb p->run++p≠[]->Bl r->La run (p++r)=(run++p)::La [] r
 |[],run,r,_,h,hr=>by
  rw[Vp]at h ⊢
  rcases hr with rfl|⟨s,rfl⟩
  .simp[La,h]
  .simp[La,h,Gu]
 |c::p,run,r,hp,h,hr=>by
  have hc:¬Unicode.isSpace c=true:=by rw[hp c (by simp)];simp
  rw[V5,La,if_neg hc,sJ p (run++[c]) r (λd hd=>hp d (by simp[hd])) (by simp) hr]
  simp
def lv{p r:List Nat}(hp:Nb p)(h:p≠[])(hr:Bl r):La [] (p++r)=p::La [] r:=sJ p [] r hp h hr
def lw(r:List Nat):La [] (32::r)=La [] r:=by rw[La,if_pos Gu,if_pos rfl]
noncomputable def rr(l:List Nat):List Nat:=rp 41 [32,41,32] (rp 40 [32,40,32] l)
def ly(a b:List Nat):rr (a++b)=rr a++rr b:=by simp[rr,jh]
def Gv{l:List Nat}(h:Wo l):rr l=l:=by rw[rr,cD 40 _ l h.2.1,cD 41 _ l h.2.2.1]
def It(x:List Nat)(w:Ws):Prop:=∀r,Bl r->La [] (rr x++r)=w++La [] r
def iM{p:List Nat}(h:∀c∈p,45<=c/\c<=126)(hn:p≠[]):It p [p]:=λr hr=>by
 rw[Gv (lp λc hc=>(h c hc).1),lv (xJ λc hc=>by have:=h c hc;omega) hn hr]
 rfl
theorem BX:∀(P:List (List Nat×Ws)),P≠[]->(∀q∈P,It q.1 q.2)->It (gl [32] (P.map Prod.fst)) (P.flatMap Prod.snd)
 |[],h,_=>absurd rfl h
 |[q],_,h=>by
  intro r hr
  rw[UE,Ve,bv,h q (by simp) r hr]
  simp
 |q::q'::P,_,h=>by
  intro r hr
  rw[UE,aX [32] q.1 (by simp),ly,ly,U8,U8,show rr [32]=[32] from rfl,VS,h q (by simp) _ (.inr ⟨_,rfl⟩)]
  rw[lw,BX (q'::P) (by simp) (λx hx=>h x (by simp[hx])) r hr]
  simp
def Gw{x:List Nat}{w:Ws}(h:It x w):It ([40]++x++[41]) ([40]::(w++[[41]])):=λr hr=>by
 rw[ly,ly,show rr [40]=[32,40,32] from rfl,show rr [41]=[32,41,32] from rfl]
 have T1:Nb [40]:=xJ (by simp)
 have T2:Nb [41]:=xJ (by simp)
 rw[show[32,40,32]++rr x++[32,41,32]++r=32::([40]++(32::(rr x++(32::([41]++(32::r))))))from by simp]
 rw[lw,lv T1 (by simp) (.inr ⟨_,rfl⟩),lw,h _ (.inr ⟨_,rfl⟩),lw,lv T2 (by simp) (.inr ⟨_,rfl⟩),lw]
 simp
def xK{l:List Nat}(h:ci l=true):∀c∈l,45<=c/\c<=126:=by
 unfold ci at h
 simp only[Vl,VD,UY]at h
 intro c hc
 have:=h.1.2 c hc
 omega
def Gx{l:List Nat}(h:ci l=true):l≠[]:=λe=>by subst e;simp[ci]at h
def Gy(n:Nat):∀c∈dn n,45<=c/\c<=126:=λc hc=>by have:=nG n c hc;omega
def ji{m:Int}(h:0<=m):(∀c∈num m,45<=c/\c<=126)/\num m≠[]:=by
 obtain⟨n,rfl⟩:∃n:Nat,m=(n:Int):=⟨m.toNat,by omega⟩
 rw[bx]
 exact⟨Gy n,wY n⟩
def nZ(v b:Nat):(∀c∈txt ((v:Int),(b:Int)),45<=c/\c<=126)/\txt ((v:Int),(b:Int))≠[]:=by
 have h1:=ji (m:=(v:Int)) (by simp)
 have h2:=ji (m:=(b:Int)) (by simp)
 unfold txt
 split
 .exact h1
 .refine⟨λc hc=>?_,by simp⟩
  rcases UT.mp hc with hc|hc
  .exact h1.1 c hc
  .rcases UI.mp hc with rfl|hc
   .decide
   .exact h2.1 c hc
noncomputable def Iw:Pt->List Nat
 | .b t=>tx t
 | .c x y=>txt ((x:Int),(y:Int))
 | .m k=>num k
 | .n z=>z
def xL(t:Bd):(∀c∈sg t.hd,45<=c/\c<=126)/\sg t.hd≠[]:=by cases t<;>simp only[Bd.hd]<;>decide +kernel
def AO{t:Bd}(g:VB t)(h:t ≠ .rest):tx t=[40]++gl [32] (sg t.hd::(dQ t).map Iw)++[41]:=by
 cases t with
 |rest=>exact absurd rfl h
 |pay x y=>obtain⟨v,b,rfl,rfl,h1,h2⟩:=g;rfl
 |put z m=>show _=[40]++gl [32] [sg "put",sg z,num (m.toNat:Int)]++[41];rw[Wz (by have:=g.2.1;omega)];rfl
 |use z=>rfl
 |K_ a=>rfl
 |JN a b=>rfl
 |K5 a b=>rfl
 |K7 z m a b=>show _=[40]++gl [32] [sg "take",sg z,num (m.toNat:Int),tx a,tx b]++[41];rw[Wz (by have:=g.2.1;omega)];rfl
def Gz{k:Kd}{p:Pt}(h:p.ok k)(hb:∀t,p = .b t->It (tx t) (wd t)):It (Iw p) p.wd:=by
 cases p with
 |b t=>exact hb t rfl
 |c x y=>exact iM (nZ x y).1 (nZ x y).2
 |m k=>exact iM (ji (by simp)).1 (ji (by simp)).2
 |n z=>cases k with
  |name=>exact iM (xK h) (Gx h)
  |_=>exact h.elim
def sK{ks:List Kd}{ps:List Pt}(h:u9 ks ps):∀p∈ps,∃k,p.ok k:=by
 induction h with
 |nil=>intro p hp;cases hp
 |cons h1 _ ih=>
  intro p hp
  rcases UI.mp hp with rfl|hp
  .exact⟨_,h1⟩
  .exact ih p hp
theorem BY:∀(n:Nat)(t:Bd),t.dep<=n->VB t->It (tx t) (wd t)
 |0,t,h,_=>by have:=AM t;omega
 |n+1,t,h,g=>by
  by_cases ht:t = .rest
  .subst ht;exact iM (by decide +kernel) (by decide +kernel)
  .rw[AO g ht,nW g ht]
   have e:=BX ((sg t.hd,[sg t.hd])::(dQ t).map λp=>(Iw p,p.wd)) (by simp) (λq hq=>by
    rcases UI.mp hq with rfl|hq
    .exact iM (xL t).1 (xL t).2
    .obtain⟨p,hp,rfl⟩:=Vf.mp hq
     obtain⟨k,hk⟩:=sK (ll g) p hp
     refine Gz hk λu hu=>?_
     subst hu
     obtain⟨g1,g2⟩:=nX g hp
     exact BY n u (by omega) g1)
   have:=Gw e
   simp only[UE,VF,Xb,List.flatMap_map,List.singleton_append,List.cons_append]at this
   exact this
noncomputable def toks(l:List Nat):Ws:=La [] (rr l)
def AQ{t:Bd}(g:VB t):toks (tx t)=wd t:=by
 have:=BY _ t (UH _) g [] (.inl rfl)
 rw[Vp,show La [] []=[] from rfl,Vp]at this
 exact this
inductive Tr where
 |w (l:List Nat)
 |n (ts:List Tr)
noncomputable def rB(w:List Nat)(st:List (List Tr)):Option (List (List Tr)):=if w=[40] then some ([]::st) else if w=[41] then (match st with
  |top::T4::rest=>some ((T4++[.n top])::rest)
  |_=>none) else (match st with
  |top::rest=>some ((top++[.w w])::rest)
  |[]=>none)
noncomputable def gE:Ws->List (List Tr)->Option (List (List Tr))
 |[],st=>some st
 |w::r,st=>match rB w st with
  |some st'=>gE r st'
  |none=>none
noncomputable def Em:Option (List (List Tr))->Option Tr
 |some [[t]]=>some t
 |_=>none
noncomputable def tree(l:List Nat):Option Tr:=Em (gE (toks l) [[]])
mutual
noncomputable def n6:Bd->Tr
 | .rest=>.w (sg "rest")
 | .pay x y=>.n [.w (sg "pay"),.w (txt (x,y))]
 | .put z m=>.n [.w (sg "put"),.w (sg z),.w (num m)]
 | .use z=>.n [.w (sg "use"),.w (sg z)]
 | .K_ a=>.n [.w (sg "often"),n6 a]
 | .JN a b=>.n [.w (sg "then"),n6 a,n6 b]
 | .K5 a b=>.n [.w (sg "either"),n6 a,n6 b]
 | .K7 z m a b=>.n [.w (sg "take"),.w (sg z),.w (num m),n6 a,n6 b]
end
noncomputable def BZ:Pt->Tr
 | .b t=>n6 t
 | .c x y=>.w (txt ((x:Int),(y:Int)))
 | .m k=>.w (num k)
 | .n z=>.w z
def sL{t:Bd}(g:VB t)(h:t ≠ .rest):n6 t = .n (.w (sg t.hd)::(dQ t).map BZ):=by
 cases t with
 |rest=>exact absurd rfl h
 |pay x y=>obtain⟨v,b,rfl,rfl,h1,h2⟩:=g;rfl
 |put z m=>show _=Tr.n [.w (sg "put"),.w (sg z),.w (num (m.toNat:Int))];rw[Wz (by have:=g.2.1;omega)];rfl
 |use z=>rfl
 |K_ a=>rfl
 |JN a b=>rfl
 |K5 a b=>rfl
 |K7 z m a b=>show _=Tr.n [.w (sg "take"),.w (sg z),.w (num (m.toNat:Int)),n6 a,n6 b];rw[Wz (by have:=g.2.1;omega)];rfl
def Pu(w:Ws)(t:Tr):Prop:=∀r top rest,gE (w++r) (top::rest)=gE r ((top++[t])::rest)
def iN{p:List Nat}(h:∀c∈p,45<=c/\c<=126):Pu [p] (.w p):=λr top rest=>by
 have n1:p≠[40]:=λe=>by subst e;have:=h 40 (by simp);omega
 have n2:p≠[41]:=λe=>by subst e;have:=h 41 (by simp);omega
 rw[VS,gE,show rB p (top::rest)=some ((top++[.w p])::rest)from by unfold rB;rw[if_neg n1,if_neg n2]]
theorem sM:∀(P:List (Ws×Tr)),(∀q∈P,Pu q.1 q.2)->∀r top rest,gE (P.flatMap Prod.fst++r) (top::rest)=gE r ((top++P.map Prod.snd)::rest)
 |[],_,r,top,rest=>by simp
 |q::P,h,r,top,rest=>by
  rw[Xb,U8,h q (by simp),sM P (λx hx=>h x (by simp[hx]))]
  simp
def GA{P:List (Ws×Tr)}(h:∀q∈P,Pu q.1 q.2):Pu ([40]::(P.flatMap Prod.fst++[[41]])) (.n (P.map Prod.snd)):=λr top rest=>by
 rw[V5,gE]
 show gE (P.flatMap Prod.fst++[[41]]++r) ([]::top::rest)=_
 rw[U8,sM P h,VS,gE]
 rfl
def GB{k:Kd}{p:Pt}(h:p.ok k)(hb:∀t,p = .b t->Pu (wd t) (n6 t)):Pu p.wd (BZ p):=by
 cases p with
 |b t=>exact hb t rfl
 |c x y=>exact iN (nZ x y).1
 |m k=>exact iN (ji (by simp)).1
 |n z=>cases k with
  |name=>exact iN (xK h)
  |_=>exact h.elim
theorem B1:∀(n:Nat)(t:Bd),t.dep<=n->VB t->Pu (wd t) (n6 t)
 |0,t,h,_=>by have:=AM t;omega
 |n+1,t,h,g=>by
  by_cases ht:t = .rest
  .subst ht;exact iN (by decide +kernel)
  .rw[sL g ht,nW g ht]
   have:=GA (P:=([sg t.hd],.w (sg t.hd))::(dQ t).map λp=>(p.wd,BZ p)) (λq hq=>by
    rcases UI.mp hq with rfl|hq
    .exact iN (xL t).1
    .obtain⟨p,hp,rfl⟩:=Vf.mp hq
     obtain⟨k,hk⟩:=sK (ll g) p hp
     refine GB hk λu hu=>?_
     subst hu
     obtain⟨g1,g2⟩:=nX g hp
     exact B1 n u (by omega) g1)
   simp only[UE,VF,Xb,List.flatMap_map,List.singleton_append,List.cons_append]at this
   exact this
def AR{t:Bd}(g:VB t):tree (tx t)=some (n6 t):=by
 unfold tree
 rw[AQ g]
 have:=B1 _ t (UH _) g [] [] []
 rw[Vp]at this
 rw[this]
 rfl
open Classical in
noncomputable def gP(l:List Nat):Option Pt:=if ∀p∈sp l,u8 p then (match sp l with
 |[h]=>some (.c (digitsVal h) 1)
 |[h,u]=>if digitsVal u=0 then none else some (.c (digitsVal h / Nat.gcd (digitsVal h) (digitsVal u)) (digitsVal u / Nat.gcd (digitsVal h) (digitsVal u)))
 |_=>none) else none
noncomputable def IZ:Kd->List Nat->Option Pt
 | .cost,l=>gP l
 |k,l=>lO k l
noncomputable def oR:Kd->Tr×Option Bd->Option Pt
 | .body,q=>q.2.map .b
 |k,(.w l,_)=>IZ k l
 |_,(.n _,_)=>none
noncomputable def mF:List Kd->List (Tr×Option Bd)->Option (List Pt)
 |[],_=>some []
 |_,[]=>some []
 |k::ks,q::r=>match oR k q,mF ks r with
  |some p,some ps=>some (p::ps)
  |_,_=>none
noncomputable def xM:List (Tr×Option Bd)->Option Bd
 |(.w h,_)::r=>match tab.lookup (ofL h)with
  |some ks=>if r.length=ks.length then (mF ks r).map (iK (ofL h)) else none
  |none=>none
 |_=>none
mutual
noncomputable def dB:Tr->Option Bd
 | .w l=>if l=sg "rest" then some .rest else none
 | .n ts=>xM (bofs ts)
noncomputable def bofs:List Tr->List (Tr×Option Bd)
 |[]=>[]
 |t::ts=>(t,dB t)::bofs ts
end
theorem fI:∀ts:List Tr,bofs ts=ts.map λt=>(t,dB t)
 |[]=>by rw[bofs];rfl
 |t::ts=>by rw[bofs,fI ts];rfl
def En{k:Kd}{p:Pt}(h:p.ok k)(hk:k ≠ .body):oR k (BZ p,none)=some p:=by
 cases k with
 |body=>exact absurd rfl hk
 |cost=>cases p with
  |c x y=>
   show gP (txt ((x:Int),(y:Int)))=_
   unfold gP
   by_cases e:y=1
   .subst e
    have e1:txt ((x:Int),((1:Nat):Int))=dn x:=by rw[<-bx];exact if_pos rfl
    rw[e1,gk _ (uR x),if_pos (by intro p hp;rw[UM.mp hp];exact Oe x)]
    dsimp only
    rw[nH]
   .have e1:txt ((x:Int),(y:Int))=dn x++47::dn y:=by rw[<-bx,<-bx];exact if_neg (by show ¬(y:Int)=1;omega)
    rw[e1,nF _ _ (uR x),gk _ (uR y),if_pos (by intro p hp;simp at hp;rcases hp with rfl|rfl<;>exact Oe _)]
    dsimp only
    have:=h.1
    rw[nH,nH,if_neg (by omega),show Nat.gcd x y=1 from h.2,Nat.div_one,Nat.div_one]
  |_=>exact h.elim
 |things=>cases p with
  |m k=>obtain⟨l,e1,e2⟩:=xF h (by simp);show lO .things (num k)=_;cases e1;exact e2
  |_=>exact h.elim
 |name=>cases p with
  |n z=>exact if_pos h
  |_=>exact h.elim
def xN(k:Kd)(hk:k ≠ .body)(t:Tr)(o o':Option Bd):oR k (t,o)=oR k (t,o'):=by
 cases k<;>cases t<;>first|rfl|exact absurd rfl hk
theorem xO:∀{ks:List Kd}{ps:List Pt},u9 ks ps->(∀t,Pt.b t∈ps->dB (n6 t)=some t)->mF ks (bofs (ps.map BZ))=some ps
 |_,_,.nil,_=>by rw[mF]
 |k::ks,p::ps,.cons h1 h2,hb=>by
  have ih:=xO h2 λt ht=>hb t (UP _ ht)
  rw[UE,bofs,mF,ih]
  have:oR k (BZ p,dB (BZ p))=some p:=by
   by_cases hk:k = .body
   .subst hk
    cases p with
    |b t=>show(dB (n6 t)).map _=_;rw[hb t (by simp)];rfl
    |_=>exact h1.elim
   .rw[xN k hk _ _ none];exact En h1 hk
  rw[this]
theorem xP:∀(n:Nat)(t:Bd),t.dep<=n->VB t->dB (n6 t)=some t
 |0,t,h,_=>by have:=AM t;omega
 |n+1,t,h,g=>by
  by_cases ht:t = .rest
  .subst ht;rw[n6,dB,if_pos rfl]
  .rw[sL g ht,dB,bofs,xM,eI,rA ht]
   dsimp only
   have e:=xO (ll g) λu hu=>by
    obtain⟨g1,g2⟩:=nX g hu
    exact xP n u (by omega) g1
   have el:(bofs ((dQ t).map BZ)).length=(He t).length:=by rw[fI];cases t<;>rfl
   rw[if_pos el,e]
   show some (iK t.hd (dQ t))=_
   rw[lm g]
def Ix{a b:Nat}(h:0 < Nat.gcd a b):Nat.gcd (a / Nat.gcd a b) (b / Nat.gcd a b)=1:=by
 rw[Nat.gcd_div (Nat.gcd_dvd_left _ _) (Nat.gcd_dvd_right _ _),Nat.div_self h]
def Eo{k:Kd}{l:List Nat}{p:Pt}(hk:k ≠ .body)(h:IZ k l=some p):p.ok k:=by
 cases k with
 |body=>exact absurd rfl hk
 |cost=>
  change gP l=some p at h
  unfold gP at h
  split at h
  .split at h
   .cases h;exact⟨UH _,YE _⟩
   .rename_i a u e
    split at h
    .cases h
    .rename_i hu
     cases h
     have hg:0 < Nat.gcd (digitsVal a) (digitsVal u):=Nat.gcd_pos_of_pos_right _ (by omega)
     exact⟨Nat.div_pos (Nat.le_of_dvd (by omega) (Nat.gcd_dvd_right _ _)) hg,Ix hg⟩
   .cases h
  .cases h
 |things=>exact(nT (k:=.things) (l:=l) h).1
 |name=>exact(nT (k:=.name) (l:=l) h).1
def xQ{k:Kd}{q:Tr×Option Bd}{p:Pt}(hq:∀t,q.2=some t->VB t)(h:oR k q=some p):p.ok k:=by
 by_cases hk:k = .body
 .subst hk
  change q.2.map Pt.b=some p at h
  cases e:q.2 with
  |none=>rw[e]at h;cases h
  |some t=>rw[e]at h;cases h;exact hq t e
 .obtain⟨t,o⟩:=q
  cases t with
  |w l=>refine Eo (l:=l) hk ?_;rw[<-h];cases k<;>first|rfl|exact absurd rfl hk
  |n ts=>cases k<;>first|cases h|exact absurd rfl hk
theorem n9:∀{ks:List Kd}{qs:List (Tr×Option Bd)}{ps:List Pt},qs.length=ks.length->(∀q∈qs,∀t,q.2=some t->VB t)->mF ks qs=some ps->u9 ks ps
 |[],_,ps,_,_,h=>by rw[mF]at h;cases h;exact .nil
 |k::ks,[],_,hl,_,_=>by simp at hl
 |k::ks,q::qs,ps,hl,hq,h=>by
  rw[mF]at h
  split at h
  .rename_i p ps' e1 e2
   cases h
   exact .cons (xQ (hq q (by simp)) e1) (n9 (by simpa using hl) (λx hx=>hq x (by simp[hx])) e2)
  .cases h
def AS{qs:List (Tr×Option Bd)}{t:Bd}(hq:∀q∈qs,∀t,q.2=some t->VB t)(h:xM qs=some t):VB t:=by
 unfold xM at h
 split at h
 .rename_i a o r
  split at h
  .rename_i ks ek
   split at h
   .rename_i hl
    cases e:mF ks r with
    |none=>rw[e]at h;cases h
    |some ps=>
     rw[e]at h
     cases h
     exact(lj ek (n9 hl (λx hx=>hq x (by simp[hx])) e)).1
   .cases h
  .cases h
 .cases h
mutual
theorem lA:∀(T:Tr)(t:Bd),dB T=some t->VB t
 | .w l,t,h=>by
  rw[dB]at h
  split at h
  .cases h;trivial
  .cases h
 | .n ts,t,h=>by
  rw[dB]at h
  exact AS (Mc ts) h
theorem Mc:∀(ts:List Tr),∀q∈bofs ts,∀t,q.2=some t->VB t
 |[],q,hq,_,_=>by rw[bofs]at hq;cases hq
 |T::ts,q,hq,t,h=>by
  rw[bofs]at hq
  rcases UI.mp hq with rfl|hq
  .exact lA T t h
  .exact Mc ts q hq t h
end
noncomputable def E_(l:List Nat):Option Bd:=match (tree l).bind dB with
 |some t=>if tx t=l then some t else none
 |none=>none
def xR{n:Nat}{l:List Nat}(h:(Nf l).count [40] < n):E_ l=l0 n l:=by
 cases e:l0 n l with
 |some t=>
  obtain⟨g,rfl⟩:=nY e
  unfold E_
  rw[AR g]
  show(match dB (n6 t)with|some u=>if tx u=tx t then some u else none|none=>none)=_
  rw[xP _ t (UH _) g]
  exact if_pos rfl
 |none=>
  unfold E_
  split
  .rename_i t e1
   split
   .rename_i e2
    obtain⟨T,-,hT⟩:=XI.mp e1
    have:=(AN h).mpr ⟨lA T t hT,e2.symm⟩
    rw[e]at this
    cases this
   .rfl
  .rfl
end T9
namespace G08
open PySem L2 L3
noncomputable def top(i:Nat):Stmt:=PySem.Challenge.pw_dueworth_k08_the_first_wrong_row.main.body.getD i (.Pass ⟨0,0,0,0⟩)
noncomputable def mt(i j:Nat):Stmt:=(Av (top i)).getD j (.Pass ⟨0,0,0,0⟩)
noncomputable abbrev QS:List (Str×Str):=[("BadText","row")]
noncomputable abbrev MP:List (Str×Str×Bool):=[("BadText","BadText",true),("BadText","NoHouse",false),("BadText","Stuck",false),("BadText","TooLong",false),("BadText","NoStory",false),("BadText","TooMany",false),("BadText","NoRow",false)]
structure Txt(P:Program)(w:World)(K:Vo)(mg:Vr):Prop where
 o_common:bu K mg "common" (top 11) ["one","other"]
 o_read_figures:bu K mg "read_figures" (top 12) ["text"]
 o_read_from_nought_on:bu K mg "read_from_nought_on" (top 13) ["text"]
 o_is_name:bu K mg "is_name" (top 17) ["text"]
 o_read_name:bu K mg "read_name" (top 20) ["word"]
 o_read_things:bu K mg "read_things" (top 21) ["word"]
 o_read_word:bu K mg "read_word" (top 22) ["kind","word"]
 o_split_words:bu K mg "split_words" (top 23) ["text"]
 o_word_at:bu K mg "word_at" (top 24) ["words","place"]
 o_read_part:bu K mg "read_part" (top 25) ["words","place"]
 o_read_body:bu K mg "read_body" (top 26) ["text"]
 o_read_jars:bu K mg "read_jars" (top 27) ["row"]
 o_read_deed:bu K mg "read_deed" (top 28) ["row"]
 o_read_house:bu K mg "read_house" (top 29) ["text"]
 o__law_deal:bu K mg "_law_deal" (top 31) ["_law_script","_law_base"]
 o__law_draw:bu K mg "_law_draw" (top 32) ["_law_deal_here","_law_many"]
 o__law_signs:bu K mg "_law_signs" (top 33) []
 o__law_low:bu K mg "_law_low" (top 34) ["_law_top","_law_bottom"]
 o__law_kept:bu K mg "_law_kept" (top 35) []
 o__law_name:bu K mg "_law_name" (top 36) ["_law_deal_here"]
 o__law_any_leaf:bu K mg "_law_any_leaf" (top 37) ["_law_deal_here","_law_words"]
 o__law_any_body:bu K mg "_law_any_body" (top 38) ["_law_deal_here","_law_words","_law_room","_law_down"]
 o__law_cost_text:bu K mg "_law_cost_text" (top 39) ["_law_cost"]
 o__law_body_text:bu K mg "_law_body_text" (top 40) ["_law_body"]
 o__law_is_name:bu K mg "_law_is_name" (top 41) ["_law_word"]
 o__law_tree:bu K mg "_law_tree" (top 42) ["_law_text"]
 o__law_cost_of:bu K mg "_law_cost_of" (top 43) ["_law_word"]
 o__law_thing_of:bu K mg "_law_thing_of" (top 44) ["_law_tree_here","_law_sort"]
 o__law_body_of:bu K mg "_law_body_of" (top 45) ["_law_tree_here"]
 o__law_body_due:bu K mg "_law_body_due" (top 46) ["_law_text"]
 o__law_spoilt:bu K mg "_law_spoilt" (top 47) ["_law_deal_here","_law_text"]
 o__law_any_text:bu K mg "_law_any_text" (top 48) ["_law_deal_here"]
 o__law_deed_due:bu K mg "_law_deed_due" (top 49) ["_law_row"]
 o__law_due:bu K mg "_law_due" (top 50) ["_law_text"]
 o__law_heard:bu K mg "_law_heard" (top 51) ["_law_caught"]
 o__law_read:bu K mg "_law_read" (top 52) ["_law_text"]
 o__law_changed:bu K mg "_law_changed" (top 53) ["_law_deal_here","_law_rows"]
 MB:mg "ValueError" = none
 Qj:mg "abs" = none
 Of:mg "all" = none
 Po:mg "bool" = none
 Lx:mg "int" = none
 JO:mg "isinstance" = none
 JP:mg "len" = none
 Og:mg "list" = none
 OU:mg "max" = none
 Kz:mg "range" = none
 Oh:mg "repr" = none
 Ng:mg "reversed" = none
 LH:mg "str" = none
 Lv:mg "tuple" = none
 Qk:mg "zip" = none
 NJ:∃t,mg "FIGURES" = some (.str "0123456789" t)
 Nu:∃a,mg "FORMS" = some (.ref a)/\KF P w K a [("pay",["cost"]),("put",["name","things"]),("then",["body","body"]),("either",["body","body"]),("take",["name","things","body","body"]),("often",["body"]),("use",["name"])]
 MC:∃a,mg "KEPT_WORDS" = some (.ref a)/\DQ K a ["jars","deed","rest","pay","put","then","either","take","often","use"]
 NK:∃t,mg "LETTERS" = some (.str "abcdefghijklmnopqrstuvwxyz" t)
 Pp:zm K mg "DueError"
 NL:zm K mg "BadText"
 NN:zm K mg "NoHouse"
 OK:zm K mg "Stuck"
 NO:zm K mg "TooLong"
 NP:zm K mg "NoStory"
 NQ:zm K mg "TooMany"
 OL:zm K mg "NoRow"
 Mv:Hc K mg "BadText" "BadText.__init__" (mt 2 0) ["self","row"] ["row"]
 NR:Gf K mg "BadText" ["BadText"]
 Nh:Gf K mg "DueError" ["BadText"]
 x_at:Mg K QS
 Oi:XTab K MP
section
variable {P:Program}{w:World}{K:Vo}{mg:Vr}{base:Heap}
def GC:(["sign"]:Vs).Nodup:=by decide +kernel
def Iy:(["word"]:Vs).Nodup:=by decide +kernel
def GD:(["_law_one"]:Vs).Nodup:=by decide +kernel
def Iz:(["_law_k","_law_deal_here","_law_letters"]:Vs).Nodup:=by decide +kernel
def GE:(["_law_sign"]:Vs).Nodup:=by decide +kernel
def GF:(["_law_one","_law_sort"]:Vs).Nodup:=by decide +kernel
def IA:(["_law_k","_law_deal_here"]:Vs).Nodup:=by decide +kernel
def IB:(["_law_word"]:Vs).Nodup:=by decide +kernel
def ba(T:Txt P w K mg):Ij P w K mg base "BadText" ["row"]:=Jv ["self","row"] T.Mv rfl λ_ _ _ _ _ _ _=>mR (we (pv 0) (pv 1) rfl)
def rC(T:Txt P w K mg):DT P w K mg base "BadText" ["row"]:=Im ["self","row"] T.Mv rfl λ_ _ _ _ _ _ _=>mR (we (pv 0) (pv 1) rfl)
def pU:aF:=bV 3 C.kU
def uT(T:Txt P w K mg):e_ P w K mg base 1 "common" 2 pU:=jd ["one","other","left"] T.o_common (λ_ _ _ _ _ _ _ hr nd=>(ac (ny VZ (oQ hr (ah 1) ad) (ac (s4 2 nd (aD fA (ah 0) (ah 1)))
  (ac (s4 0 nd (ah 1))
  (ai (s4 1 nd (ah 2))))))
  (ai (av (cB F6 T.Qj (l1 (ah 0))))))) rfl
def dv:bB:=(ae (a_ (fc (aH (am (bo false) (v3 0) (c3 (.str "")))) (eZ (aH (af nr [(bU (bE (v3 0)) (.n 0) eF (am (kL false) (v3 0) (c3 (.str "0123456789"))) 1 [])])))) (bd "BadText" ["row"] [(c3 (.int 0))]) aJ)
  (ae (a_ (kJ (aH (am (bo false) (am az (v3 0) (c3 (.int 0))) (c3 (.str "0")))) (aH (am (bo true) (v3 0) (c3 (.str "0"))))) (bd "BadText" ["row"] [(c3 (.int 0))]) aJ)
  (ae (ap 1 (c3 (.int 0)))
  (ae (ap 2 (bL "str" nE (v3 0) [(am aG (af aT [(v3 0)]) (am gX (u5 jZ (af aT [(v3 0)])) (c3 (.int 60))))]))
  (ae (cH (DP (c3 (.int 0)) (af aT [(v3 2)]) (c3 (.int 60))) (.n 3) (ap 1 (am aG (am j0 (v3 1) (am uy (c3 (.int 10)) (c3 (.int 60)))) (af cr [(aA (v3 2) (cz (v3 3)) (cz (am aG (v3 3) (c3 (.int 60)))))]))))
  (ax (v3 1)))))))
def fJ:aF:=dr 4 dv
def eU(T:Txt P w K mg):u6 P w K mg base 3 "read_figures" 1 fJ:=zk ["text","number","padded","place"] T.o_read_figures (λ_ _ _ _ _ _ _ hr nd=>(ac (aN (kK (cY (fg hr (ah 0) ag) (cE (iy (dj (cB (wD rfl) T.Of (l1 (DK [] 1 [] ["sign"] (dC (ah 0)) (λ_=>(gn 0 GC)) (λ_=>jL) (λ_=>(pq (mo (fB hr)) (ah 0) (IW T.NJ) rfl)))))))))) (ai (u7 (ba T) hr (l1 ad))) aE)
  (ac (aN (kK (mm (fg hr (gM hr (ah 0)) ag) (i7 (oQ hr (ah 0) ag)))) (ai (u7 (ba T) hr (l1 ad))) aE)
  (ac (s4 1 nd ad)
  (ac (s4 2 nd (gD wU Ay (ah 0) (l1 (aD ay (cB aU T.JP (l1 (ah 0))) (aD fA (uu i8 (cB aU T.JP (l1 (ah 0)))) ad)))))
  (ac (eS Ig rfl (wW rfl rfl rfl T.Kz (lc ad (lc (cB aU T.JP (l1 (ah 2))) (l1 ad)))) (gn 3 nd) (ai (s4 1 nd (aD ay (aD gV (ah 1) (aD BQ ad ad)) (cT jM T.Lx (l1 (aL (ah 2) (aP (ah 3)) (aP (aD ay (ah 3) ad)))))))))
  (ai (av (ah 1))))))))) rfl
def bH(Ld Oj:aF):bB:=(ae (ap 1 (bL "str" bT (v3 0) [(c3 (.str "/"))]))
  (ae (ap 2 (aR Ld [(am az (v3 1) (c3 (.int 0)))]))
  (ae (a_ (aH (am (bo false) (af aT [(v3 1)]) (c3 (.int 1)))) (ax (bG [(v3 2),(c3 (.int 1))])) aJ)
  (ae (a_ (aH (am qo (af aT [(v3 1)]) (c3 (.int 2)))) (bd "BadText" ["row"] [(c3 (.int 0))]) aJ)
  (ae (ap 3 (aR Ld [(am az (v3 1) (c3 (.int 1)))]))
  (ae (a_ (fc (aH (am my (v3 3) (c3 (.int 2)))) (aH (am (bo true) (ak Oj [(v3 2),(v3 3)]) (c3 (.int 1))))) (bd "BadText" ["row"] [(c3 (.int 0))]) aJ)
  (ax (bG [(v3 2),(v3 3)]))))))))
def bI:aF:=dr 4 (bH fJ pU)
def eJ(T:Txt P w K mg):u6 P w K mg base 4 "read_from_nought_on" 1 bI:=zk ["text","pieces","top","bottom"] T.o_read_from_nought_on (λ_ _ _ _ _ _ _ hr nd=>(ac (s4 1 nd (gD bN cC (ah 0) (l1 ag)))
  (ac (s4 2 nd (cX (eU T) hr (l1 (gM hr (ah 1)))))
  (ac (aN (fg hr (cB aU T.JP (l1 (ah 1))) ad) (ai (av (bK (lc (ah 2) (l1 ad))))) aE)
  (ac (aN (aZ lX (cB aU T.JP (l1 (ah 1))) ad (aQ _)) (ai (u7 (ba T) hr (l1 ad))) aE)
  (ac (s4 3 nd (cX (eU T) hr (l1 (gM hr (ah 1)))))
  (ac (aN (kK (cY (aZ jc (ah 3) ad (aQ _)) (cE (oQ hr (c4 (uT T) hr (lc (ah 2) (l1 (ah 3)))) ad)))) (ai (u7 (ba T) hr (l1 ad))) aE)
  (ai (av (bK (lc (ah 2) (l1 (ah 3))))))))))))) rfl
def jj:bB:=(ae (a_ (fc (aH (am my (af aT [(v3 0)]) (c3 (.int 1)))) (aH (am qo (af aT [(v3 0)]) (c3 (.int 6))))) (ax (c3 (.bl false))) aJ)
  (ax (mn (am (kL true) (v3 0) (c3 (.tup ((["jars","deed","rest","pay","put","then","either","take","often","use"]:Vs).map PV.str)))) (af nr [(bU (bE (v3 0)) (.n 0) eF (am (kL false) (v3 0) (c3 (.str "abcdefghijklmnopqrstuvwxyz"))) 1 [])]))))
def mG:aF:=bV 1 jj
def rD(T:Txt P w K mg):e_ P w K mg base 1 "is_name" 1 mG:=jd ["text"] T.o_is_name (λ_ _ _ _ _ _ _ hr nd=>(ac (aN (kK (cY (aZ jc (cB aU T.JP (l1 (ah 0))) ad (aQ _)) (cE (aZ lX (cB aU T.JP (l1 (ah 0))) ad (aQ _))))) (ai (av Ad)) aE)
  (ai (av (FW (pq (fo (fB hr)) (ah 0) (Jw T.MC) rfl) (FV (cB (wD rfl) T.Of (l1 (DK [] 1 [] ["sign"] (dC (ah 0)) (λ_=>(gn 0 GC)) (λ_=>jL) (λ_=>(pq (mo (fB hr)) (ah 0) (IW T.NK) rfl))))))))))) rfl
def fK(NS:aF):bB:=(ae (a_ (eZ (aH (ak NS [(v3 0)]))) (bd "BadText" ["row"] [(c3 (.int 0))]) aJ)
  (ax (v3 0)))
def cI:aF:=dr 1 (fK mG)
def eK(T:Txt P w K mg):u6 P w K mg base 3 "read_name" 1 cI:=zk ["word"] T.o_read_name (λ_ _ _ _ _ _ _ hr nd=>(ac (aN (iy (dj (c4 (rD T) hr (l1 (ah 0))))) (ai (u7 (ba T) hr (l1 ad))) aE)
  (ai (av (ah 0))))) rfl
def dS:bB:=(ae (a_ (fc (aH (am (bo true) (af aT [(v3 0)]) (c3 (.int 1)))) (aH (am (kL true) (v3 0) (c3 (.str "123456789"))))) (bd "BadText" ["row"] [(c3 (.int 0))]) aJ)
  (ax (af cr [(v3 0)])))
def gQ:aF:=dr 1 dS
def lB(T:Txt P w K mg):u6 P w K mg base 3 "read_things" 1 gQ:=zk ["word"] T.o_read_things (λ_ _ _ _ _ _ _ hr nd=>(ac (aN (kK (cY (oQ hr (cB aU T.JP (l1 (ah 0))) ad) (cE (aZ (fo (fB hr)) (ah 0) ag rfl)))) (ai (u7 (ba T) hr (l1 ad))) aE)
  (ai (av (cT jM T.Lx (l1 (ah 0))))))) rfl
def fL(K8 Mo Km:aF):bB:=(ae (a_ (aH (am (bo false) (v3 0) (c3 (.str "cost")))) (ax (aR K8 [(v3 1)])) aJ)
  (ae (a_ (aH (am (bo false) (v3 0) (c3 (.str "things")))) (ax (aR Mo [(v3 1)])) aJ)
  (ax (aR Km [(v3 1)]))))
def fM:aF:=dr 2 (fL bI gQ cI)
def n_(T:Txt P w K mg):u6 P w K mg base 5 "read_word" 2 fM:=zk ["kind","word"] T.o_read_word (λ_ _ _ _ _ _ _ hr nd=>(ac (aN (fg hr (ah 0) ag) (ai (av (cX (eJ T) hr (l1 (ah 1))))) aE)
  (ac (aN (fg hr (ah 0) ag) (ai (av (cX (lB T) hr (l1 (ah 1))))) aE)
  (ai (av (cX (eK T) hr (l1 (ah 1)))))))) rfl
def dU:bB:=(ax (bL "str" bT (k4 ")" " )" (k4 "(" "( " (v3 0))) [(c3 (.str " "))]))
def gR:aF:=bV 1 dU
def lC(T:Txt P w K mg):e_ P w K mg base 1 "split_words" 1 gR:=jd ["text"] T.o_split_words (λ_ _ _ _ _ _ _ hr nd=>(ai (av (gD bN cC (nJ (nJ (ah 0))) (l1 ag))))) rfl
def jk:bB:=(ae (a_ (aH (am my (v3 1) (af aT [(v3 0)]))) (ax (am az (v3 0) (v3 1))) aJ)
  (ax (c3 (.str ""))))
def jm:aF:=bV 2 jk
def b4(T:Txt P w K mg):e_ P w K mg base 1 "word_at" 2 jm:=jd ["words","place"] T.o_word_at (λ_ _ _ _ _ _ _ hr nd=>(ac (aN (aZ jc (ah 1) (cB aU T.JP (l1 (ah 0))) (aQ _)) (ai (av (fF hr (ah 0) (ah 1)))) aE)
  (ai (av ag)))) rfl
def fN(J7 MQ s0:aF):bB:=(ae (a_ (aH (am (bo false) (ak J7 [(v3 0),(v3 1)]) (c3 (.str "rest")))) (ax (bG [(bG [(c3 (.str "rest"))]),(am aG (v3 1) (c3 (.int 1)))])) aJ)
  (ae (ap 2 (ak J7 [(v3 0),(am aG (v3 1) (c3 (.int 1)))]))
  (ae (a_ (fc (aH (am (bo true) (ak J7 [(v3 0),(v3 1)]) (c3 (.str "(")))) (aH (xm [("pay",["cost"]),("put",["name","things"]),("then",["body","body"]),("either",["body","body"]),("take",["name","things","body","body"]),("often",["body"]),("use",["name"])] (v3 2)))) (bd "BadText" ["row"] [(c3 (.int 0))]) aJ)
  (ae (ap 3 (aS [(v3 2)]))
  (ae (ap 1 (am aG (v3 1) (c3 (.int 2))))
  (ae (cH (bE (xk [("pay",["cost"]),("put",["name","things"]),("then",["body","body"]),("either",["body","body"]),("take",["name","things","body","body"]),("often",["body"]),("use",["name"])] (v3 2))) (.n 4) (a_ (aH (am (bo false) (v3 4) (c3 (.str "body")))) (ae (ap 5 (aR s0 [(v3 0),(v3 1)]))
  (ae (bh (bL "list" aI (v3 3) [(am az (v3 5) (c3 (.int 0)))]))
  (ap 1 (am az (v3 5) (c3 (.int 1)))))) (ae (bh (bL "list" aI (v3 3) [(aR MQ [(v3 4),(ak J7 [(v3 0),(v3 1)])])]))
  (ap 1 (am aG (v3 1) (c3 (.int 1)))))))
  (ae (a_ (aH (am (bo true) (ak J7 [(v3 0),(v3 1)]) (c3 (.str ")")))) (bd "BadText" ["row"] [(c3 (.int 0))]) aJ)
  (ax (bG [(af bC [(v3 3)]),(am aG (v3 1) (c3 (.int 1)))])))))))))
noncomputable def dF:Nat->aF
 |0=>Aw
 |n+1=>dr 6 (fN jm fM (dF n))
def jO:aF:=dF 36
def og(T:Txt P w K mg):u6 P w K mg base 41 "read_part" 2 jO:=Ge (b:=5) (r:=dF) T.o_read_part (λn R0=>zk ["words","place","head","found","kind","side"] T.o_read_part (λ_ _ _ _ _ _ _ hr nd=>(ac (aN (fg hr (c4 (b4 T) hr (lc (ah 0) (l1 (ah 1)))) ag) (ai (av (bK (lc (bK (l1 ag)) (l1 (aD ay (ah 1) ad)))))) aE)
  (ac (s4 2 nd (c4 (b4 T) hr (lc (ah 0) (l1 (aD ay (ah 1) ad)))))
  (ac (aN (kK (cY (oQ hr (c4 (b4 T) hr (lc (ah 0) (l1 (ah 1)))) ag) (cE (Il T.Nu (ah 2))))) (ai (u7 (ba T) hr (l1 ad))) aE)
  (ac (s4 3 nd (bb (l1 (ah 2))))
  (ac (s4 1 nd (aD ay (ah 1) ad))
  (ac (eS Ig rfl (dC (Jx T.Nu (ah 2) (λ_ _=>rfl))) (gn 4 nd) (ai (aN (fg hr (ah 4) ag) (ac (s4 5 nd (cX R0 hr (lc (ah 0) (l1 (ah 1)))))
  (ac (b_ (gD bf bz (ah 3) (l1 (gM hr (ah 5)))))
  (ai (s4 1 nd (gM hr (ah 5)))))) (ac (b_ (gD bf bz (ah 3) (l1 (cX (n_ T) hr (lc (ah 4) (l1 (c4 (b4 T) hr (lc (ah 0) (l1 (ah 1))))))))))
  (ai (s4 1 nd (aD ay (ah 1) ad)))))))
  (ac (aN (oQ hr (c4 (b4 T) hr (lc (ah 0) (l1 (ah 1)))) ag) (ai (u7 (ba T) hr (l1 ad))) aE)
  (ai (av (bK (lc (cT gj T.Lv (l1 (ah 3))) (l1 (aD ay (ah 1) ad)))))))))))))) rfl) rfl rfl 36
def fO(Mp MR:aF):bB:=(ae (ap 1 (ak Mp [(v3 0)]))
  (ae (ap 2 (aR MR [(v3 1),(c3 (.int 0))]))
  (ae (a_ (aH (am (bo true) (am az (v3 2) (c3 (.int 1))) (af aT [(v3 1)]))) (bd "BadText" ["row"] [(c3 (.int 0))]) aJ)
  (ax (am az (v3 2) (c3 (.int 0)))))))
def fP:aF:=dr 3 (fO gR jO)
def oi(T:Txt P w K mg):u6 P w K mg base 42 "read_body" 1 fP:=zk ["text","words","whole_body"] T.o_read_body (λ_ _ _ _ _ _ _ hr nd=>(ac (s4 1 nd (c4 (lC T) hr (l1 (ah 0))))
  (ac (s4 2 nd (cX (og T) hr (lc (ah 1) (l1 ad))))
  (ac (aN (oQ hr (gM hr (ah 2)) (cB aU T.JP (l1 (ah 1)))) (ai (u7 (ba T) hr (l1 ad))) aE)
  (ai (av (gM hr (ah 2)))))))) rfl
def fQ(Km:aF):bB:=(ae (ap 1 (bL "str" bT (v3 0) [(c3 (.str " "))]))
  (ae (a_ (aH (am (bo true) (am az (v3 1) (c3 (.int 0))) (c3 (.str "jars")))) (bd "BadText" ["row"] [(c3 (.int 0))]) aJ)
  (ax (af bC [(nL (bE (aA (v3 1) (cz (c3 (.int 1))) de)) (.n 0) eF (aR Km [(v3 0)]) 1 [])]))))
def jP:aF:=dr 2 (fQ cI)
def oj(T:Txt P w K mg):u6 P w K mg base 4 "read_jars" 1 jP:=zk ["row","words"] T.o_read_jars (λ_ _ _ _ _ _ _ hr nd=>(ac (s4 1 nd (gD bN cC (ah 0) (l1 ag)))
  (ac (aN (oQ hr (gM hr (ah 1)) ag) (ai (u7 (ba T) hr (l1 ad))) aE)
  (ai (av (cT gj T.Lv (l1 (Ir [] 1 [] ["word"] (dC (aL (ah 1) (aP ad) bc)) (λ_=>(gn 0 Iy)) (λ_=>jL) (λ_ _=>(cX (eK T) hr (l1 (ah 0)))))))))))) rfl
def fR(J7 Km MS:aF):bB:=(ae (ap 1 (bL "str" bT (v3 0) [(c3 (.str " "))]))
  (ae (a_ (fc (aH (am (bo true) (ak J7 [(v3 1),(c3 (.int 0))]) (c3 (.str "deed")))) (aH (am (bo true) (ak J7 [(v3 1),(c3 (.int 2))]) (c3 (.str ":"))))) (bd "BadText" ["row"] [(c3 (.int 0))]) aJ)
  (ax (bG [(aR Km [(am az (v3 1) (c3 (.int 1)))]),(aR MS [(bL "str" cG (c3 (.str " ")) [(aA (v3 1) (cz (c3 (.int 3))) de)])])]))))
def jQ:aF:=dr 2 (fR jm cI fP)
def ol(T:Txt P w K mg):u6 P w K mg base 43 "read_deed" 1 jQ:=zk ["row","words"] T.o_read_deed (λ_ _ _ _ _ _ _ hr nd=>(ac (s4 1 nd (gD bN cC (ah 0) (l1 ag)))
  (ac (aN (kK (cY (oQ hr (c4 (b4 T) hr (lc (ah 1) (l1 ad))) ag) (cE (oQ hr (c4 (b4 T) hr (lc (ah 1) (l1 ad))) ag)))) (ai (u7 (ba T) hr (l1 ad))) aE)
  (ai (av (bK (lc (cX (eK T) hr (l1 (gM hr (ah 1)))) (l1 (cX (oi T) hr (l1 (gD dD fq ag (l1 (aL (ah 1) (aP ad) bc))))))))))))) rfl
def eL(MT MU:aF):bB:=(ae (ap 1 (bL "str" bT (v3 0) [(c3 (.str "\n"))]))
  (ae (ap 2 (aR MT [(am az (v3 1) (c3 (.int 0)))]))
  (ae (ap 3 (aS []))
  (ae (cH (pD (c3 (.int 1)) (af aT [(v3 1)])) (.n 4) (qZ ["BadText"] (bh (bL "list" aI (v3 3) [(aR MU [(am az (v3 1) (v3 4))])])) (bd "BadText" ["row"] [(v3 4)])))
  (ae (a_ (aH (am (bo false) (v3 3) (aS []))) (bd "BadText" ["row"] [(c3 (.int 1))]) aJ)
  (ax (bG [(v3 2),(af bC [(v3 3)])])))))))
def eM:aF:=dr 5 (eL jP jQ)
def l4(T:Txt P w K mg):Jt P w K mg base 44 "read_house" 1 eM:=zk ["text","rows","jars","deeds","number"] T.o_read_house (λ_ _ _ _ _ _ _ hr nd=>(ac (s4 1 nd (gD bN cC (ah 0) (l1 ag)))
  (ac (s4 2 nd (cX (oj T) hr (l1 (gM hr (ah 1)))))
  (ac (s4 3 nd (bb jH))
  (ac (eS Ig rfl (pE rfl rfl rfl T.Kz (lc ad (l1 (cB aU T.JP (l1 (ah 1)))))) (gn 4 nd) (ai (Gk T.NR (λE pins hp=>(ai (b_ (gD bf bz (ah 3) (l1 (cX (ol T) hr (l1 (fF hr (ah 1) (ah 4))))))))) (λa oa vs h1 h2=>(ai (Io (rC T) h1 h2 hr (l1 (ah 4))))) Ip)))
  (ac (aN (fg hr (ah 3) (bb jH)) (ai (u7 (ba T) hr (l1 ad))) aE)
  (ai (av (bK (lc (ah 2) (l1 (cT gj T.Lv (l1 (ah 3)))))))))))))) rfl
def jR:aF:=bV 5 C.fD
def om(T:Txt P w K mg):e_ P w K mg base 1 "_law_deal" 2 jR:=jd ["_law_script","_law_base","_law_one","_law_some","_law_number"] T.o__law_deal (λ_ _ _ _ _ _ _ hr nd=>(ac (Ii [] 1 [] ["_law_one"] 3 nd (dC (aL (ah 0) (aP (ah 1)) (aP ad))) (λ_=>(gn 0 GD)) (λ_=>jL) (λ_=>(cB (wy rfl) T.OU (lc (ah 0) (l1 (aD fy ad (ah 0)))))))
  (ac (s4 4 nd (aD ay ad (ah 1)))
  (ac (eS VZ rfl (dC (ah 3)) (gn 2 nd) (ai (s4 4 nd (aD fA (aD ay (aD gV (ah 4) ad) (aD fA (ah 2) ad)) ad))))
  (ai (av (qS (cA ag (ah 4) (cA ag ad (cA ag (DG uh rfl (DK [] 1 [] ["_law_one"] (dC (ah 3)) (λ_=>(gn 0 GD)) (λ_=>(wM (aZ HZ (ah 0) (aD BQ ad ad) (aQ _)))) (λ_=>(ah 0))) rfl T.Og rfl T.Ng) qR)))))))))) rfl
def w__law_draw:aF:=bV 5 C.fE
def ao(T:Txt P w K mg):e_ P w K mg base 1 "_law_draw" 2 w__law_draw:=jd ["_law_deal_here","_law_many","_law_number","_law_one","_law_other"] T.o__law_draw (λ_ _ _ _ _ _ _ hr nd=>(ac (ny VZ (kK (mm (fg hr (fF hr (ah 0) ag) ad) (i7 (aZ lX (cB aU T.JP (l1 (fF hr (ah 0) ag))) ad (aQ _))))) (ai (mq (zj hr) (DJ wQ BO (fF hr (ah 0) ag)) (ah 0) ag)))
  (ac (s4 2 nd (fF hr (ah 0) ag))
  (ac (aN (aZ lX (ah 2) ad (aQ _)) (ac (mq (zj hr) (aD qT (ah 2) (ah 1)) (ah 0) ag)
  (ai (av (aD fA (ah 2) (ah 1))))) aE)
  (ac (s4 3 nd (aD fA (aD ay (aD gV (fF hr (ah 0) ag) ad) ad) ad))
  (ac (mq (zj hr) (aD fA (aD ay (aD gV (ah 3) ad) ad) ad) (ah 0) ag)
  (ac (s4 4 nd (aD fA (aD gV (fF hr (ah 0) ag) (fF hr (ah 0) ag)) ad))
  (ai (av (aD fA (aD ay (aD gV (aD fA (aD gV (ah 3) (ah 3)) ad) ad) (ah 4)) (ah 1))))))))))) rfl
def eN:bB:=(ae (ap 0 (c3 (.str " !\"#$&'()*+,-./0123456789:;<=>?@ABCDEFGHIJKLMNOPQRSTUVWXYZ")))
  (ax (am aG (v3 0) (c3 (.str "[\\]^_`abcdefghijklmnopqrstuvwxyz{|}~\n")))))
def iO:aF:=bV 1 eN
def l5(T:Txt P w K mg):e_ P w K mg base 1 "_law_signs" 0 iO:=jd ["_law_signs_here"] T.o__law_signs (λ_ _ _ _ _ _ _ hr nd=>(ac (s4 0 nd ag)
  (ai (av (aD ay (ah 0) ag))))) rfl
def g_:aF:=bV 4 C.gY
def jS(T:Txt P w K mg):e_ P w K mg base 1 "_law_low" 2 g_:=jd ["_law_top","_law_bottom","_law_one","_law_other"] T.o__law_low (λ_ _ _ _ _ _ _ hr nd=>(ac (BP (i:=2) (j:=3) rfl nd rfl rfl (by decide) rfl rfl (lc (cB (wy rfl) T.OU (lc (ah 0) (l1 (aD fy ad (ah 0))))) (l1 (ah 1))))
  (ac (ny VZ (aZ lX (ah 3) ad (aQ _)) (ai (BP (i:=2) (j:=3) rfl nd rfl rfl (by decide) rfl rfl (lc (ah 3) (l1 (aD fA (ah 2) (ah 3)))))))
  (ai (av (bK (lc (aD qT (ah 0) (ah 2)) (l1 (aD qT (ah 1) (ah 2)))))))))) rfl
def fS:bB:=(ax (aS [(c3 (.str "jars")),(c3 (.str "deed")),(c3 (.str "rest")),(c3 (.str "pay")),(c3 (.str "put")),(c3 (.str "then")),(c3 (.str "either")),(c3 (.str "take")),(c3 (.str "often")),(c3 (.str "use"))]))
def fU:aF:=bV 0 fS
def iP(T:Txt P w K mg):e_ P w K mg base 1 "_law_kept" 0 fU:=jd [] T.o__law_kept (λ_ _ _ _ _ _ _ hr nd=>(ai (av (bb (lc ag (lc ag (lc ag (lc ag (lc ag (lc ag (lc ag (lc ag (lc ag (l1 ag)))))))))))))) rfl
def fV(JI Le:aF):bB:=(ae (ap 1 (c3 (.str "abcdefghijklmnopqrstuvwxyz")))
  (ae (ap 2 (bL "str" cG (c3 (.str "")) [(bU (ja (am aG (c3 (.int 1)) (ak JI [(v3 0),(c3 (.int 6))]))) (.n 0) eF (am az (v3 2) (ak JI [(v3 1),(c3 (.int 26))])) 1 [0,1])]))
  (ae (a_ (aH (am (bo false) (ak JI [(v3 0),(c3 (.int 8))]) (c3 (.int 0)))) (ae (ap 3 (aS [(c3 (.str "jar")),(c3 (.str "deeds")),(c3 (.str "rests")),(c3 (.str "pays")),(c3 (.str "putt")),(c3 (.str "the")),(c3 (.str "eithe")),(c3 (.str "taken")),(c3 (.str "ofte")),(c3 (.str "user")),(c3 (.str "a"))]))
  (ap 2 (am az (v3 3) (ak JI [(v3 0),(c3 (.int 11))])))) aJ)
  (ae (a_ (aH (am (kL false) (v3 2) (ak Le []))) (ax (am aG (aA (v3 2) de (cz (u5 jZ (c3 (.int 1))))) (c3 (.str "z")))) aJ)
  (ax (v3 2))))))
def jT:aF:=bV 4 (fV w__law_draw fU)
def on(T:Txt P w K mg):e_ P w K mg base 2 "_law_name" 1 jT:=jd ["_law_deal_here","_law_letters","_law_word","_law_near"] T.o__law_name (λ_ _ _ _ _ _ _ hr nd=>(ac (s4 1 nd ag)
  (ac (s4 2 nd (gD dD fq ag (l1 (DK ["_law_letters","_law_deal_here"] 1 [0,1] ["_law_k","_law_deal_here","_law_letters"] (ft rfl rfl T.Kz (l1 (aD ay ad (c4 (ao T) hr (lc (ah 0) (l1 ad)))))) (λ_=>(gn 0 Iz)) (λ_=>jL) (λ_=>(fF hr (ah 2) (c4 (ao T) hr (lc (ah 1) (l1 ad)))))))))
  (ac (aN (fg hr (c4 (ao T) hr (lc (ah 0) (l1 ad))) ad) (ac (s4 3 nd (bb (lc ag (lc ag (lc ag (lc ag (lc ag (lc ag (lc ag (lc ag (lc ag (lc ag (l1 ag)))))))))))))
  (ai (s4 2 nd (fF hr (ah 3) (c4 (ao T) hr (lc (ah 0) (l1 ad))))))) aE)
  (ac (aN (aZ (mo (fB hr)) (ah 2) (Ih (iP T) hr) rfl) (ai (av (aD ay (aL (ah 2) bc (aP (uu i8 ad))) ag))) aE)
  (ai (av (ah 2)))))))) rfl
def cL(JI LA:aF):bB:=(ae (ap 2 (am az (v3 1) (ak JI [(v3 0),(af aT [(v3 1)])])))
  (ae (ap 3 (ak JI [(v3 0),(c3 (.int 4))]))
  (ae (a_ (aH (am (bo false) (v3 3) (c3 (.int 0)))) (ax (bG [(c3 (.str "rest"))])) aJ)
  (ae (a_ (aH (am (bo false) (v3 3) (c3 (.int 1)))) (ax (bG [(c3 (.str "pay")),(ak LA [(ak JI [(v3 0),(am az (aS [(c3 (.int 4)),(c3 (.int 1000))]) (ak JI [(v3 0),(c3 (.int 2))]))]),(am aG (c3 (.int 1)) (ak JI [(v3 0),(c3 (.int 9))]))])])) aJ)
  (ax (am az (aS [(bG [(c3 (.str "put")),(v3 2),(am aG (c3 (.int 1)) (ak JI [(v3 0),(c3 (.int 9))]))]),(bG [(c3 (.str "use")),(v3 2)])]) (am dm (v3 3) (c3 (.int 2)))))))))
def eV:aF:=bV 4 (cL w__law_draw g_)
def jn(T:Txt P w K mg):e_ P w K mg base 2 "_law_any_leaf" 2 eV:=jd ["_law_deal_here","_law_words","_law_word","_law_form"] T.o__law_any_leaf (λ_ _ _ _ _ _ _ hr nd=>(ac (s4 2 nd (fF hr (ah 1) (c4 (ao T) hr (lc (ah 0) (l1 (cB aU T.JP (l1 (ah 1))))))))
  (ac (s4 3 nd (c4 (ao T) hr (lc (ah 0) (l1 ad))))
  (ac (aN (fg hr (ah 3) ad) (ai (av (bK (l1 ag)))) aE)
  (ac (aN (fg hr (ah 3) ad) (ai (av (bK (lc ag (l1 (c4 (jS T) hr (lc (c4 (ao T) hr (lc (ah 0) (l1 (fF hr (bb (lc ad (l1 ad))) (c4 (ao T) hr (lc (ah 0) (l1 ad))))))) (l1 (aD ay ad (c4 (ao T) hr (lc (ah 0) (l1 ad)))))))))))) aE)
  (ai (av (fF hr (bb (lc (bK (lc ag (lc (ah 2) (l1 (aD ay ad (c4 (ao T) hr (lc (ah 0) (l1 ad)))))))) (l1 (bK (lc ag (l1 (ah 2))))))) (aD fy (ah 3) ad))))))))) rfl
def cM(JI L5 s0:aF):bB:=(ae (ap 4 (ak JI [(v3 0),(c3 (.int 8))]))
  (ae (a_ (fc (aH (am my (v3 2) (c3 (.int 2)))) (fc (aH (am my (v3 3) (c3 (.int 2)))) (aH (am (bo false) (v3 4) (c3 (.int 0)))))) (ax (ak L5 [(v3 0),(v3 1)])) aJ)
  (ae (a_ (fc (aH (am my (v3 2) (c3 (.int 3)))) (aH (am my (v3 4) (c3 (.int 3))))) (ax (bG [(c3 (.str "often")),(ak s0 [(v3 0),(v3 1),(am dm (v3 2) (c3 (.int 1))),(am dm (v3 3) (c3 (.int 1)))])])) aJ)
  (ae (ap 5 (am aG (c3 (.int 1)) (ak JI [(v3 0),(am dm (v3 2) (c3 (.int 2)))])))
  (ae (ap 6 (ak s0 [(v3 0),(v3 1),(v3 5),(am dm (v3 3) (c3 (.int 1)))]))
  (ae (ap 7 (ak s0 [(v3 0),(v3 1),(am dm (am dm (v3 2) (c3 (.int 1))) (v3 5)),(am dm (v3 3) (c3 (.int 1)))]))
  (ae (a_ (aH (am my (v3 4) (c3 (.int 6)))) (ax (bG [(am az (aS [(c3 (.str "then")),(c3 (.str "then")),(c3 (.str "either"))]) (am dm (v3 4) (c3 (.int 3)))),(v3 6),(v3 7)])) aJ)
  (ax (bG [(c3 (.str "take")),(am az (v3 1) (ak JI [(v3 0),(af aT [(v3 1)])])),(am aG (c3 (.int 1)) (ak JI [(v3 0),(c3 (.int 9))])),(v3 6),(v3 7)])))))))))
noncomputable def bX:Nat->aF
 |0=>Aw
 |n+1=>bV 8 (cM w__law_draw eV (bX n))
def eX:aF:=bX 12
def jo(T:Txt P w K mg):e_ P w K mg base 14 "_law_any_body" 4 eX:=DI (b:=2) (r:=bX) T.o__law_any_body (λn R0=>jd ["_law_deal_here","_law_words","_law_room","_law_down","_law_form","_law_left","_law_one","_law_other"] T.o__law_any_body (λ_ _ _ _ _ _ _ hr nd=>(ac (s4 4 nd (c4 (ao T) hr (lc (ah 0) (l1 ad))))
  (ac (aN (kK (cY (aZ jc (ah 2) ad (aQ _)) (cY (aZ jc (ah 3) ad (aQ _)) (cE (fg hr (ah 4) ad))))) (ai (av (c4 (jn T) hr (lc (ah 0) (l1 (ah 1)))))) aE)
  (ac (aN (kK (cY (aZ jc (ah 2) ad (aQ _)) (cE (aZ jc (ah 4) ad (aQ _))))) (ai (av (bK (lc ag (l1 (c4 R0 hr (lc (ah 0) (lc (ah 1) (lc (aD fy (ah 2) ad) (l1 (aD fy (ah 3) ad))))))))))) aE)
  (ac (s4 5 nd (aD ay ad (c4 (ao T) hr (lc (ah 0) (l1 (aD fy (ah 2) ad))))))
  (ac (s4 6 nd (c4 R0 hr (lc (ah 0) (lc (ah 1) (lc (ah 5) (l1 (aD fy (ah 3) ad)))))))
  (ac (s4 7 nd (c4 R0 hr (lc (ah 0) (lc (ah 1) (lc (aD fy (aD fy (ah 2) ad) (ah 5)) (l1 (aD fy (ah 3) ad)))))))
  (ac (aN (aZ jc (ah 4) ad (aQ _)) (ai (av (bK (lc (fF hr (bb (lc ag (lc ag (l1 ag)))) (aD fy (ah 4) ad)) (lc (ah 6) (l1 (ah 7))))))) aE)
  (ai (av (bK (lc ag (lc (fF hr (ah 1) (c4 (ao T) hr (lc (ah 0) (l1 (cB aU T.JP (l1 (ah 1))))))) (lc (aD ay ad (c4 (ao T) hr (lc (ah 0) (l1 ad)))) (lc (ah 6) (l1 (ah 7))))))))))))))))) rfl) rfl rfl 12
def cw:bB:=(ae (a_ (aH (am (bo false) (am az (v3 0) (c3 (.int 1))) (c3 (.int 1)))) (ax (af iB [(am az (v3 0) (c3 (.int 0)))])) aJ)
  (ax (am aG (am aG (af iB [(am az (v3 0) (c3 (.int 0)))]) (c3 (.str "/"))) (af iB [(am az (v3 0) (c3 (.int 1)))]))))
def d5:aF:=bV 1 cw
def iQ(T:Txt P w K mg):e_ P w K mg base 1 "_law_cost_text" 1 d5:=jd ["_law_cost"] T.o__law_cost_text (λ_ _ _ _ _ _ _ hr nd=>(ac (aN (fg hr (gM hr (ah 0)) ad) (ai (av (cT sw T.LH (l1 (gM hr (ah 0)))))) aE)
  (ai (av (aD ay (aD ay (cT sw T.LH (l1 (gM hr (ah 0)))) ag) (cT sw T.LH (l1 (gM hr (ah 0))))))))) rfl
def cx(LU s0:aF):bB:=(ae (a_ (aH (am (bo false) (am az (v3 0) (c3 (.int 0))) (c3 (.str "rest")))) (ax (c3 (.str "rest"))) aJ)
  (ae (ap 1 (aS [(am az (v3 0) (c3 (.int 0)))]))
  (ae (cH (bE (aA (v3 0) (cz (c3 (.int 1))) de)) (.n 2) (a_ (aH (af eC [(v3 2),(c3 (.ty "str"))])) (bh (bL "list" aI (v3 1) [(v3 2)])) (a_ (aH (af eC [(v3 2),(c3 (.ty "int"))])) (bh (bL "list" aI (v3 1) [(af iB [(v3 2)])])) (a_ (aH (af eC [(am az (v3 2) (c3 (.int 0))),(c3 (.ty "str"))])) (bh (bL "list" aI (v3 1) [(ak s0 [(v3 2)])])) (bh (bL "list" aI (v3 1) [(ak LU [(v3 2)])]))))))
  (ax (am aG (am aG (c3 (.str "(")) (bL "str" cG (c3 (.str " ")) [(v3 1)])) (c3 (.str ")")))))))
noncomputable def bR:Nat->aF
 |0=>Aw
 |n+1=>bV 3 (cx d5 (bR n))
def cy:aF:=bR 36
def dG(T:Txt P w K mg):e_ P w K mg base 37 "_law_body_text" 1 cy:=DI (b:=1) (r:=bR) T.o__law_body_text (λn R0=>jd ["_law_body","_law_wrote","_law_thing"] T.o__law_body_text (λ_ _ _ _ _ _ _ hr nd=>(ac (aN (fg hr (gM hr (ah 0)) ag) (ai (av ag)) aE)
  (ac (s4 1 nd (bb (l1 (gM hr (ah 0)))))
  (ac (eS VZ rfl (dC (aL (ah 0) (aP ad) bc)) (gn 2 nd) (ai (aN (dj (cB jJ T.JO (lc (ah 2) (l1 (Ax T.LH))))) (ai (b_ (gD bf bz (ah 1) (l1 (ah 2))))) (ai (aN (dj (cB jJ T.JO (lc (ah 2) (l1 (Ax T.Lx))))) (ai (b_ (gD bf bz (ah 1) (l1 (cT sw T.LH (l1 (ah 2))))))) (ai (aN (dj (cB jJ T.JO (lc (gM hr (ah 2)) (l1 (Ax T.LH))))) (ai (b_ (gD bf bz (ah 1) (l1 (c4 R0 hr (l1 (ah 2))))))) (ai (b_ (gD bf bz (ah 1) (l1 (c4 (iQ T) hr (l1 (ah 2))))))))))))))
  (ai (av (aD ay (aD ay ag (gD dD fq ag (l1 (ah 1)))) ag))))))) rfl) rfl rfl 36
def dy(Le:aF):bB:=(ae (a_ (fc (aH (am (kL false) (v3 0) (ak Le []))) (eZ (aH (nA my my (c3 (.int 0)) (af aT [(v3 0)]) (c3 (.int 7)))))) (ax (c3 (.bl false))) aJ)
  (ax (am (bo false) (bU (bE (v3 0)) (.n 0) (aH (am (kL true) (v3 0) (c3 (.str "abcdefghijklmnopqrstuvwxyz")))) (v3 0) 1 []) (aS []))))
def bi:aF:=bV 1 (dy fU)
def cO(T:Txt P w K mg):e_ P w K mg base 2 "_law_is_name" 1 bi:=jd ["_law_word"] T.o__law_is_name (λ_ _ _ _ _ _ _ hr nd=>(ac (aN (kK (cY (aZ (mo (fB hr)) (ah 0) (Ih (iP T) hr) rfl) (cE (iy (Aq jc jc ad (cB aU T.JP (l1 (ah 0))) ad))))) (ai (av Ad)) aE)
  (ai (av (pq (BN (pG hr)) (DK [] 1 [] ["_law_sign"] (dC (ah 0)) (λ_=>(gn 0 GE)) (λ_=>(wM (aZ (fo (fB hr)) (ah 0) ag rfl))) (λ_=>(ah 0))) (bb jH) (aQ _)))))) rfl
def fX:bB:=(ae (ap 1 (aS [(aS [])]))
  (ae (cH (bE (bL "str" nK (k4 ")" " ) " (k4 "(" " ( " (v3 0))) [])) (.n 2) (a_ (aH (am (bo false) (v3 2) (c3 (.str "(")))) (bh (bL "list" aI (v3 1) [(aS [])])) (a_ (kJ (aH (am (bo false) (v3 2) (c3 (.str ")")))) (aH (am qo (af aT [(v3 1)]) (c3 (.int 1))))) (ae (ap 3 (bL "list" qP (v3 1) []))
  (bh (bL "list" aI (am az (v3 1) (u5 jZ (c3 (.int 1)))) [(v3 3)]))) (a_ (aH (am (bo false) (v3 2) (c3 (.str ")")))) (ax (c3 .non)) (bh (bL "list" aI (am az (v3 1) (u5 jZ (c3 (.int 1)))) [(v3 2)]))))))
  (ae (a_ (fc (aH (am qo (af aT [(v3 1)]) (c3 (.int 1)))) (aH (am (bo true) (af aT [(am az (v3 1) (c3 (.int 0)))]) (c3 (.int 1))))) (ax (c3 .non)) aJ)
  (ax (am az (am az (v3 1) (c3 (.int 0))) (c3 (.int 0)))))))
def jU:aF:=bV 4 fX
def oo(T:Txt P w K mg):e_ P w K mg base 1 "_law_tree" 1 jU:=jd ["_law_text","_law_stack","_law_word","_law_one"] T.o__law_tree (λ_ _ _ _ _ _ _ hr nd=>(ac (s4 1 nd (bb (l1 (bb jH))))
  (ac (eS VZ rfl (dC (DJ bN AH (nJ (nJ (ah 0))))) (gn 2 nd) (ai (aN (fg hr (ah 2) ag) (ai (b_ (gD bf bz (ah 1) (l1 (bb jH))))) (ai (aN (kK (mm (fg hr (ah 2) ag) (i7 (aZ lX (cB aU T.JP (l1 (ah 1))) ad (aQ _))))) (ac (s4 3 nd (DJ wQ BO (ah 1)))
  (ai (b_ (gD bf bz (fF hr (ah 1) (uu i8 ad)) (l1 (ah 3)))))) (ai (aN (fg hr (ah 2) ag) (ai (av b9)) (ai (b_ (gD bf bz (fF hr (ah 1) (uu i8 ad)) (l1 (ah 2))))))))))))
  (ac (aN (kK (cY (aZ lX (cB aU T.JP (l1 (ah 1))) ad (aQ _)) (cE (oQ hr (cB aU T.JP (l1 (gM hr (ah 1)))) ad)))) (ai (av b9)) aE)
  (ai (av (gM hr (gM hr (ah 1))))))))) rfl
def dz(LA:aF):bB:=(ae (ap 1 (bL "str" bT (v3 0) [(c3 (.str "/"))]))
  (ae (cH (bE (v3 1)) (.n 2) (a_ (fc (aH (am (bo false) (v3 2) (c3 (.str "")))) (aH (am (bo true) (bU (bE (v3 2)) (.n 0) (aH (am (kL true) (v3 0) (c3 (.str "0123456789")))) (v3 0) 1 []) (aS [])))) (ax (c3 .non)) aJ))
  (ae (a_ (fc (aH (am qo (af aT [(v3 1)]) (c3 (.int 2)))) (kJ (aH (am (bo false) (af aT [(v3 1)]) (c3 (.int 2)))) (aH (am (bo false) (af cr [(am az (v3 1) (c3 (.int 1)))]) (c3 (.int 0)))))) (ax (c3 .non)) aJ)
  (ax (ak LA [(af cr [(am az (v3 1) (c3 (.int 0)))]),(af cr [(am az (am aG (v3 1) (aS [(c3 (.str "1"))])) (c3 (.int 1)))])])))))
def bO:aF:=bV 3 (dz g_)
def j3(T:Txt P w K mg):e_ P w K mg base 2 "_law_cost_of" 1 bO:=jd ["_law_word","_law_numbers","_law_number"] T.o__law_cost_of (λ_ _ _ _ _ _ _ hr nd=>(ac (s4 1 nd (gD bN cC (ah 0) (l1 ag)))
  (ac (eS VZ rfl (dC (ah 1)) (gn 2 nd) (ai (aN (kK (cY (fg hr (ah 2) ag) (cE (oQ hr (DK [] 1 [] ["_law_sign"] (dC (ah 2)) (λ_=>(gn 0 GE)) (λ_=>(wM (aZ (fo (fB hr)) (ah 0) ag rfl))) (λ_=>(ah 0))) (bb jH))))) (ai (av b9)) aE)))
  (ac (aN (kK (cY (aZ lX (cB aU T.JP (l1 (ah 1))) ad (aQ _)) (cE (kK (mm (fg hr (cB aU T.JP (l1 (ah 1))) ad) (i7 (fg hr (cT jM T.Lx (l1 (gM hr (ah 1)))) ad))))))) (ai (av b9)) aE)
  (ai (av (c4 (jS T) hr (lc (cT jM T.Lx (l1 (gM hr (ah 1)))) (l1 (cT jM T.Lx (l1 (gM hr (aD ay (ah 1) (bb (l1 ag))))))))))))))) rfl
def bY(Mh JW s0 s1:aF):bB:=(ae (a_ (aH (am (bo false) (v3 1) (c3 (.str "body")))) (ax (ak s1 [(v3 0)])) aJ)
  (ae (a_ (eZ (aH (af eC [(v3 0),(c3 (.ty "str"))]))) (ax (c3 .non)) aJ)
  (ae (a_ (aH (am (bo false) (v3 1) (c3 (.str "cost")))) (ax (ak Mh [(v3 0)])) aJ)
  (ae (a_ (aH (am (bo false) (v3 1) (c3 (.str "many")))) (ax (ut (kJ (aH (am (bo false) (af aT [(v3 0)]) (c3 (.int 1)))) (aH (am (kL false) (v3 0) (c3 (.str "123456789"))))) (af cr [(v3 0)]) (c3 .non))) aJ)
  (ax (ut (aH (ak JW [(v3 0)])) (v3 0) (c3 .non)))))))
def cj(s0 s1:aF):bB:=(ae (a_ (aH (am (bo false) (v3 0) (c3 (.str "rest")))) (ax (bG [(c3 (.str "rest"))])) aJ)
  (ae (ap 1 (fw [((c3 (.str "pay")),(aS [(c3 (.str "cost"))])),((c3 (.str "put")),(aS [(c3 (.str "name")),(c3 (.str "many"))])),((c3 (.str "then")),(aS [(c3 (.str "body")),(c3 (.str "body"))])),((c3 (.str "either")),(aS [(c3 (.str "body")),(c3 (.str "body"))]))]))
  (ae (bh (bL "dict" iD (v3 1) [(fw [((c3 (.str "take")),(aS [(c3 (.str "name")),(c3 (.str "many")),(c3 (.str "body")),(c3 (.str "body"))])),((c3 (.str "often")),(aS [(c3 (.str "body"))])),((c3 (.str "use")),(aS [(c3 (.str "name"))]))])]))
  (ae (a_ (fc (aH (af eC [(v3 0),(c3 (.ty "str"))])) (fc (aH (am (bo false) (af aT [(v3 0)]) (c3 (.int 0)))) (fc (eZ (aH (af eC [(am az (v3 0) (c3 (.int 0))),(c3 (.ty "str"))]))) (aH (am (kL true) (am az (v3 0) (c3 (.int 0))) (v3 1)))))) (ax (c3 .non)) aJ)
  (ae (ap 2 (am az (v3 1) (am az (v3 0) (c3 (.int 0)))))
  (ae (a_ (aH (am (bo true) (af aT [(v3 0)]) (am aG (af aT [(v3 2)]) (c3 (.int 1))))) (ax (c3 .non)) aJ)
  (ae (ap 3 (bU (wO (aA (v3 0) (cz (c3 (.int 1))) de) (v3 2)) (.tp (.cons (.n 0) (.cons (.n 1) .nil))) eF (ak s0 [(v3 0),(v3 1)]) 2 []))
  (ae (a_ (aH (am (kL false) (c3 .non) (v3 3))) (ax (c3 .non)) aJ)
  (ax (af bC [(am aG (aA (v3 0) de (cz (c3 (.int 1)))) (v3 3))]))))))))))
noncomputable def bg:Nat->aF×aF
 |0=>(Aw,Aw)
 |n+1=>(bV 2 (bY bO bi (bg n).1 (bg n).2),bV 4 (cj (bg n).1 (bg n).2))
def cP(n:Nat):aF:=(bg n).1
def ck(n:Nat):aF:=(bg n).2
def jp(T:Txt P w K mg)(n:Nat){s0 s1:aF}(R0:e_ P w K mg base (2+n) "_law_thing_of" 2 s0)(R1:e_ P w K mg base (2+n) "_law_body_of" 1 s1):e_ P w K mg base (2+n+1) "_law_thing_of" 2 (bV 2 (bY bO bi s0 s1)):=jd ["_law_tree_here","_law_sort"] T.o__law_thing_of (λ_ _ _ _ _ _ _ hr nd=>(ac (aN (fg hr (ah 1) ag) (ai (av (c4 R1 hr (l1 (ah 0))))) aE)
  (ac (aN (iy (dj (cB jJ T.JO (lc (ah 0) (l1 (Ax T.LH)))))) (ai (av b9)) aE)
  (ac (aN (fg hr (ah 1) ag) (ai (av (c4 (j3 T) hr (l1 (ah 0))))) aE)
  (ac (aN (fg hr (ah 1) ag) (ai (av (BM (kK (mm (fg hr (cB aU T.JP (l1 (ah 0))) ad) (i7 (aZ (mo (fB hr)) (ah 0) ag rfl)))) (cT jM T.Lx (l1 (ah 0))) b9))) aE)
  (ai (av (BM (dj (c4 (cO T) hr (l1 (ah 0)))) (ah 0) b9)))))))) rfl
def j4(T:Txt P w K mg)(n:Nat){s0 s1:aF}(R0:e_ P w K mg base (2+n) "_law_thing_of" 2 s0)(R1:e_ P w K mg base (2+n) "_law_body_of" 1 s1):e_ P w K mg base (2+n+1) "_law_body_of" 1 (bV 4 (cj s0 s1)):=jd ["_law_tree_here","_law_sorts","_law_wrote","_law_things"] T.o__law_body_of (λ_ _ _ _ _ _ _ hr nd=>(ac (aN (fg hr (ah 0) ag) (ai (av (bK (l1 ag)))) aE)
  (ac (s4 1 nd (qS (cA ag (bb (l1 ag)) (cA ag (bb (lc ag (l1 ag))) (cA ag (bb (lc ag (l1 ag))) (cA ag (bb (lc ag (l1 ag))) qR))))))
  (ac (b_ (gD uH xt (ah 1) (l1 (qS (cA ag (bb (lc ag (lc ag (lc ag (l1 ag))))) (cA ag (bb (l1 ag)) (cA ag (bb (l1 ag)) qR)))))))
  (ac (aN (kK (cY (dj (cB jJ T.JO (lc (ah 0) (l1 (Ax T.LH))))) (cY (fg hr (cB aU T.JP (l1 (ah 0))) ad) (cY (iy (dj (cB jJ T.JO (lc (gM hr (ah 0)) (l1 (Ax T.LH)))))) (cE (aZ (fo (fB hr)) (gM hr (ah 0)) (ah 1) rfl)))))) (ai (av b9)) aE)
  (ac (s4 2 nd (fF hr (ah 1) (gM hr (ah 0))))
  (ac (aN (oQ hr (cB aU T.JP (l1 (ah 0))) (aD ay (cB aU T.JP (l1 (ah 2))) ad)) (ai (av b9)) aE)
  (ac (Ii [] 2 [] ["_law_one","_law_sort"] 3 nd (DH rfl rfl rfl T.Qk (by decide +kernel) (lc (aL (ah 0) (aP ad) bc) (l1 (ah 2)))) (λ_=>(Jq rfl (wJ (gn 0 GF) (wJ (gn 1 GF) F_)))) (λ_=>jL) (λ_=>(c4 R0 hr (lc (ah 0) (l1 (ah 1))))))
  (ac (aN (aZ (mo (fB hr)) b9 (ah 3) rfl) (ai (av b9)) aE)
  (ai (av (cT gj T.Lv (l1 (aD ay (aL (ah 0) bc (aP ad)) (ah 3))))))))))))))) rfl
theorem dH(T:Txt P w K mg):∀n:Nat,e_ P w K mg base (2+n) "_law_thing_of" 2 (cP n)/\e_ P w K mg base (2+n) "_law_body_of" 1 (ck n)
 |0=>⟨.zero T.o__law_thing_of,.zero T.o__law_body_of⟩
 |n+1=>let ⟨h0,h1⟩:=dH T n;⟨jp T n h0 h1,j4 T n h0 h1⟩
def fY:aF:=ck 72
def j5(T:Txt P w K mg):e_ P w K mg base 74 "_law_body_of" 1 fY:=(dH T 72).2
def cQ(MV Mi Kf:aF):bB:=(ae (ap 1 (ak MV [(v3 0)]))
  (ae (ap 2 (c3 .non))
  (ae (a_ (aH (am (pA true) (v3 1) (c3 .non))) (ap 2 (ak Mi [(v3 1)])) aJ)
  (ae (a_ (fc (aH (am (pA false) (v3 2) (c3 .non))) (aH (am (bo true) (ak Kf [(v3 2)]) (v3 0)))) (ax (c3 .non)) aJ)
  (ax (v3 2))))))
def cR:aF:=bV 3 (cQ jU fY cy)
def jq(T:Txt P w K mg):e_ P w K mg base 75 "_law_body_due" 1 cR:=jd ["_law_text","_law_tree_here","_law_found"] T.o__law_body_due (λ_ _ _ _ _ _ _ hr nd=>(ac (s4 1 nd (c4 (oo T) hr (l1 (ah 0))))
  (ac (s4 2 nd b9)
  (ac (aN (aZ wu (ah 1) b9 (aQ _)) (ai (s4 2 nd (c4 (j5 T) hr (l1 (ah 1))))) aE)
  (ac (aN (kK (cY (aZ wt (ah 2) b9 (aQ _)) (cE (oQ hr (c4 (dG T) hr (l1 (ah 2))) (ah 0))))) (ai (av b9)) aE)
  (ai (av (ah 2)))))))) rfl
def dW(JI MD:aF):bB:=(ae (ap 2 (ak JI [(v3 0),(am aG (af aT [(v3 1)]) (c3 (.int 1)))]))
  (ae (ap 3 (ak JI [(v3 0),(c3 (.int 9))]))
  (ae (ap 4 (am az (aS [(ak MD []),(c3 (.str "() /0:9"))]) (ak JI [(v3 0),(c3 (.int 2))])))
  (ae (ap 5 (am az (v3 4) (ak JI [(v3 0),(af aT [(v3 4)])])))
  (ae (a_ (aH (am my (v3 3) (c3 (.int 3)))) (ax (am aG (am aG (aA (v3 1) de (cz (v3 2))) (am az (aS [(v3 5),(c3 (.str "")),(v3 5)]) (v3 3))) (aA (v3 1) (cz (am aG (v3 2) (af cr [(am qo (v3 3) (c3 (.int 0)))]))) de))) aJ)
  (ae (ap 6 (bL "str" bT (v3 1) [(c3 (.str " "))]))
  (ae (ap 7 (ak JI [(v3 0),(af aT [(v3 6)])]))
  (ae (ap 8 (ak JI [(v3 0),(af aT [(v3 6)])]))
  (ae (a_ (aH (am (bo false) (v3 3) (c3 (.int 3)))) (ap 6 (am aG (aA (v3 6) de (cz (v3 7))) (aA (v3 6) (cz (am aG (v3 7) (c3 (.int 1)))) de))) (a_ (aH (am (bo false) (v3 3) (c3 (.int 4)))) (ap 6 (am aG (am aG (aA (v3 6) de (cz (v3 7))) (aA (v3 6) (cz (v3 7)) (cz (am aG (v3 7) (c3 (.int 1)))))) (aA (v3 6) (cz (v3 7)) de))) (a_ (aH (am my (v3 3) (c3 (.int 7)))) (pL (bG [(am az (v3 6) (v3 8)),(am az (v3 6) (v3 7))]) (v3 6) (v3 7) (v3 6) (v3 8)) (ae (ap 9 (aS [(c3 (.str "rest")),(c3 (.str "(rest)")),(c3 (.str "0")),(c3 (.str "10")),(c3 (.str "01")),(c3 (.str "2/4")),(c3 (.str "5/1")),(c3 (.str "-1")),(c3 (.str "1/0")),(c3 (.str "deed")),(c3 (.str "jars")),(c3 (.str ":")),(c3 (.str "abcdefg")),(c3 (.str "(use a)"))]))
  (i_ (am az (v3 9) (ak JI [(v3 0),(c3 (.int 14))])) (v3 6) (v3 7))))))
  (ax (bL "str" cG (c3 (.str " ")) [(v3 6)])))))))))))
def dX:aF:=bV 10 (dW w__law_draw iO)
def lD(T:Txt P w K mg):e_ P w K mg base 2 "_law_spoilt" 2 dX:=jd ["_law_deal_here","_law_text","_law_at","_law_form","_law_signs_here","_law_sign","_law_words","_law_spot","_law_far","_law_some"] T.o__law_spoilt (λ_ _ _ _ _ _ _ hr nd=>(ac (s4 2 nd (c4 (ao T) hr (lc (ah 0) (l1 (aD ay (cB aU T.JP (l1 (ah 1))) ad)))))
  (ac (s4 3 nd (c4 (ao T) hr (lc (ah 0) (l1 ad))))
  (ac (s4 4 nd (fF hr (bb (lc (Ih (l5 T) hr) (l1 ag))) (c4 (ao T) hr (lc (ah 0) (l1 ad)))))
  (ac (s4 5 nd (fF hr (ah 4) (c4 (ao T) hr (lc (ah 0) (l1 (cB aU T.JP (l1 (ah 4))))))))
  (ac (aN (aZ jc (ah 3) ad (aQ _)) (ai (av (aD ay (aD ay (aL (ah 1) bc (aP (ah 2))) (fF hr (bb (lc (ah 5) (lc ag (l1 (ah 5))))) (ah 3))) (aL (ah 1) (aP (aD ay (ah 2) (cT jM T.Lx (l1 (pq lX (ah 3) ad (aQ _)))))) bc)))) aE)
  (ac (s4 6 nd (gD bN cC (ah 1) (l1 ag)))
  (ac (s4 7 nd (c4 (ao T) hr (lc (ah 0) (l1 (cB aU T.JP (l1 (ah 6)))))))
  (ac (s4 8 nd (c4 (ao T) hr (lc (ah 0) (l1 (cB aU T.JP (l1 (ah 6)))))))
  (ac (aN (fg hr (ah 3) ad) (ai (s4 6 nd (aD ay (aL (ah 6) bc (aP (ah 7))) (aL (ah 6) (aP (aD ay (ah 7) ad)) bc)))) (ai (aN (fg hr (ah 3) ad) (ai (s4 6 nd (aD ay (aD ay (aL (ah 6) bc (aP (ah 7))) (aL (ah 6) (aP (ah 7)) (aP (aD ay (ah 7) ad)))) (aL (ah 6) (aP (ah 7)) bc)))) (ai (aN (aZ jc (ah 3) ad (aQ _)) (ai (xu (zj hr) (bK (lc (fF hr (ah 6) (ah 8)) (l1 (fF hr (ah 6) (ah 7))))) (ah 6) (ah 7) (ah 6) (ah 8))) (ac (s4 9 nd (bb (lc ag (lc ag (lc ag (lc ag (lc ag (lc ag (lc ag (lc ag (lc ag (lc ag (lc ag (lc ag (lc ag (l1 ag))))))))))))))))
  (ai (mq (zj hr) (fF hr (ah 9) (c4 (ao T) hr (lc (ah 0) (l1 ad)))) (ah 6) (ah 7)))))))))
  (ai (av (gD dD fq ag (l1 (ah 6))))))))))))))) rfl
def cS(JI MW L6 Kf:aF):bB:=(ae (ap 2 (bU (ja (am aG (c3 (.int 2)) (ak JI [(v3 0),(c3 (.int 4))]))) (.n 0) eF (ak MW [(v3 1)]) 1 [0]))
  (ae (ap 3 (aS [(bL "str" cG (c3 (.str " ")) [(am aG (aS [(c3 (.str "jars"))]) (aA (v3 2) de (cz (ak JI [(v3 0),(c3 (.int 5))]))))])]))
  (ae (cH (ja (am aG (c3 (.int 1)) (ak JI [(v3 0),(c3 (.int 4))]))) (.n 1) (ae (ap 4 (ak L6 [(v3 0),(v3 2),(am aG (c3 (.int 1)) (ak JI [(v3 0),(c3 (.int 9))])),(c3 (.int 5))]))
  (bh (bL "list" aI (v3 3) [(am aG (am aG (am aG (c3 (.str "deed ")) (am az (v3 2) (ak JI [(v3 0),(af aT [(v3 2)])]))) (c3 (.str " : "))) (ak Kf [(v3 4)]))]))))
  (ax (v3 3)))))
def cU:aF:=bV 5 (cS w__law_draw jT eX cy)
def jr(T:Txt P w K mg):e_ P w K mg base 38 "_law_any_text" 1 cU:=jd ["_law_deal_here","_law_k","_law_words","_law_rows","_law_body"] T.o__law_any_text (λ_ _ _ _ _ _ _ hr nd=>(ac (Ii ["_law_deal_here"] 1 [0] ["_law_k","_law_deal_here"] 2 nd (ft rfl rfl T.Kz (l1 (aD ay ad (c4 (ao T) hr (lc (ah 0) (l1 ad)))))) (λ_=>(gn 0 IA)) (λ_=>jL) (λ_=>(c4 (on T) hr (l1 (ah 1)))))
  (ac (s4 3 nd (bb (l1 (gD dD fq ag (l1 (aD ay (bb (l1 ag)) (aL (ah 2) bc (aP (c4 (ao T) hr (lc (ah 0) (l1 ad)))))))))))
  (ac (eS VZ rfl (ft rfl rfl T.Kz (l1 (aD ay ad (c4 (ao T) hr (lc (ah 0) (l1 ad)))))) (gn 1 nd) (ac (s4 4 nd (c4 (jo T) hr (lc (ah 0) (lc (ah 2) (lc (aD ay ad (c4 (ao T) hr (lc (ah 0) (l1 ad)))) (l1 ad))))))
  (ai (b_ (gD bf bz (ah 3) (l1 (aD ay (aD ay (aD ay ag (fF hr (ah 2) (c4 (ao T) hr (lc (ah 0) (l1 (cB aU T.JP (l1 (ah 2)))))))) ag) (c4 (dG T) hr (l1 (ah 4))))))))))
  (ai (av (ah 3))))))) rfl
def cV(JW L7:aF):bB:=(ae (ap 1 (bL "str" bT (v3 0) [(c3 (.str " "))]))
  (ae (a_ (fc (aH (am my (af aT [(v3 1)]) (c3 (.int 4)))) (fc (aH (am (bo true) (am az (v3 1) (c3 (.int 0))) (c3 (.str "deed")))) (fc (aH (am (bo true) (am az (v3 1) (c3 (.int 2))) (c3 (.str ":")))) (eZ (aH (ak JW [(am az (v3 1) (c3 (.int 1)))])))))) (ax (c3 .non)) aJ)
  (ae (ap 2 (ak L7 [(bL "str" cG (c3 (.str " ")) [(aA (v3 1) (cz (c3 (.int 3))) de)])]))
  (ae (a_ (aH (am (pA false) (v3 2) (c3 .non))) (ax (c3 .non)) aJ)
  (ax (bG [(am az (v3 1) (c3 (.int 1))),(v3 2)]))))))
def eY:aF:=bV 3 (cV bi cR)
def jt(T:Txt P w K mg):e_ P w K mg base 76 "_law_deed_due" 1 eY:=jd ["_law_row","_law_pieces","_law_body"] T.o__law_deed_due (λ_ _ _ _ _ _ _ hr nd=>(ac (s4 1 nd (gD bN cC (ah 0) (l1 ag)))
  (ac (aN (kK (cY (aZ jc (cB aU T.JP (l1 (ah 1))) ad (aQ _)) (cY (oQ hr (gM hr (ah 1)) ag) (cY (oQ hr (gM hr (ah 1)) ag) (cE (iy (dj (c4 (cO T) hr (l1 (gM hr (ah 1))))))))))) (ai (av b9)) aE)
  (ac (s4 2 nd (c4 (jq T) hr (l1 (gD dD fq ag (l1 (aL (ah 1) (aP ad) bc))))))
  (ac (aN (aZ wt (ah 2) b9 (aQ _)) (ai (av b9)) aE)
  (ai (av (bK (lc (gM hr (ah 1)) (l1 (ah 2))))))))))) rfl
def hG(JW L8:aF):bB:=(ae (ap 1 (bL "str" bT (v3 0) [(c3 (.str "\n"))]))
  (ae (ap 2 (bL "str" bT (am az (v3 1) (c3 (.int 0))) [(c3 (.str " "))]))
  (ae (a_ (fc (aH (am (bo true) (am az (v3 2) (c3 (.int 0))) (c3 (.str "jars")))) (eZ (aH (af nr [(bU (bE (aA (v3 2) (cz (c3 (.int 1))) de)) (.n 0) eF (ak JW [(v3 0)]) 1 [])])))) (ax (c3 (.int 0))) aJ)
  (ae (ap 3 (aS []))
  (ae (cH (pD (c3 (.int 1)) (af aT [(v3 1)])) (.n 4) (ae (ap 5 (ak L8 [(am az (v3 1) (v3 4))]))
  (ae (a_ (aH (am (pA false) (v3 5) (c3 .non))) (ax (v3 4)) aJ)
  (bh (bL "list" aI (v3 3) [(v3 5)])))))
  (ae (a_ (aH (am (bo false) (af aT [(v3 3)]) (c3 (.int 0)))) (ax (af aT [(v3 1)])) aJ)
  (ax (bG [(af bC [(aA (v3 2) (cz (c3 (.int 1))) de)]),(af bC [(v3 3)])]))))))))
def hJ:aF:=bV 6 (hG bi eY)
def pV(T:Txt P w K mg):e_ P w K mg base 77 "_law_due" 1 hJ:=jd ["_law_text","_law_rows","_law_words","_law_deeds","_law_at","_law_one"] T.o__law_due (λ_ _ _ _ _ _ _ hr nd=>(ac (s4 1 nd (gD bN cC (ah 0) (l1 ag)))
  (ac (s4 2 nd (gD bN cC (gM hr (ah 1)) (l1 ag)))
  (ac (aN (kK (cY (oQ hr (gM hr (ah 2)) ag) (cE (iy (dj (cB (wD rfl) T.Of (l1 (DK [] 1 [] ["_law_word"] (dC (aL (ah 2) (aP ad) bc)) (λ_=>(gn 0 IB)) (λ_=>jL) (λ_=>(c4 (cO T) hr (l1 (ah 0)))))))))))) (ai (av ad)) aE)
  (ac (s4 3 nd (bb jH))
  (ac (eS VZ rfl (pE rfl rfl rfl T.Kz (lc ad (l1 (cB aU T.JP (l1 (ah 1)))))) (gn 4 nd) (ac (s4 5 nd (c4 (jt T) hr (l1 (fF hr (ah 1) (ah 4)))))
  (ac (aN (aZ wt (ah 5) b9 (aQ _)) (ai (av (ah 4))) aE)
  (ai (b_ (gD bf bz (ah 3) (l1 (ah 5))))))))
  (ac (aN (fg hr (cB aU T.JP (l1 (ah 3))) ad) (ai (av (cB aU T.JP (l1 (ah 1))))) aE)
  (ai (av (bK (lc (cT gj T.Lv (l1 (aL (ah 2) (aP ad) bc))) (l1 (cT gj T.Lv (l1 (ah 3))))))))))))))) rfl
def eO:bB:=(ae (ap 1 (af (kX MP) [(v3 0),(bG [(c3 (.cls "NoHouse")),(c3 (.cls "NoRow")),(c3 (.cls "NoStory")),(c3 (.cls "Stuck")),(c3 (.cls "TooLong")),(c3 (.cls "TooMany"))])]))
  (ae (a_ (fc (aH (v3 1)) (fc (eZ (aH (af (kX MP) [(v3 0),(c3 (.cls "BadText"))]))) (fc (eZ (aH (af (kX MP) [(v3 0),(c3 (.ty "ValueError"))]))) (aH (af eC [(mz QS "row" (v3 0)),(c3 (.ty "bool"))]))))) (ax (u5 jZ (c3 (.int 1)))) aJ)
  (ax (mz QS "row" (v3 0)))))
def iR:aF:=bV 2 eO
def lE(T:Txt P w K mg):Js P w K mg base 1 "_law_heard" 1 iR:=jd ["_law_caught","_law_others"] T.o__law_heard (λ_ _ _ _ _ _ _ hr nd=>(ac (s4 1 nd (cB (qV T.Oi) T.JO (lc (ah 0) (l1 (bK (lc (DL T.NN) (lc (DL T.OL) (lc (DL T.NP) (lc (DL T.OK) (lc (DL T.NO) (l1 (DL T.NQ))))))))))))
  (ac (aN (kK (cY (dj (ah 1)) (cY (iy (dj (cB (qV T.Oi) T.JO (lc (ah 0) (l1 (DL T.NL)))))) (cY (iy (dj (cB (qV T.Oi) T.JO (lc (ah 0) (l1 (Ax T.MB)))))) (cE (dj (cB jJ T.JO (lc (wP T.x_at (ah 0) rfl) (l1 (Ax T.Po)))))))))) (ai (av (uu i8 ad))) aE)
  (ai (av (wP T.x_at (ah 0) rfl)))))) rfl
def fZ(ME MF:aF):bB:=(ae (Au ["BadText"] 2 (ap 1 (bG [(c3 (.str "told")),(aR ME [(v3 0)])])) (ap 1 (bG [(c3 (.str "refused")),(ak MF [(v3 2)])])))
  (ax (v3 1)))
def f7:aF:=bV 3 (fZ eM iR)
def oq(T:Txt P w K mg):e_ P w K mg base 45 "_law_read" 1 f7:=jd ["_law_text","_law_found","e"] T.o__law_read (λ_ _ _ _ _ _ _ hr nd=>(ac (Iq 2 T.Nh nd (λE pins hp=>(ai (s4 1 nd (bK (lc ag (l1 (cX (l4 T) hr (l1 (ah 0))))))))) (λa=>(ai (s4 1 nd (bK (lc ag (l1 (c4 (lE T) (Gi hr) (l1 (ah 2))))))))))
  (ai (av (ah 1))))) rfl
def dA(JI Mq:aF):bB:=(ae (ap 1 (af gW [(v3 1)]))
  (ae (ap 2 (ak JI [(v3 0),(af aT [(v3 1)])]))
  (ae (ap 3 (ak JI [(v3 0),(af aT [(v3 1)])]))
  (ae (ap 4 (ak JI [(v3 0),(c3 (.int 11))]))
  (ae (a_ (kJ (aH (am (bo false) (v3 4) (c3 (.int 0)))) (aH (am qo (af aT [(v3 1)]) (c3 (.int 1))))) (ax (am aG (aA (v3 1) de (cz (v3 2))) (aA (v3 1) (cz (am aG (v3 2) (c3 (.int 1)))) de))) aJ)
  (ae (a_ (aH (am (bo false) (v3 4) (c3 (.int 1)))) (ax (am aG (am aG (aA (v3 1) de (cz (v3 2))) (aS [(am az (v3 1) (v3 3))])) (aA (v3 1) (cz (v3 2)) de))) aJ)
  (ae (a_ (aH (am (bo false) (v3 4) (c3 (.int 2)))) (pL (bG [(am az (v3 1) (v3 3)),(am az (v3 1) (v3 2))]) (v3 1) (v3 2) (v3 1) (v3 3)) (a_ (aH (am (bo false) (v3 4) (c3 (.int 3)))) (ax (am aG (am aG (aA (v3 1) de (cz (v3 2))) (aS [(am az (aS [(c3 (.str "")),(c3 (.str " ")),(c3 (.str "jars")),(c3 (.str "deed a :")),(c3 (.str "deed : rest"))]) (ak JI [(v3 0),(c3 (.int 5))]))])) (aA (v3 1) (cz (v3 2)) de))) (a_ (aH (am (bo false) (v3 4) (c3 (.int 4)))) (i_ (aA (am az (v3 1) (v3 2)) de (cz (ak JI [(v3 0),(am aG (af aT [(am az (v3 1) (v3 2))]) (c3 (.int 1)))]))) (v3 1) (v3 2)) (a_ (aH (am (bo false) (v3 4) (c3 (.int 5)))) (ax (aA (v3 1) de (cz (c3 (.int 1))))) (i_ (ak Mq [(v3 0),(am az (v3 1) (v3 2))]) (v3 1) (v3 2))))))
  (ax (v3 1)))))))))
def f_:aF:=bV 5 (dA w__law_draw dX)
def j6(T:Txt P w K mg):e_ P w K mg base 3 "_law_changed" 2 f_:=jd ["_law_deal_here","_law_rows","_law_at","_law_other","_law_form"] T.o__law_changed (λ_ _ _ _ _ _ _ hr nd=>(ac (s4 1 nd (cT (Du rfl) T.Og (l1 (ah 1))))
  (ac (s4 2 nd (c4 (ao T) hr (lc (ah 0) (l1 (cB aU T.JP (l1 (ah 1)))))))
  (ac (s4 3 nd (c4 (ao T) hr (lc (ah 0) (l1 (cB aU T.JP (l1 (ah 1)))))))
  (ac (s4 4 nd (c4 (ao T) hr (lc (ah 0) (l1 ad))))
  (ac (aN (kK (mm (fg hr (ah 4) ad) (i7 (aZ lX (cB aU T.JP (l1 (ah 1))) ad (aQ _))))) (ai (av (aD ay (aL (ah 1) bc (aP (ah 2))) (aL (ah 1) (aP (aD ay (ah 2) ad)) bc)))) aE)
  (ac (aN (fg hr (ah 4) ad) (ai (av (aD ay (aD ay (aL (ah 1) bc (aP (ah 2))) (bb (l1 (fF hr (ah 1) (ah 3))))) (aL (ah 1) (aP (ah 2)) bc)))) aE)
  (ac (aN (fg hr (ah 4) ad) (ai (xu (zj hr) (bK (lc (fF hr (ah 1) (ah 3)) (l1 (fF hr (ah 1) (ah 2))))) (ah 1) (ah 2) (ah 1) (ah 3))) (ai (aN (fg hr (ah 4) ad) (ai (av (aD ay (aD ay (aL (ah 1) bc (aP (ah 2))) (bb (l1 (fF hr (bb (lc ag (lc ag (lc ag (lc ag (l1 ag)))))) (c4 (ao T) hr (lc (ah 0) (l1 ad))))))) (aL (ah 1) (aP (ah 2)) bc)))) (ai (aN (fg hr (ah 4) ad) (ai (mq (zj hr) (aL (fF hr (ah 1) (ah 2)) bc (aP (c4 (ao T) hr (lc (ah 0) (l1 (aD ay (cB aU T.JP (l1 (fF hr (ah 1) (ah 2)))) ad)))))) (ah 1) (ah 2))) (ai (aN (fg hr (ah 4) ad) (ai (av (aL (ah 1) bc (aP ad)))) (ai (mq (zj hr) (c4 (lD T) hr (lc (ah 0) (l1 (fF hr (ah 1) (ah 2))))) (ah 1) (ah 2))))))))))
  (ai (av (ah 1))))))))))) rfl
def xS(MX L9 JI Mj Ni MY:aF):bB:=(ae (ap 1 (ak MX [(v3 0),(c3 (.int 0))]))
  (ae (ap 2 (ak L9 [(v3 1)]))
  (ae (ap 3 (aS [(c3 (.str "")),(c3 (.str "jars")),(bL "str" cG (c3 (.str "\n")) [(v3 2)])]))
  (ae (cH (ja (c3 (.int 5))) (.n 4) (ae (ap 5 (v3 2))
  (ae (cH (ja (am aG (c3 (.int 1)) (ak JI [(v3 1),(c3 (.int 2))]))) (.n 6) (ap 5 (ak Mj [(v3 1),(v3 5)])))
  (bh (bL "list" aI (v3 3) [(bL "str" cG (c3 (.str "\n")) [(v3 5)])])))))
  (ae (cH (bE (am aG (v3 3) (xv (v3 3) (u5 jZ (c3 (.int 1)))))) (.n 7) (ae (ap 8 (ak Ni [(v3 7)]))
  (a_ (aH (am (bo true) (af mC [(ak MY [(v3 7)])]) (af mC [(bG [(am az (aS [(c3 (.str "told")),(c3 (.str "refused"))]) (af cr [(af eC [(v3 8),(c3 (.ty "int"))])])),(v3 8)])]))) (ax (c3 (.bl false))) aJ)))
  (ax (c3 (.bl true))))))))
def pX:aF:=bV 9 (xS jR cU w__law_draw f_ hJ f7)
def Ep(T:Txt P w K mg){f:Addr}{fd:FuncData}(O:Hb K mg "law" (top 54) ["_law_script"] f fd):HY P w K mg base 78 f fd ["_law_script"] pX:=Ju ["_law_script","_law_deal_here","_law_good","_law_texts","_law_k","_law_rows","_law_turn","_law_text","_law_due_here"] O (λ_ _ _ _ _ _ _ hr nd=>(ac (s4 1 nd (c4 (om T) hr (lc (ah 0) (l1 ad))))
  (ac (s4 2 nd (c4 (jr T) hr (l1 (ah 1))))
  (ac (s4 3 nd (bb (lc ag (lc ag (l1 (gD dD fq ag (l1 (ah 2))))))))
  (ac (eS VZ rfl (ft rfl rfl T.Kz (l1 ad)) (gn 4 nd) (ac (s4 5 nd (ah 2))
  (ac (eS VZ rfl (ft rfl rfl T.Kz (l1 (aD ay ad (c4 (ao T) hr (lc (ah 1) (l1 ad)))))) (gn 6 nd) (ai (s4 5 nd (c4 (j6 T) hr (lc (ah 1) (l1 (ah 5)))))))
  (ai (b_ (gD bf bz (ah 3) (l1 (gD dD fq ag (l1 (ah 5))))))))))
  (ac (eS VZ rfl (dC (aD ay (ah 3) (DR (ah 3) (uu i8 ad)))) (gn 7 nd) (ac (s4 8 nd (c4 (pV T) hr (l1 (ah 7))))
  (ai (aN (oQ hr (cB (xi (pG hr) hr.gd) T.Oh (l1 (c4 (oq T) hr (l1 (ah 7))))) (cB (xi (pG hr) hr.gd) T.Oh (l1 (bK (lc (fF hr (bb (lc ag (l1 ag))) (cT jM T.Lx (l1 (cB jJ T.JO (lc (ah 8) (l1 (Ax T.Lx))))))) (l1 (ah 8))))))) (ai (av Ad)) aE))))
  (ai (av Ad)))))))) rfl
end
end G08
namespace G08
open PySem L2 L3 Wd
open C CX T5
noncomputable abbrev bt:PV:=.exc "BadText" ["row"] [.int 0]
def toS(n:Int):PySem.Str.ofString (toString n)=ofL (num n):=(du _).symm
def ju{n:Int}(h:n.natAbs < 10 ^ 60):n.natAbs.log2 < 1920:=by
 by_cases h0:n.natAbs=0
 .rw[h0];decide
 .rw[Nat.log2_lt h0]
  exact UU h (by decide)
def dI{n:Int}{k:Nat}(h:n.natAbs < 10 ^ (k+1)):(num n).length<=k+2:=by
 rcases Int.eq_nat_or_neg n with⟨m,rfl|rfl⟩
 .rw[bx];have:=nI (k:=k) (m:=m) (by simpa using h);omega
 .by_cases h0:0 < m
  .rw[AA m h0];have:=nI (k:=k) (m:=m) (by simpa using h);simp;omega
  .have:m=0:=by omega
   subst this
   show(num ((0:Nat):Int)).length<=_
   rw[bx,Lc (by decide)];simp
def ln{n m:Nat}(h:n<=m)(hm:m<=100000:=by decide):n<=sizeLine:=UN h (UN hm (by decide))
def IC:zA 10 60:=⟨by decide,by decide,by decide⟩
noncomputable def mH(c:Nat):Bool:=decide (c∈(PySem.Str.ofString "0123456789").cps.toList)
def Md{c:Nat}:mH c=true↔48<=c/\c<=57:=by
 unfold mH
 rw[decide_eq_true_iff,show(PySem.Str.ofString "0123456789").cps.toList=[48,49,50,51,52,53,54,55,56,57] from rfl]
 simp only[UI,UW,Vy]
 omega
def Nv{l:List Nat}:l.all mH=true↔NumText.AllDigits l:=by
 rw[VD]
 exact⟨λh c hc=>Md.mp (h c hc),λh c hc=>Md.mpr (h c hc)⟩
theorem gv{α:Type}(f:α->Bool):∀l:List α,jI (l.map λc=>PV.bl (f c))=some (l.map f)
 |[]=>rfl
 |a::r=>by rw[UE,jI,gv f r];rfl
def xT{c:Nat}:(false != !(Builtin.Str.occurrences (PySem.Str.ofString "0123456789") (sgn c) 0 (PySem.Str.ofString "0123456789").length 1).isEmpty)=mH c:=by
 unfold mH
 rw[<-WZ,U6]
abbrev B2(w:aF):Prop:=∀{S:aq}{l:List Nat}{Q:bP}{E:cq},l.length<=60->(∀v S',rf l=some v->Ext S S'->Q (.int (v:Int)) S')->(∀S',rf l=none->Ext S S'->E bt [] S')->w [.str (ofL l)] S Q E
def xU:B2 (dr 4 dv):=by
 intro S l Q E hl k1 k2
 unfold dv
 refine rg ?_
 rw[show aB 4 [PV.str (ofL l)]=[some (.str (ofL l)),none,none,none] from rfl]
 walk_at "5"
 by_cases hz:l=[]
 .subst hz
  walk_at "x"
  rw[show decide (ofL []=Str.ofString "")=true from by decide]
  walk_at "y"
  exact k2 _ (ke λz=>z.1.1 rfl) .refl
 walk_at "x"
 rw[show decide (ofL l=Str.ofString "")=false from UO λe=>hz (U4 (λz:Str=>z.cps.toList) e)]
 walk_at "y"
 refine jg (λc=>PV.str (sgn c)) (λc=>PV.bl (mH c)) trivial l [] (λc _=>⟨_,rfl,λQ q=>?_⟩) (ln (m:=60) (by simpa using hl)) ?_
 .show Q (.bl (false != !(Builtin.Str.occurrences (PySem.Str.ofString "0123456789") (sgn c) 0 (PySem.Str.ofString "0123456789").length 1).isEmpty)) S
  rw[xT];exact q
 intro p hp
 simp only[nr,aa,List.nil_append,gv]
 have ea:(l.map mH).all id=l.all mH:=by rw[List.all_map];rfl
 rw[ea]
 have X1:Ext S (JH S p (.lst (l.map λc=>PV.bl (mH c)))):=.new hp
 generalize JH S p (.lst (l.map λc=>PV.bl (mH c)))=S1 at X1
 by_cases hd:l.all mH=true
 .rw[hd]
  walk_at "y"
  walk_at "0"
  have hd:=Nv.mp hd
  cases l with
  |nil=>exact absurd rfl hz
  |cons c r=>
  walk_at "x"
  refine⟨ln (m:=60) hl,?_⟩
  rw[show Kn (ofL (c::r)).cps.toList 0=some c from b6 (j:=0) rfl]
  dsimp only
  have rest:kZ (c::r)->N [some (PV.str (ofL (c::r))),none,none,none] S1:=by
   intro hc
   have ok:u8 (c::r):=⟨hz,hd⟩
   have hv:rf (c::r)=some (NumText.digitsVal (c::r)):=sE ok hc
   walk_at "0"
   walk_at "x"
   walk_at "0"
   walk_at "x"
   have T_:((ofL (c::r)).length:Int)+(-((ofL (c::r)).length:Int)).fmod 60=60:=by
    rw[JL,Int.fmod_eq_emod_of_nonneg _ (by decide)]
    have:1<=(c::r).length:=by simp
    omega
   rw[T_]
   simp only[nE]
   have hsz:(ofL (c::r)).length<=sizeLine:=ln (m:=60) hl
   refine⟨trivial,hsz,hsz,by decide,by decide,hN _ _ (ar λN hN=>?_)⟩
   rw[zf ok hl]
   have hsz':(ofL (uE (c::r))).length<=sizeLine:=by rw[JL,gm hl];decide
   walk_at "x"
   simp only[DP,c3,af,al,v3,lk,aT,JL,gm hl]
   refine⟨by decide,1,⟨by decide,by decide,by decide,by decide⟩,?_⟩
   rw[show kY 0 60 1=[PV.int 0] from rfl]
   simp only[nu]
   refine⟨trivial,?_⟩
   walk_at "x"
   refine⟨IC,DU (by decide) (by decide),hsz',?_⟩
   rw[show((0:Int)+60)=60 from rfl,xh _ (gm hl)]
   simp only[cr,AF ok hl]
   refine⟨by rw[JL,gm hl];decide,trivial,hN _ _ ?_⟩
   walk_at "x"
   rw[Int.zero_mul,Int.zero_add]
   exact k1 _ _ hv X1
  by_cases Rz:c=48
  .subst Rz
   rw[show decide (({ cps:=#[48] }:Str)=Str.ofString "0")=true from by decide]
   by_cases hr:r=[]
   .subst hr
    rw[show decide (ofL [48]=Str.ofString "0")=true from by decide]
    walk_at "y"
    exact rest λr e=>((W9 e).2).symm
   .rw[show decide (ofL (48::r)=Str.ofString "0")=false from UO λe=>hr (W9 (U4 (λz:Str=>z.cps.toList) e)).2]
    walk_at "y"
    exact k2 _ (ke λz=>hr (z.2 r rfl)) X1
  .rw[show decide (({ cps:=#[c] }:Str)=Str.ofString "0")=false from UO λe=>Rz (W9 (U4 (λz:Str=>z.cps.toList) e)).1]
   walk_at "y"
   exact rest λr e=>absurd (W9 e).1 Rz
 .rw[Bool.not_eq_true]at hd
  rw[hd]
  walk_at "y"
  exact k2 _ (ke λz=>by have:=Nv.mpr z.1.2;rw[hd]at this;cases this) X1
def cZ(a b:List Nat):ofL a++ofL b=ofL (a++b):=by
 apply Str.ext'
 show a.toArray++b.toArray=(a++b).toArray
 simp
def Er(a:List Nat):ofL a++Str.ofString "/" = ofL (a++[47]):=cZ a [47]
def Ps(l:List Nat):Prop:=l.length<=1000/\∀p∈sp l,p.length<=60
abbrev xV(w:aF):Prop:=∀{S:aq}{l:List Nat}{Q:bP}{E:cq},Ps l->(∀t u S',rn l=some (t,u)->Ext S S'->Q (.tup [.int (t:Int),.int (u:Int)]) S')->(∀S',rn l=none->Ext S S'->E bt [] S')->w [.str (ofL l)] S Q E
def xW{xf xc:aF}(Ql:B2 xf)(MZ:k8 xc):xV (dr 4 (bH xf xc)):=by
 intro S l Q E hl k1 k2
 unfold bH
 refine rg ?_
 rw[show aB 4 [PV.str (ofL l)]=[some (.str (ofL l)),none,none,none] from rfl]
 walk_at "5"
 have hlen:=wX l
 have OV:=hl.2
 walk_at "x"
 simp only[bT]
 rw[pJ,toL]
 refine⟨trivial,by decide,ln (m:=1000) hl.1,ln (m:=1001) (by rw[UJ];have:=hl.1;omega),λp hp=>hN _ _ (ar λN hN=>?_)⟩
 have X1:Ext S (JH S p (.lst (((sp l).map ofL).map PV.str))):=.new hp
 have hS:(JH S p (.lst (((sp l).map ofL).map PV.str))) p=some (.lst (((sp l).map ofL).map PV.str)):=aa
 generalize JH S p (.lst (((sp l).map ofL).map PV.str))=S1 at X1 hS
 unfold rn at k1 k2
 cases e:sp l with
 |nil=>exact absurd e (sB l)
 |cons a t=>
 rw[e]at hS OV k1 k2 hlen
 walk_at "x"
 rw[hS]
 walk_at "y"
 refine Ql (OV a (by simp)) (λv S2 hv X2=>?_) λS2 hv X2=>?_
 .have hS2:=X2 _ _ hS
  walk_at "0"
  walk_at "y"
  rw[hS2]
  walk_at "y"
  cases t with
  |nil=>
   rw[U1 (by simp)]
   walk_at "y"
   exact k1 v 1 _ (by dsimp only;rw[hv]) (X1.trans X2)
  |cons b t=>
   rw[UO (by simp;omega)]
   walk_at "y"
   walk_at "0"
   walk_at "y"
   rw[hS2]
   walk_at "y"
   cases t with
   |cons c t=>
    rw[U1 (by simp;omega)]
    walk_at "y"
    exact k2 _ rfl (X1.trans X2)
   |nil=>
    rw[UO (by simp)]
    walk_at "y"
    walk_at "0"
    walk_at "y"
    rw[hS2]
    walk_at "y"
    refine Ql (OV b (by simp)) (λu S3 hu X3=>?_) λS3 hu X3=>k2 _ (by dsimp only;rw[hv,hu]) (X1.trans (X2.trans X3))
    walk_at "0"
    dsimp only at k1 k2
    rw[hv,hu]at k1 k2
    dsimp only at k1 k2
    have X4:=X1.trans (X2.trans X3)
    have raise:(u < 2\/Nat.gcd v u≠1)->E bt [] S3:=λh=>k2 _ (if_pos h) X4
    have go:¬(u < 2\/Nat.gcd v u≠1)->Q (.tup [.int (v:Int),.int (u:Int)]) S3:=λh=>k1 v u _ (if_neg h) X4
    walk_at "y"
    by_cases h2:(u:Int) < 2
    .rw[U1 h2]
     walk_at "y"
     exact raise (.inl (by omega))
    .rw[UO h2]
     walk_at "y"
     refine MZ (by omega) (by omega) ?_
     walk_at "y"
     rw[show Int.gcd (v:Int) (u:Int)=Nat.gcd v u from rfl]
     by_cases hg:((Nat.gcd v u:Nat):Int)=1
     .rw[U1 hg]
      walk_at "y"
      refine hN _ _ ?_
      walk_at "y"
      exact go (by omega)
     .rw[UO hg]
      walk_at "y"
      exact raise (.inr (by omega))
 .refine k2 _ ?_ (X1.trans X2)
  match t with
  |[]=>dsimp only;rw[hv]
  |[b]=>dsimp only;rw[hv]
  |_::_::_=>rfl
end G08
namespace G08
open PySem L2 L3 Wd
open C CX T5 T7 T9 PySem.NumText
noncomputable def Vd(l:List Nat):Bool:=l.all λc=>decide (c < 256)
def LB{l:List Nat}:Vd l=true↔∀c∈l,c < 256:=by unfold Vd;rw[VD];simp
def ow{l:List Nat}(h:Vd l=true)(hl:l.length<=20000):PyData.strOk (ofL l)=true:=by
 show(l.toArray.all λx=>decide (x < 0x110000))=true
 rw[<-Array.all_toList,VD]
 intro c hc
 have:=LB.mp h c hc
 simp;omega
noncomputable def u_(c:Nat):Bool:=decide (97<=c)&&decide (c<=122)
def xX{c:Nat}:(false != !(Builtin.Str.occurrences (PySem.Str.ofString "abcdefghijklmnopqrstuvwxyz") (sgn c) 0 (PySem.Str.ofString "abcdefghijklmnopqrstuvwxyz").length 1).isEmpty)=u_ c:=by
 rw[U6,WZ,show(PySem.Str.ofString "abcdefghijklmnopqrstuvwxyz").cps.toList=List.range' 97 26 from by decide +kernel]
 unfold u_
 rw[<-Bool.decide_and]
 congr 1
 rw[Xd]
 simp only[eq_iff_iff]
 omega
def mI{te:aO}{D:ix}{σ:bZ}{S:aq}(h:te σ S D.rt D.ex):ax te D σ S:=h
abbrev GG(w:aF):Prop:=∀{S:aq}{l:List Nat}{Q:bP}{E:cq},l.length<=1000->Vd l=true->(∀S',Ext S S'->Q (.bl (ci l)) S')->w [.str (ofL l)] S Q E
def AT:GG (bV 1 jj):=by
 intro S l Q E hl hv k
 unfold jj
 refine j2 ?_
 rw[show aB 1 [PV.str (ofL l)]=[some (.str (ofL l))] from rfl]
 walk_at "5"
 walk_at "x"
 rw[JL]
 by_cases h1:l=[]
 .subst h1
  walk_at "y"
  refine⟨ln (m:=60) (by simp),?_⟩
  exact k S .refl
 have h1':l.length≠0:=λe=>h1 (Vi.mp e)
 rw[UO (by omega)]
 walk_at "y"
 rcases Nat.lt_or_ge 6 l.length with h2|h2
 .rw[U1 (by omega)]
  walk_at "y"
  refine⟨ln (m:=1000) hl,ln (m:=1000) hl,?_⟩
  have:ci l=false:=by unfold ci;rw[UO (Nat.not_le.mpr h2)];simp
  rw[<-this];exact k S .refl
 rw[UO (by omega)]
 walk_at "y"
 refine⟨ln (m:=1000) hl,ln (m:=1000) hl,hN _ _ (mI ?_)⟩
 simp only[mn,am,v3,lk,c3]
 refine xD (zs:=J8) (ow hv (by omega)) nN ?_
 by_cases hk:ofL l∈J8
 .rw[U1 hk]
  walk_at "y"
  have:ci l=false:=by unfold ci;rw[UO (not_not_intro hk)];simp
  rw[<-this];exact k S .refl
 rw[UO hk]
 walk_at "y"
 refine jg (λc=>PV.str (sgn c)) (λc=>PV.bl (u_ c)) trivial l [] (λc hc=>⟨_,rfl,λQ q=>?_⟩) (ln (m:=60) (by rw[Wr];omega)) ?_
 .show Q (.bl (false != !(Builtin.Str.occurrences (PySem.Str.ofString "abcdefghijklmnopqrstuvwxyz") (sgn c) 0 (PySem.Str.ofString "abcdefghijklmnopqrstuvwxyz").length 1).isEmpty)) S
  rw[xX];exact q
 intro p hp
 simp only[nr,aa,List.nil_append,gv]
 have:ci l=(l.map u_).all id:=by
  unfold ci
  rw[U1 h2,U1 hk,List.all_map,show l.isEmpty=false from by cases l with|nil=>exact absurd rfl h1|cons=>rfl]
  simp only[V4,Bool.true_and,Bool.and_true]
  rfl
 rw[<-this]
 exact k _ (.new hp)
abbrev jv(w:aF):Prop:=∀{S:aq}{l:List Nat}{Q:bP}{E:cq},l.length<=1000->Vd l=true->(∀S',Ext S S'->ci l=true->Q (.str (ofL l)) S')->(∀S',Ext S S'->ci l=false->E bt [] S')->w [.str (ofL l)] S Q E
def uU{x:aF}(RA:GG x):jv (dr 1 (fK x)):=by
 intro S l Q E hl hv k1 k2
 unfold fK
 refine rg ?_
 rw[show aB 1 [PV.str (ofL l)]=[some (.str (ofL l))] from rfl]
 walk_at "5"
 walk_at "x"
 refine RA hl hv λS' X=>?_
 cases e:ci l with
 |false=>
  walk_at "y"
  exact k2 _ X e
 |true=>
  walk_at "y"
  refine hN _ _ ?_
  walk_at "y"
  exact k1 _ X e
abbrev xY(w:aF):Prop:=∀{S:aq}{l:List Nat}{Q:bP}{E:cq},l.length<=1000->(∀p,lO .things l=some p->Q p.pv S)->(lO .things l=none->E bt [] S)->w [.str (ofL l)] S Q E
def uV:xY (dr 1 dS):=by
 intro S l Q E hl k1 k2
 unfold dS
 refine rg ?_
 rw[show aB 1 [PV.str (ofL l)]=[some (.str (ofL l))] from rfl]
 walk_at "5"
 walk_at "x"
 rw[JL]
 by_cases h1:l.length=1
 .obtain⟨c,rfl⟩:∃c,l=[c]:=XR.mp h1
  rw[show decide ((([c]:List Nat).length:Int)=1)=true from rfl]
  walk_at "y"
  simp only[kL]
  rw[show ofL [c]=sgn c from rfl,WZ,show(PySem.Str.ofString "123456789").cps.toList=List.range' 49 9 from by decide +kernel]
  refine⟨ln (m:=1) (by simp),?_⟩
  by_cases hc:49<=c/\c<=57
  .rw[U1 (by rw[Xd];omega)]
   walk_at "y"
   refine hN _ _ ?_
   walk_at "y"
   simp only[cr]
   have e:intText? (sgn c)=some ((c - 48:Nat):Int):=by
    have:=intText_digits (x:=ofL [c]) (by rw[toL];intro d hd;rw[UM.mp hd];omega) (by rw[toL];simp) (by rw[JL];show 1<=_;decide)
    rw[toL]at this
    rw[show sgn c=ofL [c] from rfl,this]
    simp[NumText.digitsVal]
   rw[e]
   exact⟨by show 1<=640;decide,k1 (.m (c - 48)) (if_pos hc)⟩
  .rw[UO (by rw[Xd];omega)]
   walk_at "y"
   exact k2 (if_neg hc)
 .rw[UO (by omega)]
  walk_at "y"
  refine⟨ln (m:=1000) hl,k2 ?_⟩
  show(match l with|[c]=>if 49<=c/\c<=57 then some (Pt.m (c - 48)) else none|_=>none)=none
  split
  .exact absurd rfl h1
  .rfl
noncomputable def Kd.s:Kd->Str
 | .cost=>"cost" | .things=>"things" | .name=>"name" | .body=>"body"
def qp(l:List Nat):Prop:=Ps l/\Vd l=true
def Es:qp []:=⟨⟨by simp,λp hp=>by rw[show sp []=[[]] from rfl]at hp;rw[UM.mp hp];simp⟩,rfl⟩
abbrev xZ(w:aF):Prop:=∀{S:aq}{k:Kd}{l:List Nat}{Q:bP}{E:cq},k ≠ .body->qp l->(∀p S',lO k l=some p->Ext S S'->Q p.pv S')->(∀S',lO k l=none->Ext S S'->E bt [] S')->w [.str (Kd.s k),.str (ofL l)] S Q E
def x_{x0 x1 x2:aF}(Lf:xV x0)(Pq:xY x1)(RB:jv x2):xZ (dr 2 (fL x0 x1 x2)):=by
 intro S k l Q E hk hp k1 k2
 unfold fL
 refine rg ?_
 rw[show aB 2 [PV.str (Kd.s k),PV.str (ofL l)]=[some (.str (Kd.s k)),some (.str (ofL l))] from rfl]
 walk_at "5"
 cases k with
 |body=>exact absurd rfl hk
 |cost=>
  simp only[Kd.s]
  walk_at "y"
  refine Lf hp.1 (λt u S' e X=>?_) λS' e X=>?_
  .exact k1 (.c t u) S' (by show(rn l).map _=_;rw[e];rfl) X
  .exact k2 S' (by show(rn l).map _=_;rw[e];rfl) X
 |things=>
  simp only[Kd.s]
  walk_at "y"
  walk_at "0"
  walk_at "y"
  exact Pq hp.1.1 (λp e=>k1 p S e .refl) λe=>k2 S e .refl
 |name=>
  simp only[Kd.s]
  walk_at "y"
  walk_at "0"
  walk_at "y"
  refine hN _ _ ?_
  walk_at "y"
  refine RB hp.1.1 hp.2 (λS' X e=>?_) λS' X e=>?_
  .exact k1 (.n l) S' (if_pos e) X
  .exact k2 S' (if_neg (by rw[e];simp)) X
abbrev ID(w:aF):Prop:=∀{S:aq}{p:Addr}{W:List (List Nat)}{i:Nat}{Q:bP}{E:cq},S p=some (.lst ((W.map ofL).map PV.str))->Q (.str (ofL ((W.drop i).headD []))) S->w [.ref p,.int (i:Int)] S Q E
def ya:ID (bV 2 jk):=by
 intro S p W i Q E hp k
 unfold jk
 refine j2 ?_
 rw[show aB 2 [PV.ref p,PV.int (i:Int)]=[some (.ref p),some (.int (i:Int))] from rfl]
 walk_at "5"
 walk_at "x"
 rw[hp]
 dsimp only
 by_cases hi:i < W.length
 .rw[U1 (by simp only[UJ];omega)]
  walk_at "y"
  rw[show Kn ((W.map ofL).map PV.str) (i:Int)=some (.str (ofL ((W.drop i).headD [])))from b6 (j:=i) (by rw[V7 hi];simp[hi])]
  exact k
 .rw[UO (by simp only[UJ];omega)]
  walk_at "y"
  refine hN _ _ ?_
  walk_at "y"
  rw[XU (by omega)]at k
  exact k
theorem pY{r:Ws->Option (Bd×Ws)}(k:Kd)(ks:List Kd)(W:Ws):iX r (k::ks) W=match (if k = .body then (r W).map (λq=>(Pt.b q.1,q.2)) else (lO k (W.headD [])).map λp=>(p,W.tail))with
  |none=>none
  |some (p,W1)=>match iX r ks W1 with
   |none=>none
   |some (ps,W2)=>some (p::ps,W2):=by rw[iX];try rfl
theorem oy{r:Ws->Option (Bd×Ws)}:∀(ks ks':List Kd)(W:Ws),iX r (ks++ks') W=match iX r ks W with
  |none=>none
  |some (ps,W1)=>match iX r ks' W1 with
   |none=>none
   |some (ps',W2)=>some (ps++ps',W2)
 |[],ks',W=>by
  show iX r ks' W=match iX r ks' W with|none=>none|some (ps',W2)=>some ([]++ps',W2)
  cases iX r ks' W<;>rfl
 |k::ks,ks',W=>by
  rw[V5,pY,pY]
  cases (if k = .body then (r W).map (λq=>(Pt.b q.1,q.2)) else (lO k (W.headD [])).map λp=>(p,W.tail))with
  |none=>rfl
  |some q=>
   obtain⟨p,W1⟩:=q
   dsimp only
   rw[oy ks ks' W1]
   cases iX r ks W1 with
   |none=>rfl
   |some q=>
    obtain⟨ps,W2⟩:=q
    dsimp only
    cases iX r ks' W2<;>rfl
theorem yb:∀(T:List (Str×List Kd))(h:Str),gZ (T.map λq=>(q.1,q.2.map Kd.s)) h=(T.lookup h).map λks=>ks.map Kd.s
 |[],_=>rfl
 |(k,v)::T,h=>by
  show(if k=h then some (v.map Kd.s) else gZ (T.map λq=>(q.1,q.2.map Kd.s)) h)=_
  rw[yb T h,Xl]
  by_cases e:k=h
  .subst e;rw[if_pos rfl,Xo];rfl
  .rw[if_neg e,show(h == k)=false from beq_false_of_ne (VI e)]
def pZ(h:Str):gZ [("pay",["cost"]),("put",["name","things"]),("then",["body","body"]),("either",["body","body"]),("take",["name","things","body","body"]),("often",["body"]),("use",["name"])] h=(tab.lookup h).map λks=>ks.map Kd.s:=yb tab h
def AU{h:Str}{ks:List Kd}(e:tab.lookup h=some ks):ks.length<=4:=by
 have hm:=kg e
 simp only[tab,UI,YF,UW,Vy]at hm
 rcases hm with⟨-,rfl⟩|⟨-,rfl⟩|⟨-,rfl⟩|⟨-,rfl⟩|⟨-,rfl⟩|⟨-,rfl⟩|⟨-,rfl⟩<;>decide
def OM{k:Kd}:Kd.s k = "body" ↔ k = .body:=by cases k<;>simp[Kd.s,bD]
def GH{W:Ws}(h:∀l∈W,qp l):qp (W.headD []):=by
 cases W with
 |nil=>exact Es
 |cons w W=>exact h w (by simp)
def AV{ks:List Kd}{ps:List Pt}(h:u9 ks ps):ps.length=ks.length:=by induction h with|nil=>rfl|cons _ _ ih=>simp[ih]
def IE(z:Str):ofL (sg z)=z:=du z
def yc{a b:List Nat}(h:a≠b):ofL a≠ofL b:=λe=>h (U4 (λz:Str=>z.cps.toList) e)
abbrev sN(n:Nat)(w:aF):Prop:=∀{S:aq}{W:Ws}{i:Nat}{p:Addr}{Q:bP}{E:cq},S p=some (.lst ((W.map ofL).map PV.str))->(∀l∈W,qp l)->(W.drop i).count [40] < n->
 (∀t j S',nR n (W.drop i)=some (t,W.drop j)->j<=W.length->Ext S S'->Q (.tup [t.pv,.int (j:Int)]) S')->(∀S',nR n (W.drop i)=none->Ext S S'->E bt [] S')->w [.ref p,.int (i:Int)] S Q E
def yd{xa xw s0:aF}(M0:ID xa)(RC:xZ xw)(n:Nat)(ih:sN n s0):sN (n+1) (dr 6 (fN xa xw s0)):=by
 intro S W i p Q E hp hW hc k1 k2
 have hlt:∀{j:Nat}{l:List Nat},(W.drop j).headD []=l->l≠[]->j < W.length:=λ{j l} h1 h2=>by
  rcases Nat.lt_or_ge j W.length with h|h
  .exact h
  .rw[XU h]at h1;exact absurd h1.symm h2
 have Ua:∀j,qp ((W.drop j).headD []):=λj=>GH λl hl=>hW l (VX hl)
 unfold fN
 refine rg ?_
 rw[show aB 6 [PV.ref p,PV.int (i:Int)]=[some (.ref p),some (.int (i:Int)),none,none,none,none] from rfl]
 walk_at "5"
 simp only[a_,aH,am,ak,al,v3,lk,c3]
 refine M0 hp ?_
 simp only[bo,U6,UY]
 by_cases hr:(W.drop i).headD []=sg "rest"
 .rw[hr,if_pos (IE _)]
  have hl:=hlt hr (by decide)
  have e:nR (n+1) (W.drop i)=some (.rest,W.drop (i+1)):=by
   unfold nR
   rw[if_pos hr,Ww]
  walk_at "y"
  have:=k1 .rest (i+1) S e hl .refl
  rw[show((i+1:Nat):Int)=(i:Int)+1 from by omega]at this
  exact this
 rw[if_neg (λz=>hr (by rw[<-z];rfl))]
 simp only[aJ]
 walk_at "0"
 simp only[ap,am,ak,al,v3,lk,c3,aG]
 rw[show(i:Int)+1=((i+1:Nat):Int)from by omega]
 refine M0 hp ?_
 walk_at "1"
 walk_at "0"
 simp only[a_,fc,aH,am,ak,al,v3,lk,c3]
 refine M0 hp ?_
 have h0:nR (n+1) (W.drop i)=if (W.drop i).headD []=[40] then
   (match tab.lookup (ofL ((W.drop (i+1)).headD []))with
   |none=>none
   |some ks=>match iX (nR n) ks (W.drop (i+2))with
    |none=>none
    |some (ps,W1)=>if W1.headD []=[41] then some (iK (ofL ((W.drop (i+1)).headD [])) ps,W1.tail) else none) else none:=by
  conv=>lhs;unfold nR
  rw[if_neg hr,Ww,Ww];try rfl
 generalize (W.drop (i+1)).headD []=hd at h0
 rcases Decidable.em ((W.drop i).headD []=[40])with hb|hb
 case inr=>
  simp only[bo,UO (show ¬ofL ((W.drop i).headD [])=Str.ofString "(" from yc (b:=[40]) hb)]
  walk_at "y"
  exact k2 S (by rw[h0,if_neg hb]) .refl
 rw[if_pos hb]at h0
 rw[hb,show ofL [40]=Str.ofString "(" from rfl]
 have RD:(W.drop (i+2)).count [40] < n:=by
  rw[kh hb (by decide),VM,Ww]at hc
  have:(W.drop (i+2)).count [40]<=(W.drop (i+1)).count [40]:=by
   rw[show W.drop (i+2)=(W.drop (i+1)).drop 1 from by rw[XW]]
   exact(XX _ _).count_le _
  omega
 simp only[bo,xm,v3,lk,pZ]
 cases ht:tab.lookup (ofL hd)with
 |none=>
  rw[ht]at h0
  simp only[Option.map_none,Option.isSome_none]
  walk_at "y"
  exact k2 S h0 .refl
 |some ks=>
  rw[ht]at h0
  dsimp only at h0
  simp only[Option.map_some,Option.isSome_some]
  walk_at "y"
  have hkl:=AU ht
  walk_at "0"
  simp only[ap,aS,al,v3,lk,List.set_cons_zero,List.set_cons_succ]
  intro q hq
  have f1:(JH S q (.lst [.str (ofL hd)])) q=some (.lst (.str (ofL hd)::([]:List Pt).map Pt.pv)):=aa
  have X1:Ext S (JH S q (.lst [.str (ofL hd)])):=.new hq
  generalize JH S q (.lst [.str (ofL hd)])=S1 at f1 X1
  walk_at "0"
  walk_at "x"
  walk_at "0"
  simp only[cH,bE,xk,v3,lk,pZ,ht,Option.map_some,eR]
  refine cf (λdone σ S'=>Ext S S'/\∃(ps:List Pt) (j:Nat) (x4 x5:Option PV),σ=[some (.ref p),some (.int (j:Int)),some (.str (ofL hd)),some (.ref q),x4,x5]/\S' q=some (.lst (.str (ofL hd)::ps.map Pt.pv))/\iX (nR n) (ks.take done.length) (W.drop (i+2))=some (ps,W.drop j)) ⟨X1,[],i+2,_,_,by rw[show((i+2:Nat):Int)=(i:Int)+2 from by omega],f1,rfl⟩ (λ_ _ _ _=>trivial) ?_ ?_
  .rintro done x rest σ S2 K e ⟨X2,ps,j,x4,x5,rfl,f2,hrd⟩ hK
   have hget:((ks.map Kd.s).map PV.str)[done.length]?=some x:=by rw[e];simp
   obtain⟨k,hk1,rfl⟩:∃k,ks[done.length]?=some k/\PV.str (Kd.s k)=x:=by
    rw[VF,U7]at hget
    exact VE.mp hget
   have Pr:=(U3.mp hk1).1
   have hp2:=X2 _ _ hp
   have hks:ks=ks.take done.length++(k::ks.drop (done.length+1)):=by
    conv=>lhs;rw[<-VJ done.length ks]
    rw[V7 Pr,<-(U3.mp hk1).2]
   have RE:ks.take (done.length+1)=ks.take done.length++[k]:=by rw[Yy,hk1];rfl
   obtain⟨hs1,hs2⟩:=nU (nV n) _ _ _ _ hrd
   have hpl:ps.length<=4:=by
    rw[AV hs2,VH];omega
   have Ub:(W.drop j).count [40] < n:=by
    rw[hs1,Vb]at RD;omega
   have bad:iX (nR n) (k::ks.drop (done.length+1)) (W.drop j)=none->nR (n+1) (W.drop i)=none:=by
    intro hbad
    rw[h0,hks,oy,hrd]
    dsimp only
    rw[hbad]
   have fin:∀(S3:aq)(y5:Option PV)(pt:Pt)(m:Nat),Ext S2 S3->iX (nR n) [k] (W.drop j)=some ([pt],W.drop m)->K [some (.ref p),some (.int (m:Int)),some (.str (ofL hd)),some (.ref q),some (.str (Kd.s k)),y5] (JH S3 q (.lst ((.str (ofL hd)::ps.map Pt.pv)++[pt.pv]))):=by
    intro S3 y5 pt m X3 hm'
    refine hK _ _ ⟨?_,ps++[pt],m,some (.str (Kd.s k)),y5,rfl,?_,?_⟩
    .intro a o ha
     rw[aj (λe=>by rw[e,hq]at ha;cases ha)]
     exact X3 _ _ (X2 _ _ ha)
    .rw[aa];simp
    .rw[UK,V2,RE,oy,hrd]
     dsimp only
     rw[hm']
   simp only[Tg.put,List.set_cons_zero,List.set_cons_succ,a_,aH,am,v3,lk,c3,bo,U6,UY]
   by_cases hkb:k = .body
   .subst hkb
    rw[if_pos (show Kd.s .body = "body" from rfl)]
    refine ar λN2 M1=>?_
    simp only[ap,aR,al,v3,lk]
    refine ih hp2 hW Ub (λt m S3 et hm X3=>?_) λS3 et X3=>?_
    .walk_at "1"
     refine M1 _ _ (ar λN3 Pv=>?_)
     have f3:=X3 _ _ f2
     simp only[bh,bL,gC,v3,lk,f3,al,am,c3,az,rc,aI,VQ]
     refine⟨UU (show _ < 1000 by simp;omega) (by decide),Pv _ _ ?_⟩
     simp only[ap,am,v3,lk,c3,az,DX,List.set_cons_zero,List.set_cons_succ]
     refine fin S3 _ (.b t) m X3 ?_
     unfold iX
     rw[if_pos rfl,et]
     rfl
    .refine k2 S3 (bad ?_) (X2.trans X3)
     unfold iX
     rw[if_pos rfl,et]
     rfl
   .rw[if_neg (λz=>hkb (OM.mp z))]
    refine ar λN2 M1=>?_
    simp only[bh,bL,gC,v3,lk,f2,al,ak,aR,VQ]
    refine M0 hp2 ?_
    refine RC hkb (Ua j) (λpt S3 et X3=>?_) λS3 et X3=>?_
    .have f3:=X3 _ _ f2
     simp only[aI,f3]
     refine⟨UU (show _ < 1000 by simp;omega) (by decide),M1 _ _ ?_⟩
     simp only[ap,am,v3,lk,c3,aG,List.set_cons_zero,List.set_cons_succ]
     have:=fin S3 x5 pt (j+1) X3 (by
      unfold iX
      rw[if_neg hkb,et,Ww]
      rfl)
     rw[show((j+1:Nat):Int)=(j:Int)+1 from by omega]at this
     exact this
    .refine k2 S3 (bad ?_) (X2.trans X3)
     unfold iX
     rw[if_neg hkb,et]
     rfl
  .rintro σ S2 ⟨X2,ps,j,x4,x5,rfl,f2,hrd⟩
   rw[UJ,UJ,W0]at hrd
   rw[hrd]at h0
   dsimp only at h0
   have RG:=(nU (nV n) _ _ _ _ hrd).2
   walk_at "0"
   have hp2:=X2 _ _ hp
   simp only[a_,aH,am,ak,al,v3,lk,c3]
   refine M0 hp2 ?_
   by_cases Ov:(W.drop j).headD []=[41]
   .rw[if_pos Ov,Ww]at h0
    rw[Ov,show ofL [41]=Str.ofString ")" from rfl]
    walk_at "y"
    refine hN _ _ ?_
    have:=k1 _ (j+1) S2 h0 (hlt Ov (by decide)) X2
    rw[(lj ht RG).2.2,show((j+1:Nat):Int)=(j:Int)+1 from by omega]at this
    walk_at "y"
    rw[f2]
    walk_at "y"
    exact this
   .rw[if_neg Ov]at h0
    simp only[bo,UO (show ¬ofL ((W.drop j).headD [])=Str.ofString ")" from yc (b:=[41]) Ov)]
    walk_at "y"
    exact k2 S2 h0 X2
theorem lF(c:Nat)(d:List Nat)(hd:d.length<=3):∀l:List Nat,(rp c d l).length<=3 * l.length
 |[]=>by simp[rp]
 |x::l=>by
  have:=lF c d hd l
  have e:rp c d (x::l)=(if x=c then d else [x])++rp c d l:=by simp[rp]
  rw[e,UK,UQ]
  split
  .omega
  .simp;omega
def eP(c:Nat):∀l,(JK c l).length<=l.length+1:=λl=>by
 induction l with
 |nil=>simp[JK]
 |cons x l ih=>
  unfold JK
  split
  .simp;omega
  .split
   .simp
   .rename_i p q e
    rw[e]at ih
    simp at ih ⊢;omega
def dJ{l:List Nat}{c:Nat}{S:aq}{Q:bP}(hl:l.length<=90000)(k:∀p,S p=none->Q (.ref p) (JH S p (.lst (((JK c l).map ofL).map PV.str)))):bT (.str (ofL l)) [.str ⟨#[c]⟩] S Q:=by
 have:=eP c l
 simp only[bT,pS]
 exact⟨rfl,ln (m:=90000) hl,ln (m:=90001) (by rw[UJ];omega),k⟩
abbrev ye(w:aF):Prop:=∀{S:aq}{l:List Nat}{Q:bP}{E:cq},l.length<=10000->(∀p,S p=none->Q (.ref p) (JH S p (.lst (((Nf l).map ofL).map PV.str))))->w [.str (ofL l)] S Q E
def uW:ye (bV 1 dU):=by
 intro S l Q E hl k
 unfold dU
 refine j2 (mI ?_)
 rw[show aB 1 [PV.str (ofL l)]=[some (.str (ofL l))] from rfl]
 have e1:("(":Str)=⟨#[40]⟩:=rfl
 have e2:("( ":Str)=ofL [40,32]:=rfl
 have e3:(")":Str)=⟨#[41]⟩:=rfl
 have e4:(" )":Str)=ofL [32,41]:=rfl
 have l1:=lF 40 [40,32] (by decide) l
 have l2:=lF 41 [32,41] (by decide) (rp 40 [40,32] l)
 simp only[bL,gC,k4,v3,lk,al,c3]
 rw[e1,e2,nP,e3,e4,nP]
 simp only[JL,List.length_cons,List.length_nil,VQ]
 refine⟨by omega,by omega,?_⟩
 rw[show((" ":String):Str)=⟨#[32]⟩from rfl]
 refine dJ (by omega) ?_
 exact k
structure Eu(l:List Nat):Prop where
 len:l.length<=10000
 vd:Vd l=true
 ps:∀w∈Nf l,qp w
 cnt:(Nf l).count [40] < 36
abbrev yf(w:aF):Prop:=∀{S:aq}{l:List Nat}{Q:bP}{E:cq},Eu l->(∀t S',l0 36 l=some t->Ext S S'->Q t.pv S')->(∀S',l0 36 l=none->Ext S S'->E bt [] S')->w [.str (ofL l)] S Q E
def yg{x0 x1:aF}(Ol:ye x0)(RH:sN 36 x1):yf (dr 3 (fO x0 x1)):=by
 intro S l Q E hl k1 k2
 unfold fO
 refine rg ?_
 rw[show aB 3 [PV.str (ofL l)]=[some (.str (ofL l)),none,none] from rfl]
 walk_at "5"
 simp only[ap,ak,al,v3,lk]
 refine Ol hl.len λp hp=>?_
 have f1:(JH S p (.lst (((Nf l).map ofL).map PV.str))) p=some (.lst (((Nf l).map ofL).map PV.str)):=aa
 have X1:Ext S (JH S p (.lst (((Nf l).map ofL).map PV.str))):=.new hp
 generalize JH S p (.lst (((Nf l).map ofL).map PV.str))=S1 at f1 X1
 walk_at "1"
 walk_at "0"
 simp only[ap,aR,al,v3,lk,c3]
 refine RH (i:=0) f1 hl.ps (by rw[WY];exact hl.cnt) (λt j S2 e hj X2=>?_) λS2 e X2=>?_
 .rw[WY]at e
  walk_at "1"
  walk_at "0"
  have f2:=X2 _ _ f1
  walk_at "y"
  rw[f2]
  dsimp only
  simp only[UJ]
  by_cases h:j=(Nf l).length
  .rw[U1 (by omega)]
   walk_at "y"
   refine hN _ _ ?_
   walk_at "y"
   refine k1 t S2 ?_ (X1.trans X2)
   unfold l0
   rw[e,XU (by omega)]
  .rw[UO (by omega)]
   walk_at "y"
   refine k2 S2 ?_ (X1.trans X2)
   unfold l0
   rw[e]
   cases e2:(Nf l).drop j with
   |nil=>rw[List.drop_eq_nil_iff]at e2;omega
   |cons=>rfl
 .rw[WY]at e
  refine k2 S2 ?_ (X1.trans X2)
  unfold l0
  rw[e]
noncomputable abbrev Hf(n:Int):PV:=.exc "BadText" ["row"] [.int n]
abbrev yh(w:aF):Prop:=∀{S:aq}{n:Int}{Q:bP}{E:cq},Q (.int n) S->w [Hf n] S Q E
def yi:yh (bV 2 eO):=by
 intro S n Q E k
 unfold eO
 refine j2 ?_
 rw[show aB 2 [Hf n]=[some (Hf n),none] from rfl]
 walk_at "5"
 have el:List.lookup (Str.ofString "row") ([Str.ofString "row"].zip [PV.int n])=some (PV.int n):=rfl
 walk_at "y"
 simp only[kX,uA,kW,MP,bD,String.reduceEq,and_true,and_false,Vx,VL,List.any,Xo,Bool.true_or,VQ]
 walk_at "0"
 walk_at "y"
 simp only[kX,uA,kW,MP,bD,String.reduceEq,and_true,and_false,Vx,VL,List.any,Xo,Bool.true_or,VQ,VW,UR]
 rw[el]
 refine⟨by decide,?_⟩
 show cN "bool" = true/\_
 refine⟨by decide,?_⟩
 rw[show dk "int" "bool" = false from by decide]
 simp only[UR,Vx]
 refine hN _ _ ?_
 walk_at "y"
 rw[el]
 exact⟨by decide,k⟩
mutual
noncomputable def RT(O:List Addr)(S:aq):Tr->PV->Prop
 | .w l,v=>v = .str (ofL l)
 | .n ts,v=>∃a vs,v = .ref a/\a ∉ O/\S a=some (.lst vs)/\Ks O S ts vs
noncomputable def Ks(O:List Addr)(S:aq):List Tr->List PV->Prop
 |[],vs=>vs=[]
 |t::ts,vs=>∃v r,vs=v::r/\RT O S t v/\Ks O S ts r
end
section
variable {O O':List Addr}{S S':aq}(h:∀a vs,a ∉ O->S a=some (.lst vs)->a ∉ O'/\S' a=some (.lst vs))
include h
mutual
theorem RT.map:∀(T:Tr) (v:PV),RT O S T v->RT O' S' T v
 | .w l,v,r=>by rw[RT]at r ⊢;exact r
 | .n ts,v,r=>by
  rw[RT]at r ⊢
  obtain⟨a,vs,h1,h2,h3,h4⟩:=r
  obtain⟨g1,g2⟩:=h a vs h2 h3
  exact⟨a,vs,h1,g1,g2,Ks.map ts vs h4⟩
theorem Ks.map:∀(ts:List Tr) (vs:List PV),Ks O S ts vs->Ks O' S' ts vs
 |[],vs,r=>by rw[Ks]at r ⊢;exact r
 |t::ts,vs,r=>by
  rw[Ks]at r ⊢
  obtain⟨v,w,h1,h2,h3⟩:=r
  exact⟨v,w,h1,RT.map t v h2,Ks.map ts w h3⟩
end
end
theorem Ks.snoc{O:List Addr}{S:aq}{t:Tr}{v:PV}(h:RT O S t v):∀{ts:List Tr}{vs:List PV},Ks O S ts vs->Ks O S (ts++[t]) (vs++[v])
 |[],vs,r=>by rw[Ks]at r;subst r;rw[VT,Ks];exact⟨v,[],rfl,h,by rw[Ks]⟩
 |u::ts,vs,r=>by
  rw[Ks]at r
  obtain⟨x,w,rfl,h2,h3⟩:=r
  rw[V5,Ks]
  exact⟨x,w++[v],rfl,h2,Ks.snoc h h3⟩
theorem Ks.len{O:List Addr}{S:aq}:∀{ts:List Tr}{vs:List PV},Ks O S ts vs->vs.length=ts.length
 |[],vs,r=>by rw[Ks]at r;subst r;rfl
 |u::ts,vs,r=>by
  rw[Ks]at r
  obtain⟨x,w,rfl,h2,h3⟩:=r
  rw[UQ,UQ,Ks.len h3]
noncomputable def M2(O:List Addr)(S:aq)(m:Nat):List Addr->List (List Tr)->Prop
 |[],[]=>True
 |o::os,ts::st=>(∃vs,S o=some (.lst vs)/\vs.length<=m/\Ks O S ts vs)/\M2 O S m os st
 |_,_=>False
theorem M2.map{O O':List Addr}{S S':aq}{m m':Nat}(hm:m<=m')(h:∀a vs,a ∉ O->S a=some (.lst vs)->a ∉ O'/\S' a=some (.lst vs)):∀{os:List Addr}{st:List (List Tr)},(∀o∈os,S' o=S o)->M2 O S m os st->M2 O' S' m' os st
 |[],[],_,_=>trivial
 |o::os,ts::st,e,⟨⟨vs,h1,h2,h3⟩,h4⟩=>⟨⟨vs,by rw[e o (by simp)];exact h1,by omega,Ks.map h ts vs h3⟩,M2.map hm h (λx hx=>e x (by simp[hx])) h4⟩
 |[],_::_,_,r=>r
 |_::_,[],_,r=>r
theorem M2.len{O:List Addr}{S:aq}{m:Nat}:∀{os:List Addr}{st:List (List Tr)},M2 O S m os st->os.length=st.length
 |[],[],_=>rfl
 |o::os,ts::st,⟨_,h⟩=>by rw[UQ,UQ,M2.len h]
 |[],_::_,r=>r.elim
 |_::_,[],r=>r.elim
theorem M2.get{O:List Addr}{S:aq}{m:Nat}:∀{os:List Addr}{st:List (List Tr)},M2 O S m os st->∀o∈os,∃vs,S o=some (.lst vs)
 |[],[],_,_,h=>by cases h
 |o::os,ts::st,⟨⟨vs,h1,_⟩,h⟩,x,hx=>by
  rcases UI.mp hx with rfl|hx
  .exact⟨vs,h1⟩
  .exact M2.get h x hx
 |[],_::_,r,_,_=>r.elim
 |_::_,[],r,_,_=>r.elim
noncomputable def Jy(S:aq):Option Tr->PV->Prop
 |none,v=>v = .non
 |some t,v=>RT [] S t v
def mJ(o:Addr)(os:List Addr):Kn ((o::os).reverse.map PV.ref) (-1)=some (.ref o):=by
 rw[Wy,U5];exact vH _ _
abbrev B3(w:aF):Prop:=∀{S:aq}{l:List Nat}{Q:bP}{E:cq},l.length<=10000->(∀v S',Ext S S'->Jy S' (tree l) v->Q v S')->w [.str (ofL l)] S Q E
theorem ki:∀(l run:List Nat),(La run l).length<=l.length+1
 |[],run=>by rw[La];split<;>simp
 |c::l,run=>by
  rw[La]
  split
  .split
   .have:=ki l [];simp;omega
   .have:=ki l [];simp;omega
  .have:=ki l (run++[c]);simp;omega
def AX:B3 (bV 4 fX):=by
 intro S l Q E hl k
 unfold fX
 refine j2 ?_
 rw[show aB 4 [PV.str (ofL l)]=[some (.str (ofL l)),none,none,none] from rfl]
 walk_at "5"
 simp only[ap,aS,al,v3,lk]
 intro o0 SG s0 hs0
 have hne:s0≠o0:=λe=>by rw[e,aa]at hs0;cases hs0
 have Qm:S s0=none:=by rw[aj hne]at hs0;exact hs0
 have X0:Ext S (JH (JH S o0 (.lst [])) s0 (.lst [.ref o0])):=(Ext.new SG).trans (Ext.new hs0)
 have f0:(JH (JH S o0 (.lst [])) s0 (.lst [.ref o0])) s0=some (.lst [.ref o0]):=aa
 have f1:(JH (JH S o0 (.lst [])) s0 (.lst [.ref o0])) o0=some (.lst []):=by rw[aj (VI hne),aa]
 generalize JH (JH S o0 (.lst [])) s0 (.lst [.ref o0])=S1 at X0 f0 f1
 walk_at "1"
 walk_at "0"
 have e1:("(":Str)=⟨#[40]⟩:=rfl
 have e2:(" ( ":Str)=ofL [32,40,32]:=rfl
 have e3:(")":Str)=⟨#[41]⟩:=rfl
 have e4:(" ) ":Str)=ofL [32,41,32]:=rfl
 have l1:=lF 40 [32,40,32] (by decide) l
 have l2:=lF 41 [32,41,32] (by decide) (rp 40 [32,40,32] l)
 simp only[cH,bE,bL,gC,k4,v3,lk,al,c3]
 rw[e1,e2,nP,e3,e4,nP]
 simp only[JL,List.length_cons,List.length_nil,VQ,nK]
 refine⟨by omega,by omega,ln (m:=95000) (by omega),?_⟩
 intro pW Pw
 rw[uS,show La [] (rp 41 [32,41,32] (rp 40 [32,40,32] l))=toks l from rfl]
 have RI:pW≠s0:=λe=>by rw[e,f0]at Pw;cases Pw
 have RJ:pW≠o0:=λe=>by rw[e,f1]at Pw;cases Pw
 have hWS:S pW=none:=by
  cases e:S pW with
  |none=>rfl
  |some u=>rw[X0 _ _ e]at Pw;cases Pw
 have fW:(JH S1 pW (.lst (((toks l).map ofL).map PV.str))) pW=some (.lst (((toks l).map ofL).map PV.str)):=aa
 have X1:Ext S (JH S1 pW (.lst (((toks l).map ofL).map PV.str))):=X0.trans (.new Pw)
 have g0:(JH S1 pW (.lst (((toks l).map ofL).map PV.str))) s0=some (.lst [.ref o0]):=by rw[aj (VI RI)];exact f0
 have g1:(JH S1 pW (.lst (((toks l).map ofL).map PV.str))) o0=some (.lst []):=by rw[aj (VI RJ)];exact f1
 generalize JH S1 pW (.lst (((toks l).map ofL).map PV.str))=S2 at fW X1 g0 g1
 have hn:(toks l).length<=95000:=by
  have:=ki (rr l) []
  unfold rr at this
  unfold toks rr
  omega
 simp only[eR,fW]
 refine cf (λdone σ S'=>Ext S S'/\S' pW=some (.lst (((toks l).map ofL).map PV.str))/\∃(os:List Addr) (st:List (List Tr)) (x2 x3:Option PV),σ=[some (.str (ofL l)),some (.ref s0),x2,x3]/\S' s0=some (.lst (os.reverse.map PV.ref))/\(s0::os).Nodup/\(∀o∈os,S o=none/\o≠pW)/\M2 (s0::os) S' done.length os st/\os≠[]/\os.length<=done.length+1/\gE ((toks l).drop done.length) st=gE (toks l) [[]])
  ⟨X1,fW,[o0],[[]],none,none,rfl,g0,by simp[hne],by intro o ho;rw[UM.mp ho];exact⟨SG,VI RJ⟩,⟨⟨[],g1,UH _,by rw[Ks]⟩,trivial⟩,by simp,by simp,rfl⟩ (λ_ _ _ h=>h.2.1) ?_ ?_
 .rintro done x rest σ S3 K e ⟨X3,Qn,os,st,x2,x3,rfl,fs,hnd,hos,hst,Px,hol,LV⟩ hK
  have hget:(((toks l).map ofL).map PV.str)[done.length]?=some x:=by rw[e];simp
  obtain⟨w,hw1,rfl⟩:∃w,(toks l)[done.length]?=some w/\PV.str (ofL w)=x:=by
   rw[VF,U7]at hget
   exact VE.mp hget
  have Pr:=(U3.mp hw1).1
  have Qo:(toks l).drop done.length=w::(toks l).drop (done.length+1):=by
   rw[V7 Pr,(U3.mp hw1).2]
  rw[Qo,gE]at LV
  have hd1:∀y:PV,(done++[y]).length=done.length+1:=λy=>by simp
  have PM:s0 ∉ os:=(Vz.mp hnd).1
  have NT:=(Vz.mp hnd).2
  obtain⟨o,os,rfl⟩:=List.exists_cons_of_ne_nil Px
  cases st with
  |nil=>exact hst.elim
  |cons ts st=>
   simp only[Tg.put,List.set_cons_zero,List.set_cons_succ,a_,aH,am,v3,lk,c3,bo,U6,UY]
   by_cases RM:w=[40]
   .subst RM
    rw[if_pos (show ofL [40]=(⟨#[40]⟩:Str)from rfl)]
    simp only[bh,bL,gC,v3,lk,fs,al,aS,VQ]
    intro p hp
    have n0:p≠s0:=λz=>by rw[z,fs]at hp;cases hp
    have n1:∀x∈o::os,p≠x:=λx hx z=>by
     obtain⟨vs,hv⟩:=M2.get hst x hx
     rw[z,hv]at hp;cases hp
    have n2:p≠pW:=λz=>by rw[z,Qn]at hp;cases hp
    have nS:S p=none:=by
     cases e:S p with
     |none=>rfl
     |some u=>rw[X3 _ _ e]at hp;cases hp
    simp only[aI,aj (VI n0),fs]
    refine⟨UU (show _ < 100000 by simp at hol ⊢;omega) (by decide),hK _ _ ⟨?_,?_,p::o::os,[]::ts::st,_,_,rfl,?_,?_,?_,⟨⟨[],?_,UZ _,by rw[Ks]⟩,?_⟩,by simp,?_,?_⟩⟩
    .intro a u ha
     rw[aj (λz=>by rw[z,Qm]at ha;cases ha),aj (λz=>by rw[z,nS]at ha;cases ha)]
     exact X3 _ _ ha
    .rw[aj RI,aj (VI n2)];exact Qn
    .rw[aa];simp
    .rw[Vz,Vz]
     refine⟨λz=>?_,λz=>n1 p z rfl,NT⟩
     rcases UI.mp z with z|z
     .exact n0 z.symm
     .exact PM z
    .intro x hx
     rcases UI.mp hx with rfl|hx
     .exact⟨nS,n2⟩
     .exact hos x hx
    .rw[aj n0,aa]
    .refine M2.map (by simp) (λa vs h1 h2=>?_) (λx hx=>?_) hst
     .have a0:a≠s0:=λz=>h1 (by rw[z];simp)
      have a1:a≠p:=λz=>by rw[z,hp]at h2;cases h2
      refine⟨λz=>?_,by rw[aj a0,aj a1];exact h2⟩
      rcases UI.mp z with z|z
      .exact a0 z
      .rcases UI.mp z with z|z
       .exact a1 z
       .exact h1 (UP _ z)
     .rw[aj (λz=>PM (by rw[<-z];exact hx)),aj (VI (n1 x hx))]
    .simp at hol ⊢;omega
    .rw[hd1];exact LV
   .rw[if_neg (λz=>RM (U4 (λz:Str=>z.cps.toList) z))]
    obtain⟨⟨vs,hv1,hv2,PN⟩,NU⟩:=hst
    have RN:o≠s0:=λz=>PM (by rw[<-z];simp)
    have oW:=(hos o (by simp)).2
    by_cases Ov:w=[41]
    .subst Ov
     cases os with
     |nil=>
      cases st with
      |cons=>exact NU.elim
      |nil=>
       walk_at "x"
       rw[fs]
       dsimp only
       rw[show decide (ofL [41]=(⟨#[41]⟩:Str))=true from rfl,UO (show ¬(1:Int) < ((([o].reverse.map PV.ref).length:Nat):Int)from by simp)]
       walk_at "y"
       refine k .non S3 X3 ?_
       unfold tree
       rw[<-LV]
       rfl
     |cons o2 os=>
      cases st with
      |nil=>exact NU.elim
      |cons QT st=>
       obtain⟨⟨LK,hw1,RO,QU⟩,RP⟩:=NU
       have SH:o2≠s0:=λz=>PM (by rw[<-z];simp)
       have Uc:=(hos o2 (by simp)).2
       have Ud:o≠o2:=λz=>(Vz.mp NT).1 (by rw[z];simp)
       have Qp:((o::o2::os).reverse.map PV.ref)[((o::o2::os).reverse.map PV.ref).length - 1]?=some (.ref o):=by
        rw[Wy,U5];simp
       have hdl:((o::o2::os).reverse.map PV.ref).dropLast=(o2::os).reverse.map PV.ref:=by
        rw[Wy,U5,UE,Ve,List.dropLast_concat]
       walk_at "x"
       rw[fs]
       dsimp only
       rw[show decide (ofL [41]=(⟨#[41]⟩:Str))=true from rfl,U1 (show(1:Int) < ((((o::o2::os).reverse.map PV.ref).length:Nat):Int)from by simp;omega)]
       walk_at "y"
       rw[Qp]
       dsimp only
       rw[aa,hdl]
       dsimp only
       rw[mJ]
       dsimp only
       rw[aj SH,hw1]
       dsimp only
       refine⟨trivial,trivial,UU (show _ < 100000 by omega) (by decide),hK _ _ ⟨?_,?_,o2::os,(QT++[.n ts])::st,_,_,rfl,?_,?_,?_,⟨⟨LK++[.ref o],aa,?_,?_⟩,?_⟩,by simp,?_,?_⟩⟩
       .intro a u ha
        rw[aj (λz=>by rw[z,(hos o2 (by simp)).1]at ha;cases ha),aj (λz=>by rw[z,Qm]at ha;cases ha)]
        exact X3 _ _ ha
       .rw[aj (VI Uc),aj RI];exact Qn
       .rw[aj (VI SH),aa]
       .exact Vz.mpr ⟨λz=>PM (UP _ z),(Vz.mp NT).2⟩
       .exact λx hx=>hos x (UP _ hx)
       .simp;omega
       .have mp:∀a vs,a ∉ s0::o::o2::os->S3 a=some (.lst vs)->a ∉ s0::o2::os/\JH (JH S3 s0 (.lst ((o2::os).reverse.map PV.ref))) o2 (.lst (LK++[.ref o])) a=some (.lst vs):=λa vs h1 h2=>by
         simp only[UI,not_or]at h1 ⊢
         exact⟨⟨h1.1,h1.2.2⟩,by rw[aj h1.2.2.1,aj h1.1];exact h2⟩
        refine Ks.snoc ?_ (Ks.map mp QT LK QU)
        rw[RT]
        refine⟨o,vs,rfl,?_,by rw[aj Ud,aj RN];exact hv1,Ks.map mp ts vs PN⟩
        exact λz=>by
         rcases UI.mp z with z|z
         .exact RN z
         .exact(Vz.mp NT).1 z
       .refine M2.map (by simp) (λa vs h1 h2=>?_) (λx hx=>?_) RP
        .simp only[UI,not_or]at h1 ⊢
         exact⟨⟨h1.1,h1.2.2⟩,by rw[aj h1.2.2.1,aj h1.1];exact h2⟩
        .rw[aj (λz=>(Vz.mp (Vz.mp NT).2).1 (by rw[<-z];exact hx)),aj (λz=>PM (by rw[<-z];simp[hx]))]
       .simp at hol ⊢;omega
       .rw[hd1];exact LV
    .walk_at "x"
     rw[show decide (ofL w=(⟨#[41]⟩:Str))=false from UO (λz=>Ov (U4 (λz:Str=>z.cps.toList) z))]
     walk_at "y"
     rw[fs]
     dsimp only
     rw[mJ]
     dsimp only
     rw[hv1]
     dsimp only
     rw[if_neg (λz=>Ov (U4 (λz:Str=>z.cps.toList) z))]
     have et:rB w (ts::st)=some ((ts++[.w w])::st):=by unfold rB;rw[if_neg RM,if_neg Ov]
     rw[et]at LV
     refine⟨trivial,UU (show _ < 100000 by omega) (by decide),hK _ _ ⟨?_,?_,o::os,(ts++[.w w])::st,_,_,rfl,?_,hnd,hos,⟨⟨vs++[.str (ofL w)],aa,?_,?_⟩,?_⟩,by simp,?_,?_⟩⟩
     .intro a u ha
      rw[aj (λz=>by rw[z,(hos o (by simp)).1]at ha;cases ha)]
      exact X3 _ _ ha
     .rw[aj (VI oW)];exact Qn
     .rw[aj (VI RN)];exact fs
     .simp;omega
     .refine Ks.snoc (by rw[RT]) (Ks.map (λa vs h1 h2=>⟨h1,?_⟩) ts vs PN)
      rw[aj (λz=>h1 (by rw[z];simp))];exact h2
     .refine M2.map (by simp) (λa vs h1 h2=>⟨h1,?_⟩) (λx hx=>?_) NU
      .rw[aj (λz=>h1 (by rw[z];simp))];exact h2
      .rw[aj (λz=>(Vz.mp NT).1 (by rw[<-z];exact hx))]
     .simp at hol ⊢;omega
     .rw[hd1];exact LV
 .rintro σ S3 ⟨X3,Qn,os,st,x2,x3,rfl,fs,hnd,hos,hst,Px,hol,LV⟩
  rw[UJ,UJ,List.drop_length]at LV
  change some st=_ at LV
  walk_at "0"
  obtain⟨o,os,rfl⟩:=List.exists_cons_of_ne_nil Px
  cases st with
  |nil=>exact hst.elim
  |cons ts st=>
   obtain⟨⟨vs,hv1,hv2,PN⟩,NU⟩:=hst
   walk_at "x"
   rw[fs]
   dsimp only
   have hlen:=M2.len NU
   cases os with
   |nil=>
    cases st with
    |cons=>simp at hlen
    |nil=>
     rw[UO (by simp)]
     walk_at "y"
     rw[show Kn ([o].reverse.map PV.ref) 0=some (.ref o)from rfl]
     dsimp only
     rw[hv1]
     dsimp only
     have hl2:=Ks.len PN
     cases ts with
     |nil=>
      have hv0:vs=[]:=Vi.mp hl2
      subst hv0
      rw[UO (by simp)]
      walk_at "y"
      refine k .non S3 X3 ?_
      unfold tree
      rw[<-LV]
      rfl
     |cons t ts=>
      rw[Ks]at PN
      obtain⟨v,r,rfl,Ue,SI⟩:=PN
      cases ts with
      |nil=>
       rw[Ks]at SI
       subst SI
       rw[U1 (by simp)]
       walk_at "y"
       refine hN _ _ ?_
       walk_at "y"
       rw[fs]
       dsimp only
       rw[show Kn ([o].reverse.map PV.ref) 0=some (.ref o)from rfl]
       dsimp only
       rw[hv1]
       walk_at "y"
       refine k v S3 X3 ?_
       unfold tree
       rw[<-LV]
       exact RT.map (λa vs _ h=>⟨by simp,h⟩) t v Ue
      |cons u ts=>
       rw[UO (by simp at hl2 ⊢;omega)]
       walk_at "y"
       refine k .non S3 X3 ?_
       unfold tree
       rw[<-LV]
       rfl
   |cons o2 os=>
    cases st with
    |nil=>simp at hlen
    |cons QT st=>
     rw[U1 (by simp;omega)]
     walk_at "y"
     refine k .non S3 X3 ?_
     unfold tree
     rw[<-LV,show Em (some (ts::QT::st))=none from by cases ts with|nil=>rfl|cons a b=>cases b<;>rfl]
     rfl
noncomputable def sO:Option Pt->PV
 |none=>.non
 |some p=>p.pv
theorem gw{α:Type}{g:Tg}{tc:iw}{te:aO}{σ':bZ}{keep:aq->Prop}{fin:List PV->aq->Prop}{S:aq}(enc f:α->PV)(b:α->Bool)(hk:keep S):∀(xs:List α)(ys:List PV),
  (∀x∈xs,∃σ2,g.put (enc x) σ'=some σ2/\(∀K:Bool->aq->Prop,K (b x) S->tc σ2 S K fu)/\∀Q:bP,Q (f x) S->te σ2 S Q fu)->ys.length+xs.length<=sizeLine->fin (ys++(xs.filter b).map f) S->dl g tc te σ' keep fin (xs.map enc) ys S
 |[],ys,_,hl,hf=>⟨hk,by simpa using hl,by simpa using hf⟩
 |x::r,ys,h,hl,hf=>by
  obtain⟨σ2,e,h1,h2⟩:=h x (by simp)
  refine⟨hk,by simp at hl;omega,?_⟩
  rw[e]
  refine h1 _ ?_
  cases hb:b x with
  |true=>
   rw[if_pos rfl]
   refine h2 _ (gw enc f b hk r _ (λy hy=>h y (by simp[hy])) (by simp at hl ⊢;omega) ?_)
   rw[List.filter_cons_of_pos hb]at hf
   simpa using hf
  |false=>
   rw[if_neg (by decide)]
   refine gw enc f b hk r _ (λy hy=>h y (by simp[hy])) (by simp at hl ⊢;omega) ?_
   rw[List.filter_cons_of_neg (by rw[hb];decide)]at hf
   exact hf
theorem yj:∀(l:List Nat),∀p∈sp l,∀c∈p,c∈l
 |[],p,h,c,hc=>by rw[UM.mp h]at hc;exact hc
 |a::r,p,h,c,hc=>by
  have ih:=yj r
  unfold sp at h
  split at h
  .rcases UI.mp h with rfl|h
   .simp at hc
   .exact UP _ (ih p h c hc)
  .split at h
   .rw[UM.mp h]at hc;rw[UM.mp hc];simp
   .rename_i x y e
    rw[e]at ih
    rcases UI.mp h with rfl|h
    .rcases UI.mp hc with rfl|hc
     .simp
     .exact UP _ (ih x Vj c hc)
    .exact UP _ (ih p (UP _ h) c hc)
theorem sP:∀{zs:Vs},(∀z∈zs,PyData.strOk z=true)->PyData.canLayAll0 (zs.map PyData.str)=true
 |[],_=>rfl
 |z::r,h=>by
  show(PyData.canLay0 (.str z)&&PyData.canLayAll0 (r.map PyData.str))=true
  rw[sP λy hy=>h y (by simp[hy])]
  show(PyData.strOk z&&true)=true
  rw[h z (by simp)];rfl
def yk{zs:Vs}(h:∀z∈zs,PyData.strOk z=true):(PyData.list (zs.map PyData.str)).canLay0=true:=sP h
def AY(zs:Vs):(PyData.list (zs.map PyData.str)).eqv (.list [])=zs.isEmpty:=by
 cases zs with
 |nil=>rfl
 |cons a b=>rfl
def mK{f:List Nat}{b:Nat->Bool}{S:aq}{p4 p5:Addr}(hv:∀c∈f,c < 256)(h4:S p4=some (.lst ((f.filter b).map λc=>PV.str (sgn c))))(h5:S p5=some (.lst [])):∃d d':PyData,Dat S (.ref p4) d/\Dat S (.ref p5) d'/\d.canLay0=true/\d'.canLay0=true/\min d.depth d'.depth<=150/\d.eqv d'=(f.filter b).isEmpty:=by
 have Uf:List.map (λc=>PV.str (sgn c)) (f.filter b)=((f.filter b).map sgn).map PV.str:=by rw[VF];rfl
 rw[Uf]at h4
 have vz:∀z∈(f.filter b).map sgn,PyData.strOk z=true:=by
  intro z hz
  obtain⟨c,hc,rfl⟩:=Vf.mp hz
  have:=hv c (Yn.mp hc).1
  show(#[c].all λx=>decide (x < 0x110000))=true
  simp;omega
 refine⟨.list (((f.filter b).map sgn).map PyData.str),.list [],.ref h4 (iF S _),.ref h5 .nil,yk vz,rfl,UN (Yc _ _) (by decide),?_⟩
 rw[AY,List.isEmpty_map]
def Ev:∀(k:Nat)(h:List Nat),h.length=k->NumText.AllDigits h->NumText.digitsVal h < 10 ^ k:=by
 intro k
 induction k with
 |zero=>intro h hl _;rw[Vi.mp hl];decide
 |succ k ih=>
  intro h hl hd
  have hn:h≠[]:=λe=>by rw[e]at hl;cases hl
  obtain⟨p,c,rfl⟩:∃p c,h=p++[c]:=⟨h.dropLast,h.getLast hn,(W7 hn).symm⟩
  rw[NumText.digitsVal_snoc,Nat.pow_succ]
  have:=ih p (by simpa using hl) λx hx=>hd x (VA _ hx)
  have:=hd c (by simp)
  omega
def oz{h:List Nat}(o:u8 h)(hl:h.length<=60):NumText.digitsVal h < 10 ^ 60:=UU (Ev _ h rfl o.2) (Nat.pow_le_pow_right (by decide) hl)
def sQ(v b:Nat)(h:0 < b):M3.kF (v:Int) (b:Int)=((v / Nat.gcd v b:Nat):Int)/\M3.lV (v:Int) (b:Int)=((b / Nat.gcd v b:Nat):Int):=by
 unfold M3.kF M3.lV
 rw[if_neg (by omega),if_neg (by omega)]
 simp[Int.gcd]
def lG{f:List Nat}(o:u8 f)(hl:f.length<=60):intText? (ofL f)=some ((digitsVal f:Nat):Int):=by
 have:=intText_digits (x:=ofL f) o.2 o.1 (UN hl (by decide))
 rw[toL]at this
 exact this
abbrev sR(w:aF):Prop:=∀{S:aq}{l:List Nat}{Q:bP}{E:cq},qp l->(∀S',Ext S S'->Q (sO (gP l)) S')->w [.str (ofL l)] S Q E
def AZ{xl:aF}(LQ:nM xl):sR (bV 3 (dz xl)):=by
 intro S l Q E hp k
 have OV:=hp.1.2
 have hlen:=wX l
 have hl1:=hp.1.1
 have RQ:=LB.mp hp.2
 unfold dz
 refine j2 ?_
 rw[show aB 3 [PV.str (ofL l)]=[some (.str (ofL l)),none,none] from rfl]
 walk_at "5"
 walk_at "x"
 simp only[bT]
 rw[pJ,toL]
 refine⟨trivial,by decide,ln (m:=1000) hl1,ln (m:=1001) (by rw[UJ];omega),λp hpp=>hN _ _ (ar λN hN=>?_)⟩
 have X1:Ext S (JH S p (.lst (((sp l).map ofL).map PV.str))):=.new hpp
 have f1:(JH S p (.lst (((sp l).map ofL).map PV.str))) p=some (.lst (((sp l).map ofL).map PV.str)):=aa
 generalize JH S p (.lst (((sp l).map ofL).map PV.str))=S1 at X1 f1
 simp only[cH,bE,v3,lk,eR,f1]
 refine cf (λdone σ S'=>Ext S S'/\S' p=some (.lst (((sp l).map ofL).map PV.str))/\(∃x2,σ=[some (.str (ofL l)),some (.ref p),x2])/\∀f∈(sp l).take done.length,u8 f) ⟨X1,f1,⟨_,rfl⟩,by simp⟩ (λ_ _ _ h=>h.2.1) ?_ ?_
 .rintro done x rest σ S3 K e ⟨X3,f3,⟨x2,rfl⟩,hok⟩ hK
  have hget:(((sp l).map ofL).map PV.str)[done.length]?=some x:=by rw[e];simp
  obtain⟨f,hf1,rfl⟩:∃f,(sp l)[done.length]?=some f/\PV.str (ofL f)=x:=by
   rw[VF,U7]at hget
   exact VE.mp hget
  have hfm:f∈sp l:=VC hf1
  have vf:=OV f hfm
  have Ug:∀c∈f,c < 256:=λc hc=>RQ c (yj l f hfm c hc)
  have none_of:¬u8 f->∀S',Ext S S'->Q .non S':=λno S' X'=>by
   have:=k S' X'
   unfold gP at this
   rw[if_neg λz=>no (z f hfm)]at this
   exact this
  by_cases hfe:f=[]
  .subst hfe
   walk_at "x"
   rw[show decide (ofL []=Str.ofString "")=true from by decide]
   walk_at "y"
   exact none_of (λz=>z.1 rfl) S3 X3
  walk_at "x"
  rw[show decide (ofL f=Str.ofString "")=false from UO λe=>hfe (U4 (λz:Str=>z.cps.toList) e)]
  walk_at "y"
  rw[toL]
  refine gw (λc=>PV.str (sgn c)) (λc=>PV.str (sgn c)) (λc=>!mH c) trivial f [] (λc _=>⟨_,rfl,λK q=>?_,λQ q=>q⟩) (ln (m:=60) (by simpa using vf)) ?_
  .show K (true != !(Builtin.Str.occurrences (PySem.Str.ofString "0123456789") (sgn c) 0 (PySem.Str.ofString "0123456789").length 1).isEmpty) S3
   have e1:=xT (c:=c)
   rw[U6]at e1
   rw[e1]
   simpa using q
  intro p4 ON p5 Nw
  rw[VT]at Nw ⊢
  have RU:p4≠p5:=λe=>by rw[e,aa]at Nw;cases Nw
  have X4:=(Ext.new (o:=.lst ((f.filter λc=>!mH c).map λc=>PV.str (sgn c))) ON).trans (.new (o:=.lst []) Nw)
  have h4:(JH (JH S3 p4 (.lst ((f.filter λc=>!mH c).map λc=>PV.str (sgn c)))) p5 (.lst [])) p4=some (.lst ((f.filter λc=>!mH c).map λc=>PV.str (sgn c))):=by rw[aj RU,aa]
  have h5:(JH (JH S3 p4 (.lst ((f.filter λc=>!mH c).map λc=>PV.str (sgn c)))) p5 (.lst [])) p5=some (.lst []):=aa
  generalize JH (JH S3 p4 (.lst ((f.filter λc=>!mH c).map λc=>PV.str (sgn c)))) p5 (.lst [])=S4 at X4 h4 h5
  have Qr:(f.filter λc=>!mH c)=[]↔NumText.AllDigits f:=by
   rw[List.filter_eq_nil_iff]
   exact⟨λh c hc=>Md.mp (by simpa using h c hc),λh c hc=>by rw[Md.mpr (h c hc)];decide⟩
  obtain⟨d,d',q1,q2,q3,q4,q5,q6⟩:=mK Ug h4 h5
  refine⟨d,d',q1,q2,q3,q4,q5,?_⟩
  rw[q6]
  by_cases hz:(f.filter λc=>!mH c)=[]
  .rw[hz]
   walk_at "y"
   simp only[List.isEmpty_nil,VW,UR,Vx]
   refine hK _ _ ⟨X3.trans X4,X4 _ _ f3,⟨_,rfl⟩,?_⟩
   rw[UK,V2,List.take_add_one,hf1]
   intro g hg
   rcases UT.mp hg with hg|hg
   .exact hok g hg
   .rw[UM.mp hg];exact⟨hfe,Qr.mp hz⟩
  .rw[show(f.filter λc=>!mH c).isEmpty=false from Xq.mpr hz]
   walk_at "y"
   try simp only[V4,VL]
   exact none_of (λz=>hz (Qr.mpr z.2)) _ (X3.trans X4)
 .rintro σ S3 ⟨X3,f3,⟨x2,rfl⟩,hok⟩
  rw[UJ,UJ,W0]at hok
  have kk:=k
  unfold gP at kk
  rw[if_pos hok]at kk
  walk_at "0"
  walk_at "x"
  rw[f3]
  dsimp only
  rw[UJ,UJ]
  cases es:sp l with
  |nil=>exact absurd es (sB l)
  |cons h t=>
   rw[es]at hok kk f3 OV
   have oh:=hok h (by simp)
   have lh:=OV h (by simp)
   have last:∀(P:List PV) (b:Nat) (u':List Nat),S3 p=some (.lst P)->P.length<=2->Kn P 0=some (.str (ofL h))->Kn (P++[.str "1"]) 1=some (.str (ofL u'))->intText? (ofL u')=some (b:Int)->u'.length<=60->0 < b->b < 10 ^ 60->(∀S',Ext S S'->Q (.tup [.int ((digitsVal h / Nat.gcd (digitsVal h) b:Nat):Int),.int ((b / Nat.gcd (digitsVal h) b:Nat):Int)]) S')->N [some (.str (ofL l)),some (.ref p),x2] S3:=by
    intro P b u' hP hPl a0 a1 iu hu hb hb2 kq
    refine hN _ _ ?_
    walk_at "x"
    rw[hP]
    dsimp only
    rw[a0]
    dsimp only
    simp only[cr,lG oh lh]
    refine⟨UN lh (by decide),?_⟩
    intro p6 QV
    have h6:(JH S3 p6 (.lst [.str "1"])) p=some (.lst P):=Ext.new QV _ _ hP
    have SJ:(JH S3 p6 (.lst [.str "1"])) p6=some (.lst [.str "1"]):=aa
    have X6:Ext S (JH S3 p6 (.lst [.str "1"])):=X3.trans (.new QV)
    generalize JH S3 p6 (.lst [.str "1"])=S6 at h6 SJ X6
    rw[h6,SJ]
    refine⟨ln (m:=10) (by simp;omega),λp7 OW=>?_⟩
    rw[aa]
    dsimp only
    rw[a1]
    dsimp only
    simp only[iu]
    refine⟨UN hu (by decide),?_⟩
    have X7:Ext S (JH S6 p7 (.lst (P++[.str "1"]))):=X6.trans (.new OW)
    have:=kq _ X7
    refine LQ (by omega) ?_ ?_
    .exact UU (show(b:Int).natAbs < 10 ^ 60 by simpa using hb2) (UN (show 10 ^ 60<=2 ^ 200 by decide) (Nat.pow_le_pow_right (by decide) (by decide)))
    .rw[(sQ _ b hb).1,(sQ _ b hb).2]
     exact this
   cases t with
   |nil=>
    walk_at "y"
    simp only[List.length_cons,List.length_nil,Xn]
    refine last _ 1 [49] f3 (by simp) rfl rfl (lG ⟨by simp,by intro c hc;rw[UM.mp hc];omega⟩ (by simp)) (by simp) (by decide) (by decide) λS' X'=>?_
    have:=kk S' X'
    rw[YE,Nat.div_one]
    exact this
   |cons u t=>
    cases t with
    |nil=>
     have ou:=hok u (by simp)
     have lu:=OV u (by simp)
     walk_at "y"
     simp only[List.length_cons,List.length_nil,Xn,cr,lG ou lu]
     by_cases hu:digitsVal u=0
     .dsimp only at kk
      rw[if_pos hu]at kk
      rw[hu]
      walk_at "y"
      exact⟨UN lu (by decide),kk S3 X3⟩
     .dsimp only at kk
      rw[if_neg hu]at kk
      rw[UO (show ¬((digitsVal u:Nat):Int)=0 from by omega)]
      walk_at "y"
      refine⟨UN lu (by decide),?_⟩
      exact last _ (digitsVal u) u f3 (by simp) rfl rfl (lG ou lu) lu (by omega) (oz ou lu) kk
    |cons a t=>
     rw[U1 (by simp;omega)]
     walk_at "y"
     exact kk S3 X3
end G08
namespace G08
open PySem L2 L3 Wd
open C
noncomputable def _root_.C.Bd.g9(ws:Vs):Bd->Prop
 | .rest=>True
 | .pay x y=>M3.HR x y/\0<=x/\x<=999/\y<=9
 | .put z m=>z∈ws/\1<=m/\m<=9
 | .use z=>z∈ws
 | .K_ a=>a.g9 ws
 | .JN a b=>a.g9 ws/\b.g9 ws
 | .K5 a b=>a.g9 ws/\b.g9 ws
 | .K7 z m a b=>z∈ws/\1<=m/\m<=9/\a.g9 ws/\b.g9 ws
noncomputable def A0(z:Str):Bool:=!z.cps.toList.isEmpty&&decide (z.cps.toList.length<=6)&&z.cps.toList.all λc=>decide (97<=c)&&decide (c<=122)
def ym{z:Str}(h:A0 z=true):E8 z:=by
 unfold A0 at h
 simp only[Vl,UY,VD,YC,Xq]at h
 exact⟨h.1.1,h.1.2,h.2⟩
def Ew:∀z∈J8,(A0 (Txt.slice z none (some (-1)) ++ "z")=true/\Txt.slice z none (some (-1)) ++ "z" ∉ J8)/\(Txt.slice z none (some (-1))).length+(("z":String):Str).length<=100/\z.length<=100:=by decide +kernel
noncomputable def Ny:List Str:=["jar","deeds","rests","pays","putt","the","eithe","taken","ofte","user","a"]
def Ex:∀z∈Ny,A0 z=true:=by decide +kernel
abbrev lH(w:aF):Prop:=∀{S:aq}{Q:bP}{E:cq},(∀p,S p=none->Q (.ref p) (JH S p (.lst (J8.map PV.str))))->w [] S Q E
def Me:lH (bV 0 fS):=by
 intro S Q E k
 unfold fS
 refine j2 ?_
 walk_at "x"
 exact k
abbrev p_(w:aF):Prop:=∀{S:aq}{d l:Addr}{Q:bP}{E:cq},Deal S d l->(∀z S',E8 z/\z ∉ J8->Deal S' d l->Oth d l S S'->Q (.str z) S')->w [.ref d] S Q E
def MG{x0 x1:aF}(JJ:bW x0)(Me:lH x1):p_ (bV 4 (fV x0 x1)):=by
 intro S d l Q E D k
 unfold fV
 refine j2 ?_
 rw[show aB 4 [PV.ref d]=[some (.ref d),none,none,none] from rfl]
 walk_at "5"
 walk_at "x"
 walk_at "0"
 walk_at "x"
 refine⟨trivial,JJ D (by decide) (by decide) λn S1 n0 n1 D1 O1=>⟨by omega,by omega,?_⟩⟩
 refine re JJ D1 (by omega) rfl rfl ⟨_,rfl⟩ λcs S2 hl hc D2 O2 pj hj=>?_
 simp only[cG,aa,gq]
 refine⟨uN (by omega),?_⟩
 rw[show Txt.join (Str.ofString "") (cs.map sgn)=⟨cs.toArray⟩from qL cs]
 have wz:E8 (⟨cs.toArray⟩:Str):=⟨λe=>by have e':cs=[]:=e;rw[e']at hl;simp at hl;omega,by show cs.length<=6;omega,hc⟩
 generalize (⟨cs.toArray⟩:Str)=z at wz
 have OB:Oth d l S (JH S2 pj (.lst ((cs.map sgn).map PV.str))):=O1.trans (O2.trans (.new hj))
 have DB:=D2.new (o:=.lst ((cs.map sgn).map PV.str)) hj
 generalize JH S2 pj (.lst ((cs.map sgn).map PV.str))=S3 at OB DB
 walk_at "0"
 -- what comes behind
 have tail:∀(z:Str) (S':aq) (x3:Option PV),E8 z->Deal S' d l->Oth d l S S'->N [some (.ref d),some (.str abc),some (.str z),x3] S':=by
  intro z S' x3 wz D' O'
  walk_at "0"
  simp only[a_,aH,am,v3,lk,ak,al]
  refine Me λp hp=>?_
  refine sG aa (Ef wz) nN ?_
  have O2:Oth d l S (JH S' p (.lst (J8.map PV.str))):=O'.trans (.new hp)
  have D2:=D'.new (o:=.lst (J8.map PV.str)) hp
  generalize JH S' p (.lst (J8.map PV.str))=S4 at O2 D2
  by_cases h:z∈J8
  .simp only[h,decide_true,U6,VL]
   obtain⟨h1,h2,h3⟩:=Ew z h
   simp only[ax,am,aA,v3,lk,de,cz,u5,jZ,c3,cK,aG]
   exact⟨iE (by omega),iE (by omega),k _ _ ⟨ym h1.1,h1.2⟩ D2 O2⟩
  .simp only[h,decide_false,U6,UR,Vx]
   refine hN _ _ ?_
   walk_at "x"
   exact k _ _ ⟨wz,h⟩ D2 O2
 simp only[a_,aH,am,v3,lk,ak,al,c3]
 refine JJ DB (by decide) (by decide) λr S4 r0 r1 D4 O4=>?_
 simp only[bo,U6,UY]
 split
 .refine ar λN2 M1=>?_
  walk_at "x"
  intro p hp
  have dp:=D4.free hp
  refine M1 _ _ ?_
  walk_at "x"
  refine JJ (D4.new hp) (by decide) (by decide) λr2 S5 a0 a1 D5 O5=>?_
  have e5:=O5 _ _ (aa (S:=S4) (o:=.lst (Ny.map PV.str))) dp.1 dp.2
  simp only[e5]
  obtain⟨v,hv,Ow⟩:=iG (xs:=Ny.map PV.str) a0 (by simpa [Ny]using a1)
  rw[hv]
  obtain⟨y,hy,rfl⟩:=Vf.mp Ow
  exact tail y S5 _ (ym (Ex y hy)) D5 (OB.trans (O4.trans ((Oth.new hp).trans O5)))
 .exact tail z S4 _ wz D4 (OB.trans O4)
abbrev mL(w:aF):Prop:=∀{S:aq}{d l pw:Addr}{ws:Vs}{Q:bP}{E:cq},Deal S d l->S pw=some (.lst (ws.map PV.str))->pw≠d->pw≠l->1<=ws.length->ws.length<=100->(∀(t:Bd) S',t.g9 ws->t.dep=1->t.size=1->Deal S' d l->Oth d l S S'->Q t.pv S')->w [.ref d,.ref pw] S Q E
def oA{ws:Vs}{r:Int}(h0:0<=r)(h1:r < (ws.length:Int)):∃z∈ws,Kn (ws.map PV.str) r=some (.str z):=by
 obtain⟨v,hv,Ow⟩:=iG (xs:=ws.map PV.str) h0 (by simpa using h1)
 obtain⟨y,hy,rfl⟩:=Vf.mp Ow
 exact⟨y,hy,hv⟩
def yn{x0 x1:aF}(JJ:bW x0)(LQ:nM x1):mL (bV 4 (cL x0 x1)):=by
 intro S d l pw ws Q E D hw wd wl h1 h2 k
 unfold cL
 refine j2 ?_
 rw[show aB 4 [PV.ref d,PV.ref pw]=[some (.ref d),some (.ref pw),none,none] from rfl]
 walk_at "5"
 walk_at "x"
 simp only[hw,UJ]
 refine JJ D (by omega) (by omega) λr S1 r0 r1 D1 O1=>?_
 have hw1:=O1 _ _ hw wd wl
 obtain⟨z,hz,ez⟩:=oA r0 r1
 simp only[hw1,ez]
 walk_at "0"
 walk_at "x"
 refine JJ D1 (by decide) (by decide) λf S2 f0 f1 D2 O2=>?_
 have Qs:=O1.trans O2
 walk_at "0"
 walk_at "x"
 simp only[U6,UY]
 split
 .exact k .rest S2 trivial rfl rfl D2 Qs
 walk_at "0"
 walk_at "x"
 simp only[U6,UY]
 split
 .intro p hp
  have dp:=D2.free hp
  refine JJ (D2.new hp) (by decide) (by decide) λa S3 a0 a1 D3 O3=>?_
  have e3:=O3 _ _ (aa (S:=S2) (o:=.lst [.int 4,.int 1000])) dp.1 dp.2
  simp only[e3]
  obtain⟨v,hv,Ow⟩:=iG (xs:=[PV.int 4,.int 1000]) a0 (by simpa using a1)
  rw[hv]
  obtain⟨g,rfl,SK,P6⟩:∃g:Int,v = .int g/\0 < g/\g<=1000:=by
   simp only[UI,UW,Vy]at Ow
   rcases Ow with rfl|rfl
   .exact⟨4,rfl,by omega,by omega⟩
   .exact⟨1000,rfl,by omega,by omega⟩
  refine JJ D3 SK (by omega) λr2 S4 b0 b1 D4 O4=>?_
  refine JJ D4 (by decide) (by decide) λr3 S5 c0 c1 D5 O5=>?_
  dsimp only
  refine LQ (by omega) (uK (by omega)) ?_
  have zz:=M3.v5 (t:=r2) (b:=1+r3) (T:=999) (B:=9) (by omega) (by omega) (by omega) (by omega) (by omega) (by decide) (by decide)
  refine k (.pay _ _) S5 ⟨M3.ss (by omega),?_,zz.2.1,zz.2.2.2⟩ rfl rfl D5 (Qs.trans ((Oth.new hp).trans (O3.trans (O4.trans O5))))
  unfold M3.kF
  rw[if_neg (by omega)]
  exact Int.ediv_nonneg b0 (by omega)
 refine hN _ _ ?_
 walk_at "x"
 refine JJ D2 (by decide) (by decide) λm S3 m0 m1 D3 O3=>?_
 intro p hp
 have e3:(JH S3 p (.lst [.tup [.str "put",.str z,.int (1+m)],.tup [.str "use",.str z]])) p=_:=aa
 simp only[e3]
 have O4:=Qs.trans (O3.trans (Oth.new (o:=.lst [.tup [.str "put",.str z,.int (1+m)],.tup [.str "use",.str z]]) hp))
 have D4:=D3.new (o:=.lst [.tup [.str "put",.str z,.int (1+m)],.tup [.str "use",.str z]]) hp
 obtain rfl|rfl:f=2\/f=3:=by omega
 .exact k (.put z (1+m)) _ ⟨hz,by omega,by omega⟩ rfl rfl D4 O4
 .exact k (.use z) _ hz rfl rfl D4 O4
abbrev gx(n:Nat)(w:aF):Prop:=∀{S:aq}{d l pw:Addr}{ws:Vs}{room down:Int}{Q:bP}{E:cq},Deal S d l->S pw=some (.lst (ws.map PV.str))->pw≠d->pw≠l->1<=ws.length->ws.length<=100->1<=room->room<=1000->1<=down->down<=n->(∀(t:Bd) S',t.g9 ws->(t.dep:Int)<=down->(t.size:Int)<=room->Deal S' d l->Oth d l S S'->Q t.pv S')->w [.ref d,.ref pw,.int room,.int down] S Q E
def yo{x0 x1 s0:aF}(JJ:bW x0)(OO:mL x1)(n:Nat)(ih:gx n s0):gx (n+1) (bV 8 (cM x0 x1 s0)):=by
 intro S d l pw ws room down Q E D hw wd wl h1 h2 r1 r2 d1 d2 k
 unfold cM
 refine j2 ?_
 rw[show aB 8 [PV.ref d,PV.ref pw,PV.int room,PV.int down]=[some (.ref d),some (.ref pw),some (.int room),some (.int down),none,none,none,none] from rfl]
 walk_at "5"
 walk_at "x"
 refine JJ D (by decide) (by decide) λf S1 f0 f1 D1 O1=>?_
 have hw1:=O1 _ _ hw wd wl
 walk_at "0"
 walk_at "x"
 simp only[U6,UY]
 have lf:x1 [.ref d,.ref pw] S1 Q fu:=OO D1 hw1 wd wl h1 h2 λt S2 g t1 t2 D2 O2=>k t S2 g (by omega) (by omega) D2 (O1.trans O2)
 split
 .rw[if_pos trivial];exact lf
 split
 .rw[if_pos trivial];exact lf
 split
 .exact lf
 walk_at "0"
 walk_at "x"
 simp only[U6,UY]
 have of:s0 [.ref d,.ref pw,.int (room - 1),.int (down - 1)] S1 (λv S'=>Q (.tup [.str "often",v]) S') fu:=ih D1 hw1 wd wl h1 h2 (by omega) (by omega) (by omega) (by omega) λt S2 g t1 t2 D2 O2=>k (.K_ t) S2 g (by simp only[Bd.dep];omega) (by simp only[Bd.size];omega) D2 (O1.trans O2)
 split
 .rw[if_pos trivial];exact of
 split
 .exact of
 walk_at "0"
 walk_at "x"
 refine JJ D1 (by omega) (by omega) λa S2 a0 a1 D2 O2=>?_
 have RO:=O2 _ _ hw1 wd wl
 walk_at "0"
 walk_at "x"
 refine ih D2 RO wd wl h1 h2 (by omega) (by omega) (by omega) (by omega) λta S3 ga da sa D3 O3=>?_
 have QU:=O3 _ _ RO wd wl
 walk_at "0"
 walk_at "x"
 refine ih D3 QU wd wl h1 h2 (by omega) (by omega) (by omega) (by omega) λtb S4 gb db sb D4 O4=>?_
 have SL:=O4 _ _ QU wd wl
 have Nz:=O1.trans (O2.trans (O3.trans O4))
 walk_at "0"
 walk_at "x"
 simp only[UY]
 split
 .intro p hp
  have e3:(JH S4 p (.lst [.str "then",.str "then",.str "either"])) p=_:=aa
  simp only[e3]
  have O5:=Nz.trans (Oth.new (o:=.lst [.str "then",.str "then",.str "either"]) hp)
  have D5:=D4.new (o:=.lst [.str "then",.str "then",.str "either"]) hp
  obtain rfl|rfl|rfl:f=3\/f=4\/f=5:=by omega
  .exact k (.JN ta tb) _ ⟨ga,gb⟩ (by simp only[Bd.dep];omega) (by simp only[Bd.size];omega) D5 O5
  .exact k (.JN ta tb) _ ⟨ga,gb⟩ (by simp only[Bd.dep];omega) (by simp only[Bd.size];omega) D5 O5
  .exact k (.K5 ta tb) _ ⟨ga,gb⟩ (by simp only[Bd.dep];omega) (by simp only[Bd.size];omega) D5 O5
 refine hN _ _ ?_
 walk_at "x"
 simp only[SL,UJ]
 refine JJ D4 (by omega) (by omega) λr S5 q0 q1 D5 O5=>?_
 have Uh:=O5 _ _ SL wd wl
 obtain⟨z,hz,ez⟩:=oA q0 q1
 simp only[Uh,ez]
 refine JJ D5 (by decide) (by decide) λm S6 m0 m1 D6 O6=>?_
 exact k (.K7 z (1+m) ta tb) S6 ⟨hz,by omega,by omega,ga,gb⟩ (by simp only[Bd.dep];omega) (by simp only[Bd.size];omega) D6 (Nz.trans (O5.trans O6))
end G08
namespace G08
open PySem L2 L3 Wd
open C CX T5 T7 T9 PySem.NumText
noncomputable def _root_.C.Bd.gb(ws:Vs):Bd->Prop
 | .rest=>True
 | .pay x y=>x.natAbs < 10 ^ 60/\y.natAbs < 10 ^ 60
 | .put z m=>(sg z).length<=6/\1<=m/\m<=9
 | .use z=>(sg z).length<=6
 | .K_ a=>a.gb ws
 | .JN a b=>a.gb ws/\b.gb ws
 | .K5 a b=>a.gb ws/\b.gb ws
 | .K7 z m a b=>(sg z).length<=6/\1<=m/\m<=9/\a.gb ws/\b.gb ws
abbrev B4(w:aF):Prop:=∀{S:aq}{n d:Int}{Q:bP}{E:cq},n.natAbs < 10 ^ 60->d.natAbs < 10 ^ 60->Q (.str (ofL (txt (n,d)))) S->w [.tup [.int n,.int d]] S Q E
def yp:B4 (bV 1 cw):=by
 intro S n d Q E hn hd k
 unfold cw
 refine j2 ?_
 rw[show aB 1 [PV.tup [PV.int n,PV.int d]]=[some (.tup [.int n,.int d])] from rfl]
 walk_at "5"
 walk_at "y"
 unfold txt at k
 by_cases h1:d=1
 .subst h1
  rw[if_pos rfl]at k
  walk_at "y"
  simp only[iB]
  refine⟨ju hn,?_⟩
  rw[toS]
  exact k
 .rw[if_neg h1]at k
  rw[UO h1]
  walk_at "y"
  refine hN _ _ ?_
  walk_at "y"
  simp only[iB,toS]
  have l2:=dI (n:=n) (k:=59) (by omega)
  have l3:=dI (n:=d) (k:=59) (by omega)
  rw[Er]
  refine⟨ju hn,ln (m:=62) (by rw[JL];show _+1<=_;omega),ju hd,ln (m:=1000) (by rw[JL,JL];simp;omega),?_⟩
  rw[cZ]
  simpa using k
noncomputable def its:Bd->List (PV×List Nat)
 | .rest=>[]
 | .pay x y=>[(.tup [.int x,.int y],txt (x,y))]
 | .put z m=>[(.str z,sg z),(.int m,num m)]
 | .use z=>[(.str z,sg z)]
 | .K_ a=>[(a.pv,tx a)]
 | .JN a b=>[(a.pv,tx a),(b.pv,tx b)]
 | .K5 a b=>[(a.pv,tx a),(b.pv,tx b)]
 | .K7 z m a b=>[(.str z,sg z),(.int m,num m),(a.pv,tx a),(b.pv,tx b)]
def Ey(t:Bd):t.tl=(its t).map Prod.fst:=by cases t<;>rfl
def Ez{t:Bd}(h:t.hd ≠ "rest"):tx t=[40]++gl [32] (sg t.hd::(its t).map Prod.snd)++[41]:=by
 cases t with
 |rest=>exact absurd rfl h
 |_=>rfl
def A1(t:Bd):(its t).length<=4:=by cases t<;>simp[its]
def yq(ws:Vs):Prop:=True
def w6{ws:Vs}(h:yq ws){z:Str}(hz:(sg z).length<=6):(sg z).length<=6:=hz
def sS{x y:Int}(h:x.natAbs < 10 ^ 60/\y.natAbs < 10 ^ 60):(txt (x,y)).length<=130:=by
 have a:=dI (n:=x) (k:=59) (by omega)
 have b:=dI (n:=y) (k:=59) (by omega)
 unfold txt
 split
 .show(num x).length<=_;omega
 .show(num x++47::num y).length<=_;rw[UK,UQ];omega
theorem bw(s:List Nat):∀P:List (List Nat),(gl s P).length<=(P.map List.length).sum+P.length * s.length
 |[]=>by simp[gl]
 |[p]=>by rw[bv];simp
 |p::a::q=>by
  have:=bw s (a::q)
  rw[aX s p (q:=a::q) (by simp)]
  simp only[UK,UE,List.sum_cons,List.length_cons,Nat.add_mul,Nat.one_mul]at *
  omega
theorem gf{ws:Vs}(hw:yq ws):∀t:Bd,t.gb ws->(tx t).length<=200 * t.size
 | .rest,_=>by decide +kernel
 | .pay x y,g=>by
  have:=sS g
  have:=bw [32] [sg "pay",txt (x,y)]
  have e:(sg "pay").length=3:=by decide +kernel
  walk_at "2"
  omega
 | .put z m,g=>by
  have:=w6 hw g.1
  have:=dI (n:=m) (k:=1) (by have:=g.2;omega)
  have:=bw [32] [sg "put",sg z,num m]
  have e:(sg "put").length=3:=by decide +kernel
  walk_at "2"
  omega
 | .use z,g=>by
  have:=w6 hw g
  have:=bw [32] [sg "use",sg z]
  have e:(sg "use").length=3:=by decide +kernel
  walk_at "2"
  omega
 | .K_ a,g=>by
  have:=gf hw a g
  have:=bw [32] [sg "often",tx a]
  have e:(sg "often").length=5:=by decide +kernel
  walk_at "2"
  omega
 | .JN a b,g=>by
  have:=gf hw a g.1
  have:=gf hw b g.2
  have:=bw [32] [sg "then",tx a,tx b]
  have e:(sg "then").length=4:=by decide +kernel
  walk_at "2"
  omega
 | .K5 a b,g=>by
  have:=gf hw a g.1
  have:=gf hw b g.2
  have:=bw [32] [sg "either",tx a,tx b]
  have e:(sg "either").length=6:=by decide +kernel
  walk_at "2"
  omega
 | .K7 z m a b,g=>by
  have:=w6 hw g.1
  have:=dI (n:=m) (k:=1) (by have:=g.2;omega)
  have:=gf hw a g.2.2.2.1
  have:=gf hw b g.2.2.2.2
  have:=bw [32] [sg "take",sg z,num m,tx a,tx b]
  have e:(sg "take").length=4:=by decide +kernel
  walk_at "2"
  omega
inductive IT(n:Nat)(ws:Vs)(sz:Nat):PV×List Nat->Prop
 |str (z:Str) (h:(sg z).length<=6):IT n ws sz (.str z,sg z)
 |int (m:Int) (h1:1<=m) (h2:m<=9):IT n ws sz (.int m,num m)
 |body (u:Bd) (h1:u.dep<=n) (h2:u.gb ws) (h3:u.size<=sz):IT n ws sz (u.pv,tx u)
 |cost (x y:Int) (h:x.natAbs < 10 ^ 60/\y.natAbs < 10 ^ 60):IT n ws sz (.tup [.int x,.int y],txt (x,y))
def EA{n sz:Nat}{ws:Vs}{t:Bd}(hd:t.dep<=n+1)(hs:t.size<=sz)(g:t.gb ws):∀p∈its t,IT n ws sz p:=by
 intro p hp
 cases t with
 |rest=>cases hp
 |pay x y=>rw[UM.mp hp];exact .cost x y g
 |put z m=>
  simp only[its,UI,UW,Vy]at hp
  rcases hp with rfl|rfl
  .exact .str z g.1
  .exact .int m g.2.1 g.2.2
 |use z=>rw[UM.mp hp];exact .str z g
 |K_ a=>
  simp only[Bd.dep]at hd
  simp only[Bd.size]at hs
  rw[UM.mp hp];exact .body a (by omega) g (by omega)
 |JN a b=>
  simp only[Bd.dep]at hd
  simp only[Bd.size]at hs
  simp only[its,UI,UW,Vy]at hp
  rcases hp with rfl|rfl
  .exact .body a (by omega) g.1 (by omega)
  .exact .body b (by omega) g.2 (by omega)
 |K5 a b=>
  simp only[Bd.dep]at hd
  simp only[Bd.size]at hs
  simp only[its,UI,UW,Vy]at hp
  rcases hp with rfl|rfl
  .exact .body a (by omega) g.1 (by omega)
  .exact .body b (by omega) g.2 (by omega)
 |K7 z m a b=>
  simp only[Bd.dep]at hd
  simp only[Bd.size]at hs
  simp only[its,UI,UW,Vy]at hp
  rcases hp with rfl|rfl|rfl|rfl
  .exact .str z g.1
  .exact .int m g.2.1 g.2.2.1
  .exact .body a (by omega) g.2.2.2.1 (by omega)
  .exact .body b (by omega) g.2.2.2.2 (by omega)
def EB{n sz:Nat}{ws:Vs}(hw:yq ws){p:PV×List Nat}(h:IT n ws sz p)(hs:sz<=1100):p.2.length<=220000:=by
 cases h with
 |str z h=>have:=w6 hw h;show(sg z).length<=_;omega
 |int m h1 h2=>have:=dI (n:=m) (k:=1) (by omega);show(num m).length<=_;omega
 |body u h1 h2 h3=>have:=gf hw u h2;show(tx u).length<=_;omega
 |cost x y h=>have:=sS h;show(txt (x,y)).length<=_;omega
def sT(P:List (List Nat)):Txt.join " " (P.map ofL)=ofL (gl [32] P):=by
 show Builtin.Str.glued (ofL [32]) (P.map ofL)=_
 rw[PySem.StrLaws.glued_eq_join]
 have:=iH [32] (P.map ofL)
 rw[VF]at this
 have e:(P.map ((λz:Str=>z.cps.toList) ∘ ofL))=P:=by(conv=>rhs;rw[<-YD P]);rfl
 rw[e]at this
 rw[<-this,du]
def B5(z:Str):ofL (sg z)=z:=du z
abbrev lI(n:Nat)(w:aF):Prop:=∀{S:aq}{t:Bd}{ws:Vs}{Q:bP}{E:cq},yq ws->t.dep<=n->t.gb ws->t.size<=1100->(∀S',Ext S S'->Q (.str (ofL (tx t))) S')->w [t.pv] S Q E
def yr(P:List (List Nat)):P.map (λl=>PV.str (ofL l))=(P.map ofL).map PV.str:=by rw[VF];rfl
def A2{S:aq}{P:List (List Nat)}{p:Addr}{i:Nat}{σ:bZ}{Q:bP}{E:cq}(hi:lk σ i=some (.ref p))(hp:S p=some (.lst ((P.map ofL).map PV.str)))(hl:(P.map List.length).sum+P.length<=900000)(k:Q (.str (ofL ([40]++gl [32] P++[41]))) S) :
  am aG (am aG (c3 (.str "(")) (bL "str" cG (c3 (.str " ")) [v3 i])) (c3 (.str ")")) σ S Q E:=by
 have g:=bw [32] P
 simp only[am,bL,al,c3,v3,hi,gC,cG,hp,gq,sT]
 have e1:(("(":String):Str)=ofL [40]:=rfl
 have e2:((")":String):Str)=ofL [41]:=rfl
 have e3:((P.map ofL).map (·.length)).sum=(P.map List.length).sum:=by rw[VF];rfl
 refine⟨trivial,?_,?_⟩
 .rw[e3,UJ]
  show _+_ * 1<=_
  omega
 .rw[e1,e2]
  simp only[aG,cZ,JL]
  simp only[List.length_cons,List.length_nil,UK,Xn,Nat.mul_one]at g ⊢
  exact⟨UN (show _<=8000000 by omega) (by decide),UN (show _<=8000000 by omega) (by decide),k⟩
theorem sU{n sz:Nat}{ws:Vs}(hw:yq ws)(hs:sz<=1100):∀{ps:List (PV×List Nat)},(∀p∈ps,IT n ws sz p)->((ps.map Prod.snd).map List.length).sum<=220000 * ps.length
 |[],_=>by simp
 |p::r,h=>by
  have a:=EB hw (h p (by simp)) hs
  have b:=sU hw hs (ps:=r) λx hx=>h x (by simp[hx])
  simp only[UE,List.sum_cons,List.length_cons]
  omega
def EC(t:Bd):(sg t.hd).length<=6:=by cases t<;>simp only[Bd.hd]<;>decide +kernel
def uX{xc s0:aF}(MZ:B4 xc)(n:Nat)(ih:lI n s0):lI (n+1) (bV 3 (cx xc s0)):=by
 intro S t ws Q E hw hd g hs k
 unfold cx
 refine j2 ?_
 rw[show aB 3 [t.pv]=[some t.pv,none,none] from rfl,Bd.Mt]
 walk_at "5"
 simp only[a_,aH,am,az,v3,lk,c3,rc,bo,U6]
 by_cases hr:t.hd = "rest"
 .rw[U1 hr]
  simp only[VL,ax,c3]
  have e:t = .rest:=by cases t<;>simp[Bd.hd,bD]at hr<;>rfl
  subst e
  have:=k S .refl
  exact this
 rw[UO hr]
 simp only[UR,Vx,aJ]
 walk_at "0"
 simp only[ap,aS,al,am,az,v3,lk,c3,rc,List.set_cons_zero,List.set_cons_succ]
 intro p hp
 have f1:(JH S p (.lst [.str t.hd])) p=some (.lst ([(sg t.hd:List Nat)].map λl=>PV.str (ofL l))):=by rw[aa,UE,Ve,B5]
 have X1:Ext S (JH S p (.lst [.str t.hd])):=.new hp
 generalize JH S p (.lst [.str t.hd])=S1 at f1 X1
 walk_at "0"
 have ec:cu (PV.str t.hd::t.tl) (some 1) none=(its t).map Prod.fst:=by
  rw[<-Ey]
  unfold cu
  rw[HT.kz,show(1:Int)=((1:Nat):Int)from rfl,HT.im,WK (by simp)]
  simp
 simp only[cH,bE,aA,de,cz,v3,lk,c3,cK,eR,ec]
 have hit:=EA hd hs g
 have hl4:=A1 t
 have Qt:=sU hw (UH 1100) hit
 have h6:=EC t
 refine cf (λdone σ S'=>Ext S S'/\done.length<=(its t).length/\∃x2,σ=[some (.tup (PV.str t.hd::t.tl)),some (.ref p),x2]/\S' p=some (.lst ((sg t.hd::((its t).take done.length).map Prod.snd).map λl=>PV.str (ofL l)))) ⟨X1,UZ _,_,rfl,f1⟩ (λ_ _ _ _=>trivial) ?_ ?_
 .rintro done x rest σ S2 K e ⟨X2,hdl,x2,rfl,f2⟩ hK
  have hget:((its t).map Prod.fst)[done.length]?=some x:=by rw[e];simp
  obtain⟨q,hq,rfl⟩:∃q,(its t)[done.length]?=some q/\Prod.fst q=x:=by rw[U7]at hget;exact VE.mp hget
  have hlt:=(U3.mp hq).1
  have app:∀S3,Ext S2 S3->K [some (.tup (PV.str t.hd::t.tl)),some (.ref p),some q.1] (JH S3 p (.lst ((sg t.hd::((its t).take done.length).map Prod.snd).map (λl=>PV.str (ofL l))++[.str (ofL q.2)]))):=by
   intro S3 X3
   refine hK _ _ ⟨?_,by rw[UK,V2];omega,_,rfl,?_⟩
   .intro a o ha
    rw[aj (λe=>by rw[e,hp]at ha;cases ha)]
    exact X3 _ _ (X2 _ _ ha)
   .rw[aa,UK,V2,Yy,hq]
    simp
  have small:∀xs:List PV,xs=(sg t.hd::((its t).take done.length).map Prod.snd).map (λl=>PV.str (ofL l))->xs.length < sizeLine:=λxs e=>by
   rw[e]
   refine UU (show _ < 1000 from ?_) (by decide)
   simp
   omega
  simp only[Tg.put,List.set_cons_zero,List.set_cons_succ]
  have hI:=hit q (VC hq)
  obtain⟨v,w⟩:=q
  simp only[a_,aH,af,al,v3,lk,c3]
  cases hI with
  |str z hz=>
   refine⟨by decide,?_⟩
   rw[show dk "str" "str" = true by decide]
   simp only[VL,bh,bL,gC,v3,lk,al,f2,aI,VQ]
   refine⟨small _ rfl,?_⟩
   have:=app S2 .refl
   rw[B5]at this
   exact this
  |int m m1 m9=>
   refine⟨by decide,?_⟩
   rw[show dk "int" "str" = false by decide]
   simp only[UR,Vx]
   refine⟨by decide,?_⟩
   rw[show dk "int" "int" = true by decide]
   simp only[VL,bh,bL,gC,v3,lk,al,f2,af,iB,VQ]
   refine⟨ju (by omega),?_⟩
   simp only[aI,f2]
   refine⟨small _ rfl,?_⟩
   rw[toS]
   exact app S2 .refl
  |body u u1 u2 u3=>
   have ety:∀S:aq,pC S u.pv=some "tuple":=λS=>by rw[Bd.Mt];rfl
   simp only[eC,ety]
   refine⟨by decide,?_⟩
   rw[show dk "tuple" "str" = false by decide]
   simp only[UR,Vx]
   refine⟨by decide,?_⟩
   rw[show dk "tuple" "int" = false by decide]
   simp only[UR,Vx,am,v3,lk,c3]
   rw[Bd.Mt]
   simp only[az,rc,pC]
   refine⟨by decide,?_⟩
   rw[show dk "str" "str" = true by decide]
   simp only[VL,bh,bL,gC,v3,lk,al,f2,ak,VQ]
   rw[<-Bd.Mt]
   refine ih hw u1 u2 u3 λS3 X3=>?_
   have f3:=X3 _ _ f2
   simp only[aI,f3]
   exact⟨small _ rfl,app S3 X3⟩
  |cost a b h=>
   refine⟨by decide,?_⟩
   rw[show dk "tuple" "str" = false by decide]
   simp only[UR,Vx]
   refine⟨by decide,?_⟩
   rw[show dk "tuple" "int" = false by decide]
   simp only[UR,Vx,am,v3,lk,c3,az,rc,eC,pC]
   refine⟨by decide,?_⟩
   rw[show dk "int" "str" = false by decide]
   simp only[UR,Vx,bh,bL,gC,v3,lk,al,f2,ak,VQ]
   refine MZ h.1 h.2 ?_
   simp only[aI,f2]
   exact⟨small _ rfl,app S2 .refl⟩
 .rintro σ S2 ⟨X2,hdl,x2,rfl,f2⟩
  refine hN _ _ (mI ?_)
  rw[UJ,W0]at f2
  rw[yr]at f2
  refine A2 rfl f2 ?_ ?_
  .simp only[UE,List.sum_cons,List.length_cons,UJ]
   omega
  .rw[<-Ez hr]
   exact k S2 X2
abbrev mM(w:aF):Prop:=∀{S:aq}{l:List Nat}{Q:bP}{E:cq},l.length<=1000->Vd l=true->(∀S',Ext S S'->Q (.bl (ci l)) S')->w [.str (ofL l)] S Q E
def yt{x:aF}(RV:lH x):mM (bV 1 (dy x)):=by
 intro S l Q E hl hv k
 have RQ:=LB.mp hv
 unfold dy
 refine j2 ?_
 rw[show aB 1 [PV.str (ofL l)]=[some (.str (ofL l))] from rfl]
 walk_at "5"
 simp only[a_,fc,aH,am,ak,al,v3,lk,c3]
 refine RV λp hp=>?_
 have X1:Ext S (JH S p (.lst (J8.map PV.str))):=.new hp
 have f1:(JH S p (.lst (J8.map PV.str))) p=some (.lst (J8.map PV.str)):=aa
 generalize JH S p (.lst (J8.map PV.str))=S1 at X1 f1
 refine sG (zs:=J8) f1 (ow hv (by omega)) nN ?_
 by_cases hk:ofL l∈J8
 .rw[U1 hk]
  walk_at "y"
  have:ci l=false:=by unfold ci;rw[UO (not_not_intro hk)];simp
  rw[<-this];exact k S1 X1
 rw[UO hk]
 walk_at "y"
 simp only[nA]
 walk_at "y"
 rw[JL]
 refine⟨ln (m:=1000) hl,?_⟩
 by_cases h1:l=[]
 .subst h1
  walk_at "y"
  exact k S1 X1
 have h1':l.length≠0:=λe=>h1 (Vi.mp e)
 rw[U1 (show(0:Int) < ((l.length:Nat):Int)from by omega)]
 walk_at "y"
 rcases Nat.lt_or_ge 6 l.length with h2|h2
 .rw[UO (show ¬((l.length:Nat):Int) < 7 from by omega)]
  walk_at "y"
  have:ci l=false:=by unfold ci;rw[UO (Nat.not_le.mpr h2)];simp
  rw[<-this];exact k S1 X1
 rw[U1 (show((l.length:Nat):Int) < 7 from by omega)]
 walk_at "y"
 refine hN _ _ (mI ?_)
 walk_at "x"
 rw[toL]
 refine gw (λc=>PV.str (sgn c)) (λc=>PV.str (sgn c)) (λc=>!u_ c) trivial l [] (λc _=>⟨_,rfl,λK q=>?_,λQ q=>q⟩) (ln (m:=60) (by rw[Wr];omega)) ?_
 .show K (true != !(Builtin.Str.occurrences (PySem.Str.ofString "abcdefghijklmnopqrstuvwxyz") (sgn c) 0 (PySem.Str.ofString "abcdefghijklmnopqrstuvwxyz").length 1).isEmpty) S1
  have e1:=xX (c:=c)
  rw[U6]at e1
  rw[e1]
  simpa using q
 intro p4 ON p5 Nw
 rw[VT]at Nw ⊢
 have RU:p4≠p5:=λe=>by rw[e,aa]at Nw;cases Nw
 have X4:=(Ext.new (o:=.lst ((l.filter λc=>!u_ c).map λc=>PV.str (sgn c))) ON).trans (.new (o:=.lst []) Nw)
 have h4:(JH (JH S1 p4 (.lst ((l.filter λc=>!u_ c).map λc=>PV.str (sgn c)))) p5 (.lst [])) p4=some (.lst ((l.filter λc=>!u_ c).map λc=>PV.str (sgn c))):=by rw[aj RU,aa]
 have h5:(JH (JH S1 p4 (.lst ((l.filter λc=>!u_ c).map λc=>PV.str (sgn c)))) p5 (.lst [])) p5=some (.lst []):=aa
 generalize JH (JH S1 p4 (.lst ((l.filter λc=>!u_ c).map λc=>PV.str (sgn c)))) p5 (.lst [])=S4 at X4 h4 h5
 obtain⟨d,d',q1,q2,q3,q4,q5,q6⟩:=mK RQ h4 h5
 refine⟨d,d',q1,q2,q3,q4,q5,?_⟩
 rw[q6]
 have:ci l=(false != (l.filter λc=>!u_ c).isEmpty):=by
  unfold ci
  rw[U1 h2,U1 hk,show l.isEmpty=false from by cases l with|nil=>exact absurd rfl h1|cons=>rfl]
  simp only[V4,Bool.true_and,Bool.and_true,U6]
  rw[WJ,VD,List.isEmpty_iff,List.filter_eq_nil_iff]
  simp[u_]
 rw[<-this]
 exact k S4 (X1.trans X4)
mutual
noncomputable def dp:Tr->Nat
 | .w _=>1
 | .n ts=>Om ts+1
noncomputable def Om:List Tr->Nat
 |[]=>0
 |t::ts=>max (dp t) (Om ts)
end
mutual
noncomputable def AW:Tr->Prop
 | .w l=>qp l
 | .n ts=>LZ ts
noncomputable def LZ:List Tr->Prop
 |[]=>True
 |t::ts=>AW t/\LZ ts
end
noncomputable def Kd.ls:Kd->Str
 | .cost=>"cost" | .things=>"many" | .name=>"name" | .body=>"body"
noncomputable def B6:Option Bd->PV
 |none=>.non
 |some t=>t.pv
def GI(o:Option Bd):sO (o.map .b)=B6 o:=by cases o<;>rfl
abbrev sV(n:Nat)(w:aF):Prop:=∀{S:aq}{T:Tr}{v:PV}{Q:bP}{E:cq},RT [] S T v->AW T->2 * dp T<=n->(∀S',Ext S S'->Q (B6 (dB T)) S')->w [v] S Q E
abbrev rE(n:Nat)(w:aF):Prop:=∀{S:aq}{T:Tr}{v:PV}{k:Kd}{Q:bP}{E:cq},RT [] S T v->AW T->2 * dp T+1<=n->(∀S',Ext S S'->Q (sO (oR k (T,dB T))) S')->w [v,.str (Kd.ls k)] S Q E
def ED(l:List Nat):sO (lO .name l)=if ci l=true then .str (ofL l) else .non:=by
 show sO (if ci l=true then some (.n l) else none)=_
 split<;>rfl
def yu{xc xn s0 s1:aF}(MZ:sR xc)(Lf:mM xn)(n:Nat)(ih:sV n s1):rE (n+1) (bV 2 (bY xc xn s0 s1)):=by
 intro S T v kd Q E hT hA hd k
 unfold bY
 refine j2 ?_
 rw[show aB 2 [v,PV.str (Kd.ls kd)]=[some v,some (.str (Kd.ls kd))] from rfl]
 walk_at "5"
 simp only[a_,aH,am,v3,lk,c3,bo,U6,UY]
 by_cases hb:kd = .body
 .subst hb
  rw[if_pos (show Kd.ls .body = "body" from rfl)]
  simp only[ax,ak,al,v3,lk]
  refine ih hT hA (by omega) λS' X'=>?_
  have:=k S' X'
  rw[show oR .body (T,dB T)=(dB T).map .b from rfl,GI]at this
  exact this
 rw[if_neg (show ¬Kd.ls kd = "body" from by cases kd<;>first|exact absurd rfl hb|simp[Kd.ls,bD])]
 simp only[aJ]
 walk_at "0"
 cases T with
 |n ts=>
  rw[RT]at hT
  obtain⟨a,vs,rfl,-,h1,h2⟩:=hT
  have e:oR kd (.n ts,dB (.n ts))=none:=by cases kd<;>first|rfl|exact absurd rfl hb
  rw[e]at k
  simp only[a_,eZ,aH,af,al,v3,lk,c3,eC,pC,h1]
  refine⟨by decide,?_⟩
  rw[show dk "list" "str" = false by decide]
  walk_at "y"
  exact k S .refl
 |w l=>
  rw[RT]at hT
  subst hT
  have hA':qp l:=hA
  simp only[a_,eZ,aH,af,al,v3,lk,c3,eC,pC]
  refine⟨by decide,?_⟩
  rw[show dk "str" "str" = true by decide]
  walk_at "y"
  walk_at "0"
  cases kd with
  |body=>exact absurd rfl hb
  |cost=>
   simp only[Kd.ls]
   walk_at "y"
   exact MZ hA' λS' X'=>k S' X'
  |things=>
   have e:oR .things (.w l,dB (.w l))=lO .things l:=rfl
   rw[e]at k
   simp only[Kd.ls]
   walk_at "y"
   walk_at "0"
   walk_at "y"
   rw[JL]
   by_cases h1:l.length=1
   .obtain⟨c,rfl⟩:∃c,l=[c]:=XR.mp h1
    rw[show decide ((([c]:List Nat).length:Int)=1)=true from rfl]
    walk_at "y"
    simp only[kL]
    rw[show ofL [c]=sgn c from rfl,WZ,show(PySem.Str.ofString "123456789").cps.toList=List.range' 49 9 from by decide +kernel]
    refine⟨ln (m:=1) (by simp),?_⟩
    by_cases hc:49<=c/\c<=57
    .rw[U1 (by rw[Xd];omega)]
     walk_at "y"
     simp only[cr]
     have e:intText? (sgn c)=some ((c - 48:Nat):Int):=by
      have:=lG (f:=[c]) ⟨by simp,by intro d hd;rw[UM.mp hd];omega⟩ (by simp)
      rw[show sgn c=ofL [c] from rfl,this]
      simp[NumText.digitsVal]
     rw[e]
     have:=k S .refl
     rw[show lO .things [c]=some (.m (c - 48))from if_pos hc]at this
     exact⟨by show 1<=640;decide,this⟩
    .rw[UO (by rw[Xd];omega)]
     walk_at "y"
     have:=k S .refl
     rw[show lO .things [c]=none from if_neg hc]at this
     exact this
   .rw[UO (show ¬((l.length:Nat):Int)=1 from by omega)]
    walk_at "y"
    have e2:lO .things l=none:=by
     show(match l with|[c]=>if 49<=c/\c<=57 then some (Pt.m (c - 48)) else none|_=>none)=none
     split
     .exact absurd rfl h1
     .rfl
    have:=k S .refl
    rw[e2]at this
    exact⟨ln (m:=1000) hA'.1.1,this⟩
  |name=>
   have e:oR .name (.w l,dB (.w l))=lO .name l:=rfl
   rw[e]at k
   simp only[Kd.ls]
   walk_at "y"
   walk_at "0"
   walk_at "y"
   refine hN _ _ ?_
   walk_at "y"
   refine Lf hA'.1.1 hA'.2 λS' X'=>?_
   have:=k S' X'
   rw[ED]at this
   cases hb2:ci l with
   |true=>rw[hb2,if_pos rfl]at this;walk_at "y"; exact this
   |false=>rw[hb2,if_neg (by simp)]at this;walk_at "y"; exact this
mutual
theorem yv{O:List Addr}{S:aq}:∀(T:Tr)(v:PV),RT O S T v->AW T->∃d,Dat S v d/\d.canLay0=true
 | .w l,v,r,a=>by
  rw[RT]at r
  subst r
  rw[AW]at a
  exact⟨.str _,.str _,ow a.2 (by have:=a.1.1;omega)⟩
 | .n ts,v,r,a=>by
  rw[RT]at r
  rw[AW]at a
  obtain⟨b,vs,rfl,-,h1,h2⟩:=r
  obtain⟨ds,h3,h4⟩:=NA ts vs h2 a
  exact⟨.list ds,.ref h1 h3,h4⟩
theorem NA{O:List Addr}{S:aq}:∀(ts:List Tr)(vs:List PV),Ks O S ts vs->LZ ts->∃ds,KZ S vs ds/\PyData.canLayAll0 ds=true
 |[],vs,r,a=>by
  rw[Ks]at r
  subst r
  exact⟨[],.nil,rfl⟩
 |t::ts,vs,r,a=>by
  rw[Ks]at r
  rw[LZ]at a
  obtain⟨v,w,rfl,h1,h2⟩:=r
  obtain⟨d,h3,h4⟩:=yv t v h1 a.1
  obtain⟨ds,h5,h6⟩:=NA ts w h2 a.2
  refine⟨d::ds,.cons h3 h5,?_⟩
  show(d.canLay0&&PyData.canLayAll0 ds)=true
  rw[h4,h6];rfl
end
noncomputable def PR(S:aq):List (Str×List Str)->List (bp×PV)->Prop
 |[],kvs=>kvs=[]
 |(k,zs)::M,kvs=>∃q r,kvs=(.inr k,.ref q)::r/\S q=some (.lst (zs.map PV.str))/\PR S M r
theorem PR.mono{S S':aq}(X:Ext S S'):∀{M:List (Str×List Str)}{kvs:List (bp×PV)},PR S M kvs->PR S' M kvs
 |[],_,h=>h
 |(k,zs)::M,_,⟨q,r,e,h1,h2⟩=>⟨q,r,e,X _ _ h1,PR.mono X h2⟩
theorem PR.app{S:aq}:∀{M M':List (Str×List Str)}{a b:List (bp×PV)},PR S M a->PR S M' b->PR S (M++M') (a++b)
 |[],_,_,_,h,h'=>by rw[PR]at h;subst h;exact h'
 |(k,zs)::M,M',_,b,⟨q,r,e,h1,h2⟩,h'=>⟨q,r++b,by rw[e];rfl,h1,PR.app h2 h'⟩
theorem PR.at_{S:aq}{h:Str}:∀{M:List (Str×List Str)}{kvs:List (bp×PV)},PR S M kvs->match gZ M h with
  |some zs=>∃q,i9 kvs (.inr h)=some (.ref q)/\S q=some (.lst (zs.map PV.str))/\(kvs.any λkv=>decide (kv.1=Sum.inr h))=true
  |none=>(kvs.any λkv=>decide (kv.1=Sum.inr h))=false
 |[],_,e=>by rw[PR]at e;subst e;rfl
 |(k,zs)::M,_,⟨q,r,e,h1,h2⟩=>by
  subst e
  have ih:=PR.at_ (h:=h) h2
  unfold gZ
  by_cases hk:k=h
  .subst hk
   rw[if_pos rfl]
   exact⟨q,by rw[i9,if_pos rfl],h1,by simp⟩
  .rw[if_neg hk]
   have hk':¬((Sum.inr k:bp)=Sum.inr h):=λz=>hk (by injection z)
   cases e:gZ M h with
   |none=>rw[e]at ih;simp only[List.any_cons,UO hk',Bool.false_or];exact ih
   |some zs'=>
    rw[e]at ih
    obtain⟨q',g1,g2,g3⟩:=ih
    exact⟨q',by rw[i9,if_neg hk'];exact g1,g2,by rw[W8,g3];simp⟩
def GJ{zs:Vs}:∀{σ:bZ}{S:aq}{Q:List PV->aq->Prop}{E:cq},Q (zs.map PV.str) S->al (zs.map λz=>c3 (.str z)) σ S Q E:=by
 induction zs with
 |nil=>intro σ S Q E h;exact h
 |cons z zs ih=>intro σ S Q E h;exact ih h
theorem sW:∀(M:List (Str×List Str)) {σ:bZ} {S:aq} {Q:List (PV×PV)->aq->Prop} {E:cq},(∀ps S',Ext S S'->(∃kvs,kR ps=some kvs/\PR S' M kvs)->Q ps S')->fv (M.map λm=>(c3 (.str m.1),aS (m.2.map λz=>c3 (.str z)))) σ S Q E
 |[],σ,S,Q,E,k=>k [] S .refl ⟨[],rfl,rfl⟩
 |(z,zs)::M,σ,S,Q,E,k=>by
  show aS (zs.map λz=>c3 (.str z)) σ S (λy S2=>fv (M.map λm=>(c3 (.str m.1),aS (m.2.map λz=>c3 (.str z)))) σ S2 (λps S3=>Q ((.str z,y)::ps) S3) E) E
  unfold aS
  refine GJ λq hq=>?_
  refine sW M λps S' X' ⟨kvs,h1,h2⟩=>?_
  refine k _ S' ((Ext.new hq).trans X') ⟨(.inr z,.ref q)::kvs,?_,q,kvs,rfl,X' _ _ aa,h2⟩
  show(match nq (.str z),kR ps with|some k,some l=>some ((k,PV.ref q)::l)|_,_=>none)=_
  rw[h1];rfl
def A3{k:bp}{v:PV}{kvs:List (bp×PV)}(h:∀kv∈kvs,kv.1≠k):j1 kvs k v=kvs++[(k,v)]:=by
 unfold j1
 exact if_neg (by rw[List.any_eq_true];rintro⟨kv,h1,h2⟩;exact h kv h1 (of_decide_eq_true h2))
theorem jw:∀{more kvs:List (bp×PV)},(∀kv∈kvs,∀kw∈more,kv.1≠kw.1)->(more.map Prod.fst).Nodup->dP kvs more=kvs++more
 |[],kvs,_,_=>by simp[dP]
 |kw::more,kvs,h,hn=>by
  rw[UE,Vz]at hn
  show dP (j1 kvs kw.1 kw.2) more=_
  rw[A3 (λkv hkv=>h kv hkv kw (by simp)),jw (more:=more) ?_ hn.2]
  .simp
  .intro kv hkv kx hkx
   rcases UT.mp hkv with hkv|hkv
   .exact h kv hkv kx (by simp[hkx])
   .rw[UM.mp hkv]
    exact λz=>hn.1 (Vf.mpr ⟨kx,hkx,z.symm⟩)
theorem PR.keys{S:aq}:∀{M:List (Str×List Str)}{kvs:List (bp×PV)},PR S M kvs->kvs.map Prod.fst=M.map λm=>(Sum.inr m.1:bp)
 |[],_,h=>by rw[PR]at h;subst h;rfl
 |(k,zs)::M,_,⟨q,r,e,h1,h2⟩=>by rw[e,UE,UE,PR.keys h2]
theorem PR.upd{S:aq}{p:Addr}{o:SO}{d:List (bp×PV)}(hp:S p=some (.dct d)):∀{M:List (Str×List Str)}{kvs:List (bp×PV)},PR S M kvs->PR (JH S p o) M kvs
 |[],_,h=>h
 |(k,zs)::M,_,⟨q,r,e,h1,h2⟩=>⟨q,r,e,by rw[aj (λz=>by rw[z,hp]at h1;cases h1)];exact h1,PR.upd hp h2⟩
def yw(M:List (Str×List Str))(hn:(M.map λm=>(Sum.inr m.1:bp)).Nodup){σ:bZ}{S:aq}{Q:bP}{E:cq}(k:∀p S' kvs,S p=none->Ext S S'->S' p=some (.dct kvs)->PR S' M kvs->Q (.ref p) S'):fw (M.map λm=>(c3 (.str m.1),aS (m.2.map λz=>c3 (.str z)))) σ S Q E:=by
 unfold fw
 intro p hp
 refine sW M λps S' X' ⟨kvs,h1,h2⟩=>?_
 have hp':S' p=some (.dct []):=X' _ _ aa
 refine⟨hp',?_⟩
 rw[h1]
 dsimp only
 have em:dP [] kvs=kvs:=by rw[jw (by simp) (by rw[PR.keys h2];exact hn),VT]
 rw[em]
 refine k p _ kvs hp (λa u ha=>?_) aa (PR.upd hp' h2)
 rw[aj (λz=>by rw[z,hp]at ha;cases ha)]
 exact X' _ _ (by rw[aj (λz=>by rw[z,hp]at ha;cases ha)];exact ha)
noncomputable def Qu:List (Str×List Str):=[("pay",["cost"]),("put",["name","many"]),("then",["body","body"]),("either",["body","body"])]
noncomputable def Qv:List (Str×List Str):=[("take",["name","many","body","body"]),("often",["body"]),("use",["name"])]
def Jz(h:Str):gZ (Qu++Qv) h=(tab.lookup h).map λks=>ks.map Kd.ls:=by
 have:∀(T:List (Str×List Kd))(h:Str),gZ (T.map λq=>(q.1,q.2.map Kd.ls)) h=(T.lookup h).map λks=>ks.map Kd.ls:=by
  intro T h
  induction T with
  |nil=>rfl
  |cons q T ih=>
   obtain⟨k,v⟩:=q
   show(if k=h then some (v.map Kd.ls) else gZ (T.map λq=>(q.1,q.2.map Kd.ls)) h)=_
   rw[ih,Xl]
   by_cases e:k=h
   .subst e;rw[if_pos rfl,Xo];rfl
   .rw[if_neg e,show(h == k)=false from beq_false_of_ne (VI e)]
 exact this tab h
def EE:∀m∈Qu,∀m'∈Qv,m.1≠m'.1:=by decide +kernel
def qd{σ:bZ}{S:aq}{v:PV}{D:ix}{N:bZ->aq->Prop}{x2 x3:Option PV}(hσ:σ=[some v,none,x2,x3])
  (k:∀p S' kvs,Ext S S'->S' p=some (.dct kvs)->PR S' (Qu++Qv) kvs->N [some v,some (.ref p),x2,x3] S') :
  ap 1 (fw (Qu.map λm=>(c3 (.str m.1),aS (m.2.map λz=>c3 (.str z))))) { D with nx:=λσ' S'=>bh (bL "dict" iD (v3 1) [fw (Qv.map λm=>(c3 (.str m.1),aS (m.2.map λz=>c3 (.str z))))]) { D with nx:=N } σ' S' } σ S:=by
 subst hσ
 unfold ap
 refine yw Qu (by decide +kernel) λp S1 kvs hp X1 f1 r1=>?_
 simp only[List.set_cons_zero,List.set_cons_succ,bh,bL,v3,lk,gC,f1,al,VQ]
 refine yw Qv (by decide +kernel) λp2 S2 Py hp2 X2 f2 r2=>?_
 have QW:=X2 _ _ f1
 have np:p≠p2:=λz=>by rw[z,hp2]at f1;cases f1
 simp only[iD,QW,f2]
 have l1:=U4 List.length (PR.keys r1)
 have l2:=U4 List.length (PR.keys r2)
 rw[UJ,UJ]at l1 l2
 have em:dP kvs Py=kvs++Py:=by
  refine jw (λkv hkv kw hkw z=>?_) (by rw[PR.keys r2];decide +kernel)
  have m1:kv.1∈kvs.map Prod.fst:=Vf.mpr ⟨kv,hkv,rfl⟩
  have m2:kw.1∈Py.map Prod.fst:=Vf.mpr ⟨kw,hkw,rfl⟩
  rw[PR.keys r1]at m1
  rw[PR.keys r2]at m2
  obtain⟨a,ha,ea⟩:=Vf.mp m1
  obtain⟨b,hb,eb⟩:=Vf.mp m2
  rw[z,<-eb]at ea
  exact EE a ha b hb (by injection ea)
 refine⟨np,UN (show _<=100 by rw[l1,l2];decide) (by decide),?_⟩
 rw[em]
 refine k p _ _ (λa u ha=>?_) aa (PR.app (PR.upd QW (PR.mono X2 r1)) (PR.upd QW r2))
 rw[aj (λz=>by rw[z,hp]at ha;cases ha)]
 exact X2 _ _ (X1 _ _ ha)
def yx{l:List Nat}(h:ci l=true):PyData.strOk (ofL l)=true:=by
 have:=xK h
 refine ow (LB.mpr λc hc=>by have:=this c hc;omega) ?_
 unfold ci at h
 simp only[Vl,UY]at h
 omega
def sX{z:Str}(h:ci (sg z)=true):PyData.strOk z=true:=by have:=yx h;rwa [show ofL (sg z)=z from du z]at this
theorem kj{S:aq}:∀(vs:List PV),(∀v∈vs,∃d,Dat S v d/\d.canLay0=true)->∃ds,KZ S vs ds/\PyData.canLayAll0 ds=true
 |[],_=>⟨[],.nil,rfl⟩
 |v::vs,h=>by
  obtain⟨d,h1,h2⟩:=h v (by simp)
  obtain⟨ds,h3,h4⟩:=kj vs λx hx=>h x (by simp[hx])
  refine⟨d::ds,.cons h1 h3,?_⟩
  show(d.canLay0&&PyData.canLayAll0 ds)=true
  rw[h2,h4];rfl
def cp{S:aq}{vs:List PV}(h:∀v∈vs,∃d,Dat S v d/\d.canLay0=true):∃d,Dat S (.tup vs) d/\d.canLay0=true:=by
 obtain⟨ds,h1,h2⟩:=kj vs h
 exact⟨.tuple ds,.tup h1,h2⟩
def JX{S:aq}{z:Str}(h:PyData.strOk z=true):∃d,Dat S (.str z) d/\d.canLay0=true:=⟨.str z,.str z,h⟩
def LJ{S:aq}(i:Int):∃d,Dat S (.int i) d/\d.canLay0=true:=⟨.int i,.int i,rfl⟩
theorem eQ{S:aq}:∀t:Bd,VB t->∃d,Dat S t.pv d/\d.canLay0=true
 | .rest,_=>cp (by intro v hv;rw[UM.mp hv];exact JX (by decide +kernel))
 | .pay x y,_=>cp (by
   intro v hv
   simp only[UI,UW,Vy]at hv
   rcases hv with rfl|rfl
   .exact JX (by decide +kernel)
   .exact cp (by intro v hv;simp only[UI,UW,Vy]at hv;rcases hv with rfl|rfl<;>exact LJ _))
 | .put z m,g=>cp (by
   intro v hv
   simp only[UI,UW,Vy]at hv
   rcases hv with rfl|rfl|rfl
   .exact JX (by decide +kernel)
   .exact JX (sX g.1)
   .exact LJ _)
 | .use z,g=>cp (by
   intro v hv
   simp only[UI,UW,Vy]at hv
   rcases hv with rfl|rfl
   .exact JX (by decide +kernel)
   .exact JX (sX g))
 | .K_ a,g=>cp (by
   intro v hv
   simp only[UI,UW,Vy]at hv
   rcases hv with rfl|rfl
   .exact JX (by decide +kernel)
   .exact eQ a g)
 | .JN a b,g=>cp (by
   intro v hv
   simp only[UI,UW,Vy]at hv
   rcases hv with rfl|rfl|rfl
   .exact JX (by decide +kernel)
   .exact eQ a g.1
   .exact eQ b g.2)
 | .K5 a b,g=>cp (by
   intro v hv
   simp only[UI,UW,Vy]at hv
   rcases hv with rfl|rfl|rfl
   .exact JX (by decide +kernel)
   .exact eQ a g.1
   .exact eQ b g.2)
 | .K7 z m a b,g=>cp (by
   intro v hv
   simp only[UI,UW,Vy]at hv
   rcases hv with rfl|rfl|rfl|rfl|rfl
   .exact JX (by decide +kernel)
   .exact JX (sX g.1)
   .exact LJ _
   .exact eQ a g.2.2.2.1
   .exact eQ b g.2.2.2.2)
def EF{S:aq}{k:Kd}{p:Pt}(h:p.ok k):∃d,Dat S p.pv d/\d.canLay0=true:=by
 cases p with
 |b t=>cases k with
  |body=>exact eQ t h
  |_=>exact h.elim
 |c x y=>exact cp (by intro v hv;simp only[UI,UW,Vy]at hv;rcases hv with rfl|rfl<;>exact LJ _)
 |m k=>exact LJ _
 |n z=>cases k with
  |name=>exact JX (yx h)
  |_=>exact h.elim
def A4{S:aq}{k:Kd}{o:Option Pt}(h:∀p,o=some p->p.ok k):∃d,Dat S (sO o) d/\d.canLay0=true:=by
 cases o with
 |none=>exact⟨.none,.non,rfl⟩
 |some p=>exact EF (h p rfl)
noncomputable def EG:PV->Bool
 | .non=>true
 |_=>false
def A5{S:aq}{v:PV}{d:PyData}(h:Dat S v d):d.eqv .none=EG v:=by cases h<;>rfl
theorem yy{S:aq}:∀{vs:List PV}{ds:List PyData},KZ S vs ds->gL .none ds=vs.any EG
 |_,_,.nil=>rfl
 |_,_,.cons h hs=>by
  show(PyData.eqv _ .none || gL .none _)=_
  rw[A5 h,yy hs];rfl
def EH(p:Pt):EG p.pv=false:=by
 cases p with
 |b t=>cases t<;>rfl
 |_=>rfl
noncomputable def Lg(ks:List Kd)(ts:List Tr):List PV:=(ks.zip ts).map λq=>sO (oR q.1 (q.2,dB q.2))
theorem qe:∀(ks:List Kd)(ts:List Tr),ts.length=ks.length->match mF ks (bofs ts)with
  |none=>(Lg ks ts).any EG=true
  |some ps=>(Lg ks ts).any EG=false/\ps.map Pt.pv=Lg ks ts
 |[],ts,h=>by
  rw[mF]
  exact⟨rfl,rfl⟩
 |k::ks,[],h=>by simp at h
 |k::ks,t::ts,h=>by
  have ih:=qe ks ts (by simpa using h)
  rw[bofs,mF]
  have e:Lg (k::ks) (t::ts)=sO (oR k (t,dB t))::Lg ks ts:=rfl
  rw[e]
  cases e1:oR k (t,dB t)with
  |none=>simp[sO,EG]
  |some p=>
   cases e2:mF ks (bofs ts)with
   |none=>rw[e2]at ih;simp only[sO,List.any_cons,ih,Bool.or_true]
   |some ps=>
    rw[e2]at ih
    simp only[sO,List.any_cons,UE,EH,ih.1,Bool.or_false,VQ]
    rw[ih.2]
theorem jx{α:Type}{g:Tg}{te:aO}{σ':bZ}{keep:aq->Prop}{fin:List PV->aq->Prop}(enc f:α->PV){S0:aq}(hk:∀S,Ext S0 S->keep S):∀(xs:List α)(ys:List PV)(S:aq),Ext S0 S->ys.length+xs.length<=1000->
  (∀x∈xs,∀S,Ext S0 S->∃σ2,g.put (enc x) σ'=some σ2/\∀K:bP,(∀S',Ext S S'->K (f x) S')->te σ2 S K fu)->
  (∀S',Ext S0 S'->fin (ys++xs.map f) S')->dl g eF te σ' keep fin (xs.map enc) ys S
 |[],ys,S,X,hl,_,hf=>⟨hk S X,ln (m:=1000) (by simpa using hl),by simpa using hf S X⟩
 |x::r,ys,S,X,hl,h,hf=>by
  obtain⟨σ2,e,h1⟩:=h x (by simp) S X
  refine⟨hk S X,ln (m:=1000) (by simp at hl ⊢;omega),?_⟩
  rw[e]
  simp only[eF,VL]
  refine h1 _ λS' X'=>?_
  exact jx enc f hk r (ys++[f x]) S' (X.trans X') (by simp at hl ⊢;omega) (λy hy=>h y (by simp[hy])) λS2 X2=>by simpa using hf S2 X2
abbrev Zz:=Kd×Tr×PV
noncomputable def GK(z:Zz):PV:=.tup [z.2.2,.str (Kd.ls z.1)]
noncomputable def zf(z:Zz):PV:=sO (oR z.1 (z.2.1,dB z.2.1))
theorem zz{O:List Addr}{S:aq}:∀(ks:List Kd)(ts:List Tr)(vs:List PV),Ks O S ts vs->LZ ts->ts.length=ks.length->∃zs:List Zz,eE vs ((ks.map Kd.ls).map PV.str)=zs.map GK/\zs.map zf=Lg ks ts/\zs.length=ks.length/\∀z∈zs,RT O S z.2.1 z.2.2/\AW z.2.1/\dp z.2.1<=Om ts
 |[],ts,vs,h,_,hl=>by
  have:ts=[]:=Vi.mp hl
  subst this
  rw[Ks]at h
  subst h
  exact⟨[],rfl,rfl,rfl,by simp⟩
 |k::ks,[],vs,h,_,hl=>by simp at hl
 |k::ks,t::ts,vs,h,a,hl=>by
  rw[Ks]at h
  rw[LZ]at a
  obtain⟨v,w,rfl,h1,h2⟩:=h
  obtain⟨zs,e1,e2,e3,e4⟩:=zz ks ts w h2 a.2 (by simpa using hl)
  refine⟨(k,t,v)::zs,?_,?_,by simp[e3],?_⟩
  .rw[UE,UE,UE,<-e1];rfl
  .rw[UE,e2];rfl
  .intro z hz
   rw[Om]
   rcases UI.mp hz with rfl|hz
   .exact⟨h1,a.1,Yr _ _⟩
   .obtain⟨g1,g2,g3⟩:=e4 z hz
    exact⟨g1,g2,UN g3 (Yg _ _)⟩
def RT.ext{S S':aq}(X:Ext S S'){T:Tr}{v:PV}(h:RT [] S T v):RT [] S' T v:=RT.map (λa vs _ e=>⟨by simp,X _ _ e⟩) T v h
def Ks.ext{S S':aq}(X:Ext S S'){ts:List Tr}{vs:List PV}(h:Ks [] S ts vs):Ks [] S' ts vs:=Ks.map (λa vs _ e=>⟨by simp,X _ _ e⟩) ts vs h
def sY(v:PV)(vs:List PV):cu (v::vs) (some 1) none=vs:=by
 unfold cu
 simp[HT.JY]
def GL(v:PV)(vs:List PV):cu (v::vs) none (some 1)=[v]:=by
 unfold cu
 simp[HT.JY]
def IF{h:Str}{ks:List Kd}(e:tab.lookup h=some ks):ks.length<=4:=by
 have hm:=kg e
 simp only[tab,UI,YF,UW,Vy]at hm
 rcases hm with⟨rfl,rfl⟩|⟨rfl,rfl⟩|⟨rfl,rfl⟩|⟨rfl,rfl⟩|⟨rfl,rfl⟩|⟨rfl,rfl⟩|⟨rfl,rfl⟩<;>decide
def GM{l:List Nat}(h:l≠sg "rest"):dB (.w l)=none:=by rw[dB,if_neg h]
def yz:dB (.n [])=none:=by rw[dB,bofs];rfl
def yA(us ts:List Tr):dB (.n (.n us::ts))=none:=by rw[dB,bofs];rfl
theorem yB(l:List Nat)(ts:List Tr):dB (.n (.w l::ts))=match tab.lookup (ofL l)with
  |some ks=>if ts.length=ks.length then (mF ks (bofs ts)).map (iK (ofL l)) else none
  |none=>none:=by
 rw[dB,bofs,xM]
 cases tab.lookup (ofL l)with
 |none=>rfl
 |some ks=>dsimp only;rw[show(bofs ts).length=ts.length from by rw[fI,UJ]]
def rF{ks:List Kd}{ts:List Tr}:∀v∈Lg ks ts,∃k t,v=sO (oR k (t,dB t)):=by
 intro v hv
 obtain⟨q,-,rfl⟩:=Vf.mp hv
 exact⟨_,_,rfl⟩
def A6{S:aq}(k:Kd)(t:Tr):∃d,Dat S (sO (oR k (t,dB t))) d/\d.canLay0=true:=A4 λp hp=>xQ (q:=(t,dB t)) (λu hu=>lA t u hu) hp
def A7{s0 s1:aF}(n:Nat)(ih:rE n s0):sV (n+1) (bV 4 (cj s0 s1)):=by
 intro S T v Q E hT hA hd k
 unfold cj
 refine j2 ?_
 rw[show aB 4 [v]=[some v,none,none,none] from rfl]
 walk_at "5"
 cases T with
 |w l=>
  rw[RT]at hT
  subst hT
  have hA':qp l:=hA
  simp only[a_,aH,am,v3,lk,c3,bo,U6,UY]
  by_cases h:l=sg "rest"
  .subst h
   rw[if_pos (eI _)]
   have:=k S .refl
   rw[show dB (.w (sg "rest"))=some .rest from by rw[dB,if_pos rfl]]at this
   simp only[ax,bG,al,c3]
   exact this
  .rw[if_neg (show ¬ofL l = "rest" from λe=>h (U4 sg e))]
   simp only[aJ]
   refine hN _ _ (qd (N:=ae _ _ _) rfl λp S1 kvs X1 f1 r1=>?_)
   walk_at "5"
   simp only[a_,fc,aH,af,al,v3,lk,c3,eC,pC]
   refine⟨by decide,?_⟩
   rw[show dk "str" "str" = true by decide]
   walk_at "y"
   have:=k S1 X1
   rw[GM h]at this
   exact this
 |n ts=>
  rw[AW]at hA
  obtain⟨dd,hd1,hd2⟩:=yv (.n ts) v hT (by rw[AW];exact hA)
  rw[RT]at hT
  obtain⟨a,vs,rfl,-,h1,h2⟩:=hT
  rw[dp]at hd
  have hl:=Ks.len h2
  simp only[a_,aH,am,v3,lk,c3,bo]
  refine⟨dd,.str _,hd1,.str _,hd2,by decide +kernel,UN (Yc _ _) (by decide),?_⟩
  rw[show dd.eqv (.str "rest")=false from by cases hd1;rfl]
  walk_at "y"
  refine hN _ _ (qd (N:=ae _ _ _) rfl λp S1 kvs X1 f1 r1=>?_)
  have g1:=X1 _ _ h1
  have g2:=Ks.ext X1 h2
  walk_at "5"
  simp only[a_,fc,eZ,aH,af,al,v3,lk,c3,eC,pC,g1]
  refine⟨by decide,?_⟩
  rw[show dk "list" "str" = false by decide]
  simp only[aT,cJ,g1,am,al,af,v3,lk,c3,bo]
  cases ts with
  |nil=>
   rw[Ks]at g2
   subst g2
   walk_at "y"
   have:=k S1 X1
   rw[yz]at this
   have this:Q .non S1:=this
   simpa using this
  |cons t ts=>
   rw[Ks]at g2
   obtain⟨x,r,rfl,g3,g4⟩:=g2
   have hr:=Ks.len g4
   rw[show decide (((x::r).length:Int)=0)=false from UO (by simp;omega)]
   walk_at "y"
   simp only[g1,rc,eC]
   cases t with
   |n us=>
    rw[RT]at g3
    obtain⟨b,ws,rfl,-,g5,g6⟩:=g3
    simp only[pC,g5]
    refine⟨by decide,?_⟩
    rw[show dk "list" "str" = false by decide]
    walk_at "y"
    have:=k S1 X1
    rw[yA]at this
    exact this
   |w l=>
    rw[RT]at g3
    subst g3
    simp only[pC]
    refine⟨by decide,?_⟩
    rw[show dk "str" "str" = true by decide]
    walk_at "y"
    simp only[g1,rc,kL,f1]
    have r2:=r1.at_ (h:=ofL l)
    rw[Jz]at r2
    rw[yB]at k
    cases e:tab.lookup (ofL l)with
    |none=>
     rw[e]at r2 k
     rw[show(kvs.any λkv=>decide (kv.1=Sum.inr (ofL l)))=false from r2]
     walk_at "y"
     exact k S1 X1
    |some ks=>
     rw[e]at r2 k
     obtain⟨q,e1,e2,e3⟩:=r2
     have t4:=IF e
     rw[e3]
     walk_at "y"
     walk_at "0"
     simp only[ap,am,v3,lk,c3,az,g1,f1,rc,nq,e1,List.set_cons_zero,List.set_cons_succ]
     walk_at "0"
     simp only[a_,aH,am,af,al,v3,lk,c3,aT,cJ,g1,e2,aG,bo]
     dsimp only at k
     by_cases hk:ts.length=ks.length
     .rw[if_pos hk]at k
      rw[show decide (((PV.str (ofL l)::r).length:Int)=((List.map PV.str (List.map Kd.ls ks)).length:Int)+1)=true from U1 (by simp;omega)]
      walk_at "y"
      walk_at "0"
      simp only[ap,bU,wO,aA,cz,de,v3,lk,c3,cK,g1]
      intro p2 hp2
      have X2:=Ext.new (o:=.lst (cu (PV.str (ofL l)::r) (some 1) none)) hp2
      have e2':=X2 _ _ e2
      rw[aa,e2']
      dsimp only
      rw[sY]at X2 e2' ⊢
      rw[LZ]at hA
      obtain⟨zs,z1,z2,z3,z4⟩:=zz ks ts r g4 hA.2 hk
      rw[z1]
      refine jx (S0:=JH S1 p2 (.lst r)) GK zf (λS' X'=>⟨X' _ _ aa,X' _ _ e2'⟩) zs [] _ .refl (by simp;omega) (λz hz S3 X3=>⟨_,rfl,λK kk=>?_⟩) λS3 X3 p3 hp3=>?_
      .obtain⟨y1,y2,y3⟩:=z4 z hz
       simp only[ak,al,v3,lk]
       exact ih (RT.ext (X2.trans X3) y1) y2 (by rw[Om]at hd;omega) λS4 X4=>kk S4 X4
      .rw[VT,z2]
       have X5:Ext S1 (JH S3 p3 (.lst (Lg ks ts))):=(X2.trans X3).trans (Ext.new hp3)
       have f5:JH S3 p3 (.lst (Lg ks ts)) p3=some (.lst (Lg ks ts)):=aa
       have g5:=X5 _ _ g1
       generalize JH S3 p3 (.lst (Lg ks ts))=S5 at X5 f5 g5 ⊢
       walk_at "1"
       walk_at "0"
       obtain⟨ds,d1,d2⟩:=kj (S:=S5) (Lg ks ts) λv hv=>by obtain⟨k',t',rfl⟩:=rF v hv;exact A6 k' t'
       simp only[a_,aH,am,v3,lk,c3,kL,f5]
       refine⟨.none,ds,.non,d1,rfl,d2,by decide,?_⟩
       rw[yy d1]
       have ht:=qe ks ts hk
       cases e5:mF ks (bofs ts)with
       |none=>
        rw[e5]at ht k
        rw[show(Lg ks ts).any EG=true from ht]
        walk_at "y"
        exact k S5 (X1.trans X5)
       |some ps=>
        rw[e5]at ht k
        rw[ht.1]
        walk_at "y"
        refine hN _ _ ?_
        simp only[ax,af,al,am,aA,cz,de,v3,lk,c3,cK,g5]
        intro p6 QV
        rw[GL]
        have X6:=Ext.new (o:=.lst [PV.str (ofL l)]) QV
        have f6:=X6 _ _ f5
        simp only[aG,aa,f6]
        have hl5:(Lg ks ts).length<=4:=by rw[<-ht.2,UJ];unfold Lg at ht;have:=U4 List.length ht.2;simp at this;omega
        refine⟨ln (m:=1000) (by simp;omega),λp7 OW=>?_⟩
        simp only[bC,cJ,aa]
        have:=k _ ((X1.trans X5).trans (X6.trans (Ext.new (o:=.lst ([PV.str (ofL l)]++Lg ks ts)) OW)))
        have hv:=(lj e (n9 (by rw[fI,UJ];exact hk) (Mc ts) e5)).2.2
        have e8:B6 ((some ps).map (iK (ofL l))) = .tup ([PV.str (ofL l)]++Lg ks ts):=by show(iK (ofL l) ps).pv=_;rw[hv,ht.2];rfl
        rw[e8]at this
        exact this
     .rw[if_neg hk]at k
      rw[show decide (((PV.str (ofL l)::r).length:Int)=((List.map PV.str (List.map Kd.ls ks)).length:Int)+1)=false from UO (by simp;omega)]
      walk_at "y"
      exact k S1 X1
def EI(T:Tr):1<=dp T:=by cases T<;>rw[dp]<;>omega
theorem B7(MZ:sR bO)(Lf:mM bi):∀n,rE n (cP n)/\sV n (ck n)
 |0=>⟨λ_ _ h=>by omega,λ{_ T} _ _ _ _ _ h=>by have:=EI T;omega⟩
 |n+1=>let ⟨h0,h1⟩:=B7 MZ Lf n;⟨λ{_ _ _ _ _ E}=>yu (s0:=cP n) (E:=E) MZ Lf n h1,λ{_ _ _ _ E}=>A7 (s1:=ck n) (E:=E) n h0⟩
end G08
namespace T9
open PySem PySem.NumText T5 T7 C Wd L3
noncomputable def Rn(se cn:Nat->Bool)(m:Nat):Nat->List Nat->Prop
 |_,[]=>True
 |k,c::l=>if se c then Rn se cn m 0 l else if cn c then k+1<=m/\Rn se cn m (k+1) l else Rn se cn m k l
noncomputable def fi(se cn:Nat->Bool):Nat->List Nat->Nat
 |k,[]=>k
 |k,c::l=>if se c then fi se cn 0 l else if cn c then fi se cn (k+1) l else fi se cn k l
section
variable {se cn:Nat->Bool}{m:Nat}
theorem Lh:∀{k:Nat}{x y:List Nat},Rn se cn m k (x++y)↔Rn se cn m k x/\Rn se cn m (fi se cn k x) y
 |k,[],y=>by simp[Rn,fi]
 |k,c::x,y=>by
  rw[V5,Rn,Rn,fi]
  by_cases h:se c=true
  .rw[if_pos h,if_pos h,if_pos h];exact Lh
  .rw[if_neg h,if_neg h,if_neg h]
   by_cases h2:cn c=true
   .rw[if_pos h2,if_pos h2,if_pos h2,Lh,and_assoc]
   .rw[if_neg h2,if_neg h2,if_neg h2];exact Lh
theorem bn{m':Nat}:∀{k k':Nat}{x:List Nat},Rn se cn m k x->m<=m'->k'+m<=k+m'->Rn se cn m' k' x
 |k,k',[],_,_,_=>by rw[Rn];trivial
 |k,k',c::x,h,hm,hk=>by
  rw[Rn]at h ⊢
  by_cases hs:se c=true
  .rw[if_pos hs]at h ⊢;exact bn h hm (by omega)
  .rw[if_neg hs]at h ⊢
   by_cases hc:cn c=true
   .rw[if_pos hc]at h ⊢;exact⟨by omega,bn h.2 hm (by omega)⟩
   .rw[if_neg hc]at h ⊢;exact bn h hm hk
theorem sZ:∀{k:Nat}{x:List Nat},Rn se cn m k x->k<=m->fi se cn k x<=m
 |k,[],_,hk=>by rw[fi];exact hk
 |k,c::x,h,hk=>by
  rw[Rn]at h
  rw[fi]
  by_cases hs:se c=true
  .rw[if_pos hs]at h ⊢;exact sZ h (UZ _)
  .rw[if_neg hs]at h ⊢
   by_cases hc:cn c=true
   .rw[if_pos hc]at h ⊢;exact sZ h.2 h.1
   .rw[if_neg hc]at h ⊢;exact sZ h hk
def jy{a b:Nat}{x y:List Nat}(h1:Rn se cn a 0 x)(h2:Rn se cn b 0 y)(hm:a+b<=m):Rn se cn m 0 (x++y):=Lh.mpr ⟨bn h1 (by omega) (by omega),bn h2 (by omega) (by have:=sZ h1 (UZ _);omega)⟩
def dY{c:Nat}{x y:List Nat}(hc:se c=true):Rn se cn m 0 (x++c::y)↔Rn se cn m 0 x/\Rn se cn m 0 y:=by
 rw[Lh,show Rn se cn m (fi se cn 0 x) (c::y)=Rn se cn m 0 y from by rw[Rn,if_pos hc]]
def yC{x y:List Nat}(h:Rn se cn m 0 (x++y)):Rn se cn m 0 y:=bn (Lh.mp h).2 (UH _) (by omega)
def gy{x:List Nat}(n:Nat)(h:Rn se cn m 0 x):Rn se cn m 0 (x.take n):=by rw[<-VJ n x]at h;exact(Lh.mp h).1
def iS{x:List Nat}(n:Nat)(h:Rn se cn m 0 x):Rn se cn m 0 (x.drop n):=by rw[<-VJ n x]at h;exact yC h
def yD{c:Nat}(h:1<=m):Rn se cn m 0 [c]:=by
 rw[Rn];split
 .trivial
 .split
  .exact⟨h,trivial⟩
  .trivial
theorem dL{c:Nat}(hc:se c=true):∀W:List (List Nat),Rn se cn m 0 (gl [c] W)↔∀w∈W,Rn se cn m 0 w
 |[]=>by simp[gl,Rn]
 |[p]=>by rw[bv];simp
 |p::q::W=>by
  rw[aX [c] p (by simp),U8,VS,dY hc,dL hc (q::W)]
  simp
end
noncomputable def yE(c:Nat):Bool:=c == 32 || c == 40 || c == 41
noncomputable def c_(_:Nat):Bool:=true
noncomputable def gF(c:Nat):Bool:=c == 32
noncomputable def rG(c:Nat):Bool:=c == 40
structure TM(n m b B:Nat)(l:List Nat):Prop where
 len:l.length<=n
 vd:∀c∈l,c < 256
 ru:Rn yE c_ m 0 l
 br:Rn gF rG b 0 l
 ct:l.count 40<=B
def TM.mono{n m b B n' m' b' B':Nat}{l:List Nat}(h:TM n m b B l)(h1:n<=n')(h2:m<=m')(h3:b<=b')(h4:B<=B'):TM n' m' b' B' l:=
 ⟨UN h.len h1,h.vd,bn h.ru h2 (by omega),bn h.br h3 (by omega),UN h.ct h4⟩
def TM.sign{n m b B i j:Nat}{l s:List Nat}(h:TM n m b B l)(hs:s.length<=1)(hv:∀c∈s,c < 256)(hij:i<=j):TM (n+1) (2 * m+1) (2 * b+1) (B+1) (l.take i++s++l.drop j):=by
 have rs:∀{se cn:Nat->Bool},Rn se cn 1 0 s:=by
  intro se cn
  match s,hs with
  |[],_=>rw[Rn];trivial
  |[c],_=>exact yD (UH _)
 have e:(l.drop j).length<=(l.drop i).length:=by simp;omega
 have el:(l.take i).length+(l.drop i).length=l.length:=by rw[<-UK,VJ]
 have hl:=h.len
 refine⟨by simp only[UK];omega,?_,jy (jy (gy i h.ru) rs (UH _)) (iS j h.ru) (by omega),jy (jy (gy i h.br) rs (UH _)) (iS j h.br) (by omega),?_⟩
 .intro c hc
  rcases UT.mp hc with hc|hc
  .rcases UT.mp hc with hc|hc
   .exact h.vd c (VN hc)
   .exact hv c hc
  .exact h.vd c (VX hc)
 .have e1:l.count 40=(l.take i).count 40+(l.drop i).count 40:=by rw[<-Vb,VJ]
  have e2:(l.drop j).count 40<=(l.drop i).count 40:=by
   obtain⟨k,rfl⟩:=Nat.le.dest hij
   rw[<-XW]
   exact(XX _ _).count_le _
  have e3:s.count 40<=1:=UN List.count_le_length hs
  have:=h.ct
  rw[Vb,Vb]
  omega
theorem bw(c:Nat):∀W:List (List Nat),W≠[]->(gl [c] W).length+1=(W.map λw=>w.length+1).sum
 |[],h=>absurd rfl h
 |[p],_=>by rw[bv];simp
 |p::q::W,_=>by
  have:=bw c (q::W) (by simp)
  rw[aX [c] p (by simp),UE,VU,<-this]
  simp only[UK,List.length_singleton]
  omega
theorem gg:∀W:List (List Nat),(gl [32] W).count 40=(W.map λw=>w.count 40).sum
 |[]=>rfl
 |[p]=>by rw[bv];simp
 |p::q::W=>by
  have:=gg (q::W)
  rw[aX [32] p (by simp),UE,VU,<-this]
  simp only[Vb]
  rw[show[32].count 40=0 from by decide]
  omega
theorem hU{c x:Nat}:∀{W:List (List Nat)},x∈gl [c] W->x=c\/∃w∈W,x∈w
 |[],h=>by cases h
 |[p],h=>by rw[bv]at h;exact .inr ⟨p,by simp,h⟩
 |p::q::W,h=>by
  rw[aX [c] p (by simp),U8]at h
  rcases UT.mp h with h|h
  .exact .inr ⟨p,by simp,h⟩
  .rcases UI.mp h with h|h
   .exact .inl h
   .rcases hU h with h|⟨w,h1,h2⟩
    .exact .inl h
    .exact .inr ⟨w,UP _ h1,h2⟩
theorem rH{c x:Nat}{w:List Nat}:∀{W:List (List Nat)},w∈W->x∈w->x∈gl [c] W
 |[p],h1,h2=>by rw[bv];rw[UM.mp h1]at h2;exact h2
 |p::q::W,h1,h2=>by
  rw[aX [c] p (by simp),U8]
  rcases UI.mp h1 with rfl|h1
  .exact VA _ h2
  .exact Vh _ (UP _ (rH h1 h2))
theorem rJ{b:Nat}:∀{k:Nat}{w:List Nat},32 ∉ w->Rn gF rG b k w->k<=b->k+w.count 40<=b
 |k,[],_,_,h=>by simpa using h
 |k,c::w,h1,h2,h3=>by
  rw[Rn]at h2
  have hc:¬gF c=true:=λe=>by
   have:c=32:=by simpa [gF]using e
   exact h1 (by rw[this];simp)
  rw[if_neg hc]at h2
  by_cases h4:rG c=true
  .rw[if_pos h4]at h2
   have e:c=40:=by simpa [rG]using h4
   have:=rJ (λh=>h1 (UP _ h)) h2.2 h2.1
   rw[e,VM]
   omega
  .rw[if_neg h4]at h2
   have e:c≠40:=by simpa [rG]using h4
   rw[WH e]
   exact rJ (λh=>h1 (UP _ h)) h2 h3
theorem oB(c:Nat):∀(l:List Nat),∀w∈JK c l,c ∉ w
 |[],w,h=>by rw[JK]at h;rw[UM.mp h];simp
 |d::l,w,h=>by
  have ih:=oB c l
  rw[JK]at h
  split at h
  .rcases UI.mp h with rfl|h
   .simp
   .exact ih w h
  .rename_i hd
   split at h
   .rw[UM.mp h];simp[VI hd]
   .rename_i p q e
    rw[e]at ih
    rcases UI.mp h with rfl|h
    .have:=ih p (by simp)
     simp[VI hd,this]
    .exact ih w (by simp[h])
end T9
namespace G08
open PySem PySem.NumText C CX T5 T7 T9 Wd L3
def gu(c:Nat)(l:List Nat):rq (c::l)=(if c=40 then [40,32] else if c=41 then [32,41] else [c])++rq l:=by
 have:=nQ [c] l
 rw[VS]at this
 rw[this]
 congr 1
 by_cases h:c=40
 .subst h;rfl
 .by_cases h2:c=41
  .subst h2;rfl
  .rw[if_neg h,if_neg h2]
   simp[rq,rp,h,h2]
def oC(c:Nat)(l:List Nat):rr (c::l)=(if c=40 then [32,40,32] else if c=41 then [32,41,32] else [c])++rr l:=by
 have:=ly [c] l
 rw[VS]at this
 rw[this]
 congr 1
 by_cases h:c=40
 .subst h;rfl
 .by_cases h2:c=41
  .subst h2;rfl
  .rw[if_neg h,if_neg h2]
   simp[rr,rp,h,h2]
def s3{c:Nat}:yE c=true↔c=32\/c=40\/c=41:=by simp[yE,or_assoc]
def s1{c:Nat}:gF c=true↔c=32:=by simp[gF]
def a1(c:Nat):c_ c=true:=rfl
theorem qf{m:Nat}:∀{k:Nat}{l:List Nat},Rn yE c_ m k l->k<=m->Rn gF c_ (m+2) (k+1) (rq l)
 |k,[],_,_=>by show Rn gF c_ (m+2) (k+1) [];rw[Rn];trivial
 |k,c::l,h,hk=>by
  rw[gu]
  rw[Rn]at h
  by_cases h4:c=40
  .rw[if_pos (s3.mpr (by omega))]at h
   rw[if_pos h4]
   show Rn gF c_ (m+2) (k+1) (40::32::rq l)
   rw[Rn,if_neg (by decide),if_pos (a1 _),Rn,if_pos (by decide)]
   exact⟨by omega,bn (qf h (UZ _)) (UH _) (by omega)⟩
  .rw[if_neg h4]
   by_cases h5:c=41
   .rw[if_pos (s3.mpr (by omega))]at h
    rw[if_pos h5]
    show Rn gF c_ (m+2) (k+1) (32::41::rq l)
    rw[Rn,if_pos (by decide),Rn,if_neg (by decide),if_pos (a1 _)]
    exact⟨by omega,qf h (UZ _)⟩
   .rw[if_neg h5]
    show Rn gF c_ (m+2) (k+1) (c::rq l)
    by_cases h6:c=32
    .rw[if_pos (s3.mpr (by omega))]at h
     rw[Rn,if_pos (s1.mpr h6)]
     exact bn (qf h (UZ _)) (UH _) (by omega)
    .rw[if_neg (λe=>by rcases s3.mp e with e|e|e<;>omega),if_pos (a1 _)]at h
     rw[Rn,if_neg (λe=>h6 (s1.mp e)),if_pos (a1 _)]
     exact⟨by omega,qf h.2 h.1⟩
theorem qg{m:Nat}(h1:1<=m):∀{k:Nat}{l:List Nat},Rn yE c_ m k l->Rn gF c_ m k (rr l)
 |k,[],_=>by show Rn gF c_ m k [];rw[Rn];trivial
 |k,c::l,h=>by
  rw[oC]
  rw[Rn]at h
  by_cases h4:c=40
  .rw[if_pos (s3.mpr (by omega))]at h
   rw[if_pos h4]
   show Rn gF c_ m k (32::40::32::rr l)
   rw[Rn,if_pos (by decide),Rn,if_neg (by decide),if_pos (a1 _),Rn,if_pos (by decide)]
   exact⟨by omega,qg h1 h⟩
  .rw[if_neg h4]
   by_cases h5:c=41
   .rw[if_pos (s3.mpr (by omega))]at h
    rw[if_pos h5]
    show Rn gF c_ m k (32::41::32::rr l)
    rw[Rn,if_pos (by decide),Rn,if_neg (by decide),if_pos (a1 _),Rn,if_pos (by decide)]
    exact⟨by omega,qg h1 h⟩
   .rw[if_neg h5]
    show Rn gF c_ m k (c::rr l)
    by_cases h6:c=32
    .rw[if_pos (s3.mpr (by omega))]at h
     rw[Rn,if_pos (s1.mpr h6)]
     exact qg h1 h
    .rw[if_neg (λe=>by rcases s3.mp e with e|e|e<;>omega),if_pos (a1 _)]at h
     rw[Rn,if_neg (λe=>h6 (s1.mp e)),if_pos (a1 _)]
     exact⟨h.1,qg h1 h.2⟩
theorem yF{m:Nat}:∀{k:Nat}{w:List Nat},32 ∉ w->Rn gF c_ m k w->k<=m->k+w.length<=m
 |k,[],_,_,h=>by simpa using h
 |k,c::w,h1,h2,h3=>by
  rw[Rn,if_neg (λe=>h1 (by rw[s1.mp e];simp)),if_pos (a1 _)]at h2
  have:=yF (λh=>h1 (UP _ h)) h2.2 h2.1
  rw[UQ]
  omega
def EJ{m:Nat}{l:List Nat}(h:Rn gF c_ m 0 l):∀w∈JK 32 l,w.length<=m:=λw hw=>by
 rw[<-dR 32 l]at h
 have:=yF (oB 32 l w hw) ((dL (by decide) _).mp h w hw) (UZ _)
 omega
theorem oE{m:Nat}:∀{run l:List Nat},run.length<=m->Rn gF c_ m run.length l->∀w∈La run l,w.length<=m
 |run,[],hr,_,w,hw=>by
  rw[La]at hw
  split at hw
  .cases hw
  .rw[UM.mp hw];exact hr
 |run,c::l,hr,h,w,hw=>by
  have h0:Unicode.isSpace c=true->Rn gF c_ m 0 l:=λ_=>by
   rw[Rn]at h
   split at h
   .exact h
   .rw[if_pos (a1 _)]at h;exact bn h.2 (UH _) (by omega)
  rw[La]at hw
  split at hw
  .rename_i hs
   split at hw
   .exact oE (run:=[]) (UZ _) (h0 hs) w hw
   .rcases UI.mp hw with rfl|hw
    .exact hr
    .exact oE (run:=[]) (UZ _) (h0 hs) w hw
  .rename_i hs
   have hc:c≠32:=λe=>hs (by rw[e];rfl)
   rw[Rn,if_neg (λe=>hc (s1.mp e)),if_pos (a1 _)]at h
   exact oE (run:=run++[c]) (by simp;exact h.1) (by simpa using h.2) w hw
theorem kl{x:Nat}:∀{run l:List Nat}{w:List Nat},w∈La run l->x∈w->x∈run\/x∈l
 |run,[],w,hw,hx=>by
  rw[La]at hw
  split at hw
  .cases hw
  .rw[UM.mp hw]at hx;exact .inl hx
 |run,c::l,w,hw,hx=>by
  rw[La]at hw
  split at hw
  .split at hw
   .rcases kl hw hx with h|h
    .cases h
    .exact .inr (UP _ h)
   .rcases UI.mp hw with rfl|hw
    .exact .inl hx
    .rcases kl hw hx with h|h
     .cases h
     .exact .inr (UP _ h)
  .rcases kl hw hx with h|h
   .rcases UT.mp h with h|h
    .exact .inl h
    .exact .inr (by rw[UM.mp h];simp)
   .exact .inr (UP _ h)
def EK(W:List (List Nat)):W.count [40]<=(W.map λw=>w.count 40).sum:=by
 induction W with
 |nil=>simp
 |cons w W ih=>
  rw[UE,VU]
  by_cases h:w=[40]
  .subst h
   rw[VM,show[40].count 40=1 from by decide]
   omega
  .rw[WH h];omega
def A8(l:List Nat):(JK 32 l).count [40]<=l.count 40:=by
 have:=EK (JK 32 l)
 rw[<-gg,dR]at this
 exact this
theorem oF:∀(run l:List Nat),(La run l).count [40]<=(run++l).count 40
 |run,[]=>by
  rw[La,Vp]
  split
  .simp
  .have:=EK [run];simpa using this
 |run,c::l=>by
  rw[La]
  have h1:=oF [] l
  have h2:=oF (run++[c]) l
  have h3:=EK [run]
  rw[UE,Ve,VU,List.sum_nil,Nat.add_zero]at h3
  rw[VT]at h1
  rw[U8,VS]at h2
  have h4:l.count 40<=(c::l).count 40:=(VG _ _).count_le _
  rw[Vb]at h2 ⊢
  split
  .split
   .omega
   .have:(run::La [] l).count [40]=[run].count [40]+(La [] l).count [40]:=by rw[<-Vb];rfl
    rw[this]
    omega
  .exact h2
theorem yG:∀l:List Nat,(rq l).count 40=l.count 40
 |[]=>rfl
 |c::l=>by
  rw[gu,Vb,yG l,show(c::l).count 40=[c].count 40+l.count 40 from by rw[<-Vb];rfl]
  congr 1
  by_cases h:c=40
  .subst h;rfl
  .rw[if_neg h]
   by_cases h2:c=41
   .subst h2;rfl
   .rw[if_neg h2]
theorem yH:∀l:List Nat,(rr l).count 40=l.count 40
 |[]=>rfl
 |c::l=>by
  rw[oC,Vb,yH l,show(c::l).count 40=[c].count 40+l.count 40 from by rw[<-Vb];rfl]
  congr 1
  by_cases h:c=40
  .subst h;rfl
  .rw[if_neg h]
   by_cases h2:c=41
   .subst h2;rfl
   .rw[if_neg h2]
theorem B8:∀{l:List Nat},(∀c∈l,c < 256)->∀c∈rq l,c < 256
 |[],_,c,hc=>by cases hc
 |d::l,h,c,hc=>by
  rw[gu]at hc
  rcases UT.mp hc with hc|hc
  .split at hc
   .simp at hc;omega
   .split at hc
    .simp at hc;omega
    .rw[UM.mp hc];exact h d (by simp)
  .exact B8 (λx hx=>h x (by simp[hx])) c hc
theorem B9:∀{l:List Nat},(∀c∈l,c < 256)->∀c∈rr l,c < 256
 |[],_,c,hc=>by cases hc
 |d::l,h,c,hc=>by
  rw[oC]at hc
  rcases UT.mp hc with hc|hc
  .split at hc
   .simp at hc;omega
   .split at hc
    .simp at hc;omega
    .rw[UM.mp hc];exact h d (by simp)
  .exact B9 (λx hx=>h x (by simp[hx])) c hc
theorem B_:∀(l:List Nat),∀p∈sp l,p.length<=l.length
 |[],p,h=>by rw[sp]at h;rw[UM.mp h];simp
 |c::l,p,h=>by
  have ih:=B_ l
  rw[sp]at h
  split at h
  .rcases UI.mp h with rfl|h
   .simp
   .have:=ih p h;simp;omega
  .split at h
   .rw[UM.mp h];simp
   .rename_i q r e
    rw[e]at ih
    rcases UI.mp h with rfl|h
    .have:=ih q (by simp);simp;omega
    .have:=ih p (by simp[h]);simp;omega
def I9{w:List Nat}(h:w.length<=60)(hv:∀c∈w,c < 256):qp w:=⟨⟨by omega,λp hp=>UN (B_ w p hp) h⟩,LB.mpr hv⟩
abbrev TF(l:List Nat):Prop:=TM 10000 55 15 35 l
def TF.ok{l:List Nat}(h:TF l):Eu l:=by
 refine⟨h.len,LB.mpr h.vd,λw hw=>?_,?_⟩
 .refine I9 (UN (EJ (bn (qf h.ru (UZ _)) (UH _) (by omega)) w hw) (by decide)) λc hc=>?_
  have:c∈rq l:=by rw[<-dR 32 (rq l)];exact rH hw hc
  exact B8 h.vd c this
 .have:=A8 (rq l)
  rw[yG]at this
  have h2:=h.ct
  show(JK 32 (rq l)).count [40] < 36
  omega
theorem TF.toks{l:List Nat}(h:TF l):(∀w∈toks l,qp w)/\(T9.toks l).count [40]<=35:=by
 refine⟨λw hw=>?_,?_⟩
 .refine I9 (UN (oE (run:=[]) (UZ _) (qg (by decide) h.ru) w hw) (by decide)) λc hc=>?_
  rcases kl hw hc with h'|h'
  .cases h'
  .exact B9 h.vd c h'
 .have:=oF [] (rr l)
  rw[VT,yH]at this
  exact UN this h.ct
mutual
noncomputable def nb:Tr->Nat
 | .w _=>0
 | .n ts=>nbs ts+1
noncomputable def nbs:List Tr->Nat
 |[]=>0
 |t::ts=>nb t+nbs ts
end
theorem oG:∀(a b:List Tr),nbs (a++b)=nbs a+nbs b
 |[],b=>by rw[VT,nbs,Xn]
 |t::a,b=>by rw[V5,nbs,nbs,oG a b];omega
theorem oH:∀{a b:List Tr},LZ a->LZ b->LZ (a++b)
 |[],b,_,h=>h
 |t::a,b,h,h'=>by rw[LZ]at h;rw[V5,LZ];exact⟨h.1,oH h.2 h'⟩
noncomputable def mu(st:List (List Tr)):Nat:=(st.map nbs).sum+st.length
def dM(ts:List Tr)(st:List (List Tr)):mu (ts::st)=nbs ts+1+mu st:=by simp[mu];omega
def EL{w:List Nat}{st st':List (List Tr)}(h:rB w st=some st')(hw:qp w):mu st'=mu st+(if w=[40] then 1 else 0)/\((∀ts∈st,LZ ts)->∀ts∈st',LZ ts):=by
 unfold rB at h
 split at h
 .cases h
  rw[if_pos ‹_›,dM,nbs]
  exact⟨by omega,λg ts hts=>by
   rcases UI.mp hts with rfl|hts
   .rw[LZ];trivial
   .exact g ts hts⟩
 .rw[if_neg ‹_›]
  split at h
  .split at h
   .cases h
    rw[dM,dM,dM,oG,nbs,nbs,nb]
    exact⟨by omega,λg ts hts=>by
     rcases UI.mp hts with rfl|hts
     .exact oH (g _ (by simp)) (by rw[LZ,LZ,AW];exact⟨g _ (by simp),trivial⟩)
     .exact g ts (by simp[hts])⟩
   .cases h
  .split at h
   .cases h
    rw[dM,dM,oG,nbs,nbs,nb]
    exact⟨by omega,λg ts hts=>by
     rcases UI.mp hts with rfl|hts
     .exact oH (g _ (by simp)) (by rw[LZ,LZ,AW];exact⟨hw,trivial⟩)
     .exact g ts (by simp[hts])⟩
   .cases h
theorem s_:∀{W:Ws} {st st':List (List Tr)},gE W st=some st'->(∀w∈W,qp w)->mu st'=mu st+W.count [40]/\((∀ts∈st,LZ ts)->∀ts∈st',LZ ts)
 |[],st,st',h,_=>by rw[gE]at h;cases h;exact⟨by simp,λg=>g⟩
 |w::W,st,st',h,hW=>by
  rw[gE]at h
  split at h
  .rename_i st1 e
   obtain⟨a1,a2⟩:=EL e (hW w (by simp))
   obtain⟨b1,b2⟩:=s_ h λx hx=>hW x (by simp[hx])
   refine⟨?_,λg=>b2 (a2 g)⟩
   rw[b1,a1]
   by_cases hw:w=[40]
   .subst hw;rw[if_pos rfl,VM];omega
   .rw[if_neg hw,WH hw];omega
  .cases h
theorem TF.tree{l:List Nat}{T:Tr}(h:TF l)(e:tree l=some T):AW T/\nb T<=35:=by
 obtain⟨h1,h2⟩:=h.toks
 unfold T9.tree Em at e
 split at e
 .rename_i e1
  cases e
  obtain⟨b1,b2⟩:=s_ e1 h1
  have:=b2 (by intro ts hts;rw[UM.mp hts,LZ];trivial) [T] (by simp)
  rw[LZ]at this
  refine⟨this.1,?_⟩
  rw[dM,dM,nbs,nbs,nbs]at b1
  omega
 .cases e
mutual
theorem yI:∀T:Tr,dp T<=nb T+1
 | .w _=>by rw[dp,nb];omega
 | .n ts=>by rw[dp,nb];have:=On ts;omega
theorem On:∀ts:List Tr,Om ts<=nbs ts+1
 |[]=>by rw[Om,nbs];omega
 |t::ts=>by rw[Om,nbs];have:=yI t;have:=On ts;omega
end
end G08
namespace G08
open PySem L2 L3 Wd
open C CX T5 T7 T9 PySem.NumText
noncomputable def CB:Bd->Prop
 | .pay x y=>x.natAbs < 10 ^ 60/\y.natAbs < 10 ^ 60
 | .K_ a=>CB a
 | .JN a b=>CB a/\CB b
 | .K5 a b=>CB a/\CB b
 | .K7 _ _ a b=>CB a/\CB b
 |_=>True
def Hg{z:Str}(h:ci (sg z)=true):(sg z).length<=6:=by
 unfold ci at h
 simp only[Vl,UY]at h
 omega
theorem jV{ws:Vs}:∀{t:Bd},VB t->CB t->t.gb ws
 | .rest,_,_=>trivial
 | .pay x y,_,h=>h
 | .put z m,g,_=>⟨Hg g.1,g.2⟩
 | .use z,g,_=>Hg g
 | .K_ a,g,h=>jV (t:=a) g h
 | .JN a b,g,h=>⟨jV g.1 h.1,jV g.2 h.2⟩
 | .K5 a b,g,h=>⟨jV g.1 h.1,jV g.2 h.2⟩
 | .K7 z m a b,g,h=>⟨Hg g.1,g.2.1,g.2.2.1,jV g.2.2.2.1 h.1,jV g.2.2.2.2 h.2⟩
noncomputable def zn:Pt->Nat
 | .b t=>t.size
 |_=>0
noncomputable def Ca:Pt->Nat
 | .b _=>1
 |_=>0
noncomputable def A9:Pt->Nat
 | .b t=>t.dep
 |_=>0
noncomputable def Fa:Pt->Prop
 | .b t=>CB t
 | .c x y=>x < 10 ^ 60/\y < 10 ^ 60
 |_=>True
noncomputable def EM(ps:List Pt):Nat:=(ps.map zn).sum
noncomputable def A_(ps:List Pt):Nat:=(ps.map Ca).sum
noncomputable def Cb:List Pt->Nat
 |[]=>0
 |p::ps=>max (A9 p) (Cb ps)
structure IG(t:Bd)(ps:List Pt):Prop where
 sz:t.size=EM ps+1
 no:A_ ps<=2
 dp:t.dep<=Cb ps+1
 cb:(∀p∈ps,Fa p)->CB t
def GN{h:Str}{ks:List Kd}{ps:List Pt}(e:tab.lookup h=some ks)(g:u9 ks ps):IG (iK h ps) ps:=by
 have hm:=kg e
 simp only[tab,UI,YF,UW,Vy]at hm
 rcases hm with⟨rfl,rfl⟩|⟨rfl,rfl⟩|⟨rfl,rfl⟩|⟨rfl,rfl⟩|⟨rfl,rfl⟩|⟨rfl,rfl⟩|⟨rfl,rfl⟩
 .cases g with
  |@cons _ p _ _ h1 g=>cases g;cases p with
   |c x y=>exact⟨rfl,UZ _,UH _,λk=>by have:=k _ (UM.mpr rfl);exact⟨this.1,this.2⟩⟩
   |_=>exact h1.elim
 .cases g with
  |@cons _ p _ _ h1 g=>cases g with
   |@cons _ q _ _ h2 g=>cases g;cases p with
    |n z=>cases q with
     |m k=>exact⟨rfl,UZ _,UH _,λ_=>trivial⟩
     |_=>exact h2.elim
    |_=>exact h1.elim
 .cases g with
  |@cons _ p _ _ h1 g=>cases g with
   |@cons _ q _ _ h2 g=>cases g;cases p with
    |b a=>cases q with
     |b c=>exact⟨by simp[iK,Bd.size,EM,zn],by simp[A_,Ca],by simp[iK,Bd.dep,Cb,A9],λk=>⟨k (.b a) (by simp),k (.b c) (by simp)⟩⟩
     |_=>exact h2.elim
    |_=>exact h1.elim
 .cases g with
  |@cons _ p _ _ h1 g=>cases g with
   |@cons _ q _ _ h2 g=>cases g;cases p with
    |b a=>cases q with
     |b c=>
      have:iK "either" [.b a,.b c] = .K5 a c:=by rw[iK,if_neg (by simp[bD])]
      rw[this]
      exact⟨by simp[Bd.size,EM,zn],by simp[A_,Ca],by simp[Bd.dep,Cb,A9],λk=>⟨k (.b a) (by simp),k (.b c) (by simp)⟩⟩
     |_=>exact h2.elim
    |_=>exact h1.elim
 .cases g with
  |@cons _ p _ _ h1 g=>cases g with
   |@cons _ q _ _ h2 g=>cases g with
    |@cons _ r _ _ h3 g=>cases g with
     |@cons _ s _ _ h4 g=>cases g;cases p with
      |n z=>cases q with
       |m k=>cases r with
        |b a=>cases s with
         |b c=>exact⟨by simp[iK,Bd.size,EM,zn],by simp[A_,Ca],by simp[iK,Bd.dep,Cb,A9],λk=>⟨k (.b a) (by simp),k (.b c) (by simp)⟩⟩
         |_=>exact h4.elim
        |_=>exact h3.elim
       |_=>exact h2.elim
      |_=>exact h1.elim
 .cases g with
  |@cons _ p _ _ h1 g=>cases g;cases p with
   |b a=>exact⟨by simp[iK,Bd.size,EM,zn],by simp[A_,Ca],by simp[iK,Bd.dep,Cb,A9],λk=>k (.b a) (by simp)⟩
   |_=>exact h1.elim
 .cases g with
  |@cons _ p _ _ h1 g=>cases g;cases p with
   |n z=>exact⟨rfl,UZ _,UH _,λ_=>trivial⟩
   |_=>exact h1.elim
def Ba{l:List Nat}{p:Pt}(hl:qp l)(h:gP l=some p):Fa p/\zn p=0/\A9 p=0:=by
 unfold gP at h
 split at h
 .rename_i ok
  split at h
  .rename_i a e
   cases h
   exact⟨⟨oz (ok a (by rw[e];simp)) (hl.1.2 a (by rw[e];simp)),by decide⟩,rfl,rfl⟩
  .rename_i a u e
   split at h
   .cases h
   .cases h
    exact⟨⟨XE (Nat.div_le_self _ _) (oz (ok a (by rw[e];simp)) (hl.1.2 a (by rw[e];simp))),XE (Nat.div_le_self _ _) (oz (ok u (by rw[e];simp)) (hl.1.2 u (by rw[e];simp)))⟩,rfl,rfl⟩
  .cases h
 .cases h
structure GO(T:Tr)(t:Bd):Prop where
 sz:t.size<=2 * nb T+1
 dp:t.dep<=G08.dp T
 cb:CB t
def rK{l:List Nat}{p:Pt}(h:lO .things l=some p):∃k,p = .m k:=by
 have:=(nT (k:=.things) (l:=l) h).1
 cases p with
 |m k=>exact⟨k,rfl⟩
 |_=>exact this.elim
def GP{k:Kd}{T:Tr}{p:Pt}(hA:AW T)(hb:∀t,dB T=some t->GO T t)(h:oR k (T,dB T)=some p):Fa p/\zn p<=2 * nb T+Ca p/\A9 p<=dp T:=by
 have zero:∀{q:Pt},Fa q->zn q=0->A9 q=0->Fa q/\zn q<=2 * nb T+Ca q/\A9 q<=dp T:=λa b c=>⟨a,by rw[b];exact UZ _,by rw[c];exact UZ _⟩
 cases k with
 |body=>
  change (dB T).map Pt.b=some p at h
  cases e:dB T with
  |none=>rw[e]at h;cases h
  |some t=>rw[e]at h;cases h;obtain⟨a,b,c⟩:=hb t e;exact⟨c,a,b⟩
 |cost=>cases T with
  |w l=>obtain⟨a,b,c⟩:=Ba (l:=l) hA h;exact zero a b c
  |n ts=>cases h
 |things=>cases T with
  |w l=>
   obtain⟨k,rfl⟩:=rK (l:=l) h
   exact zero trivial rfl rfl
  |n ts=>cases h
 |name=>cases T with
  |w l=>
   change (if ci l=true then some (Pt.n l) else none)=some p at h
   split at h
   .cases h;exact zero trivial rfl rfl
   .cases h
  |n ts=>cases h
mutual
theorem yJ:∀(T:Tr)(t:Bd),AW T->dB T=some t->GO T t
 | .w l,t,_,h=>by
  rw[dB]at h
  split at h
  .cases h;exact⟨by rw[nb];exact UH _,by rw[G08.dp];exact UH _,trivial⟩
  .cases h
 | .n [],t,_,h=>by rw[yz]at h;cases h
 | .n (.n us::ts),t,_,h=>by rw[yA]at h;cases h
 | .n (.w l::ts),t,a,h=>by
  rw[yB]at h
  rw[AW,LZ]at a
  split at h
  .rename_i ks e
   split at h
   .rename_i hl
    cases e2:mF ks (bofs ts)with
    |none=>rw[e2]at h;cases h
    |some ps=>
     rw[e2]at h
     cases h
     obtain⟨m1,m2,m3⟩:=Oo ts ks ps a.2 e2
     obtain⟨q1,q2,q3,q4⟩:=GN e (n9 (by rw[fI,UJ];exact hl) (Mc ts) e2)
     refine⟨?_,?_,q4 m1⟩
     .rw[nb,nbs,nb,q1];omega
     .rw[G08.dp,Om,G08.dp];omega
   .cases h
  .cases h
theorem Oo:∀(ts:List Tr)(ks:List Kd)(ps:List Pt),LZ ts->mF ks (bofs ts)=some ps->(∀p∈ps,Fa p)/\EM ps<=2 * nbs ts+A_ ps/\Cb ps<=Om ts
 |[],ks,ps,_,h=>by
  cases ks with
  |nil=>rw[mF]at h;cases h;exact⟨by simp,UZ _,UZ _⟩
  |cons k ks=>have h':some ([]:List Pt)=some ps:=h;cases h';exact⟨by simp,UZ _,UZ _⟩
 |t::ts,[],ps,_,h=>by rw[mF]at h;cases h;exact⟨by simp,UZ _,UZ _⟩
 |t::ts,k::ks,ps,a,h=>by
  rw[LZ]at a
  rw[bofs,mF]at h
  split at h
  .rename_i p ps' e1 e2
   cases h
   obtain⟨a1,a2,a3⟩:=GP a.1 (λu hu=>yJ t u a.1 hu) e1
   obtain⟨b1,b2,b3⟩:=Oo ts ks ps' a.2 e2
   refine⟨λq hq=>?_,?_,?_⟩
   .rcases UI.mp hq with rfl|hq
    .exact a1
    .exact b1 q hq
   .show zn p+EM ps'<=_
    rw[nbs,show A_ (p::ps')=Ca p+A_ ps' from by simp[A_]]
    omega
   .rw[Cb,Om];omega
  .cases h
end
abbrev yK(w:aF):Prop:=∀{S:aq}{l:List Nat}{Q:bP}{E:cq},TF l->(∀S',Ext S S'->Q (B6 (E_ l)) S')->w [.str (ofL l)] S Q E
def EN{x0 x1 x2:aF}(Pq:B3 x0)(Nj:sV 72 x1)(RW:lI 36 x2):yK (bV 3 (cQ x0 x1 x2)):=by
 intro S l Q E hl k
 unfold cQ
 refine j2 ?_
 rw[show aB 3 [PV.str (ofL l)]=[some (.str (ofL l)),none,none] from rfl]
 walk_at "5"
 simp only[ap,ak,al,v3,lk]
 refine Pq hl.len λv S1 X1 hv=>?_
 walk_at "1"
 walk_at "0"
 simp only[ap,c3,List.set_cons_zero,List.set_cons_succ]
 walk_at "0"
 unfold E_ at k
 cases e:tree l with
 |none=>
  rw[e]at hv k
  rw[show v = .non from hv]
  walk_at "y"
  walk_at "0"
  walk_at "y"
  exact k S1 X1
 |some T=>
  rw[e]at hv k
  obtain⟨h1,h2⟩:=hl.tree e
  have h3:=yI T
  have hv':RT [] S1 T v:=hv
  have nv:pA true v .non S1=λQ=>Q (.bl true) S1:=by
   cases T with
   |w l=>rw[RT]at hv';rw[hv'];rfl
   |n ts=>rw[RT]at hv';obtain⟨a,vs,rfl,-⟩:=hv';rfl
  simp only[a_,aH,am,v3,lk,c3]
  rw[nv]
  dsimp only
  simp only[VL,ap,ak,al,v3,lk]
  refine Nj hv' h1 (by omega) λS2 X2=>?_
  walk_at "1"
  walk_at "0"
  rw[show(some T).bind dB=dB T from rfl]at k
  cases e2:dB T with
  |none=>
   rw[e2]at k
   rw[show B6 none = .non from rfl]
   walk_at "y"
   exact k S2 (X1.trans X2)
  |some t=>
   rw[e2]at k
   obtain⟨m1,m2,m3⟩:=yJ T t h1 e2
   rw[show B6 (some t)=t.pv from rfl]
   have Ui:pA false t.pv .non S2=λQ=>Q (.bl false) S2:=by rw[Bd.Mt];rfl
   simp only[a_,fc,aH,am,v3,lk,c3]
   rw[Ui]
   dsimp only
   simp only[UR,Vx,ak,al,v3,lk]
   refine RW (ws:=[]) trivial (by omega) (jV (lA T t e2) m3) (by omega) λS3 X3=>?_
   simp only[bo,WB]
   dsimp only at k
   by_cases ht:tx t=l
   .rw[if_pos ht]at k
    rw[ht]
    walk_at "y"
    refine hN _ _ ?_
    walk_at "y"
    exact k S3 (X1.trans (X2.trans X3))
   .rw[if_neg ht]at k
    rw[UO (show ¬ofL (tx t)=ofL l from λe=>ht (U4 sg e))]
    walk_at "y"
    exact k S3 (X1.trans (X2.trans X3))
noncomputable def rb(se cn:Nat->Bool)(m:Nat):Nat->List Nat->Bool
 |_,[]=>true
 |k,c::l=>if se c then rb se cn m 0 l else if cn c then decide (k+1<=m)&&rb se cn m (k+1) l else rb se cn m k l
theorem gS{se cn:Nat->Bool}{m:Nat}:∀{k:Nat}{l:List Nat},rb se cn m k l=true->Rn se cn m k l
 |_,[],_=>by rw[Rn];trivial
 |k,c::l,h=>by
  rw[rb]at h
  rw[Rn]
  by_cases h1:se c=true
  .rw[if_pos h1]at h ⊢;exact gS h
  .rw[if_neg h1]at h ⊢
   by_cases h2:cn c=true
   .rw[if_pos h2]at h ⊢
    simp only[Vl,UY]at h
    exact⟨h.1,gS h.2⟩
   .rw[if_neg h2]at h ⊢;exact gS h
noncomputable def GQ(n m b B:Nat)(l:List Nat):Bool:=decide (l.length<=n)&&l.all (λc=>decide (c < 256))&&rb yE c_ m 0 l&&rb gF rG b 0 l&&decide (l.count 40<=B)
def td{n m b B:Nat}{l:List Nat}(h:GQ n m b B l=true):TM n m b B l:=by
 unfold GQ at h
 simp only[Vl,UY,VD]at h
 exact⟨h.1.1.1.1,h.1.1.1.2,gS h.1.1.2,gS h.1.2,h.2⟩
noncomputable def lits:List Str:=["rest","(rest)","0","10","01","2/4","5/1","-1","1/0","deed","jars",":","abcdefg","(use a)"]
def tj:∀z∈lits,GQ 7 7 1 1 (sg z)=true:=by decide +kernel
noncomputable def f1(w:List Nat):Nat:=w.length+1
noncomputable def f4(w:List Nat):Nat:=w.count 40
theorem tq{f:List Nat->Nat}:∀{W:Ws}{w:List Nat},w∈W->f w<=(W.map f).sum
 |v::W,w,h=>by
  rw[UE,VU]
  rcases UI.mp h with rfl|h
  .omega
  .have:=tq (f:=f) h;omega
def oI{n m b B:Nat}{l:List Nat}(h:TM n m b B l){w:List Nat}(hw:w∈JK 32 l):w.length<=n/\(∀c∈w,c < 256)/\Rn yE c_ m 0 w/\Rn gF rG b 0 w/\f4 w<=b:=by
 have e:=dR 32 l
 have h1:=h.ru
 have h2:=h.br
 rw[<-e]at h1 h2
 have r1:=(dL (by decide) _).mp h1 w hw
 have r2:=(dL (by decide) _).mp h2 w hw
 refine⟨?_,λc hc=>h.vd c (by rw[<-e];exact rH hw hc),r1,r2,?_⟩
 .have:=T9.bw 32 (JK 32 l) (Ko 32 l)
  rw[e]at this
  have s:=tq (f:=λw=>w.length+1) hw
  have:=h.len
  omega
 .have:=rJ (oB 32 l w hw) r2 (UZ _)
  show w.count 40<=b
  omega
def iT{n m b B:Nat}{l:List Nat}(h:TM n m b B l)(hn:7<=n)(hm:3<=m){W:Ws}(hw:∀w∈W,w∈JK 32 l\/ofL w∈lits)(h1:(W.map f1).sum<=((JK 32 l).map f1).sum+(n+1))(h2:(W.map f4).sum<=((JK 32 l).map f4).sum+(b+1)):TM (2 * n+1) (2 * m+1) (2 * b+1) (B+b+1) (gl [32] W):=by
 have e:=dR 32 l
 have el:=T9.bw 32 (JK 32 l) (Ko 32 l)
 have ec:=gg (JK 32 l)
 rw[e]at el ec
 have hl:=h.len
 have hc:=h.ct
 have all:∀w∈W,(∀c∈w,c < 256)/\Rn yE c_ (2 * m+1) 0 w/\Rn gF rG (2 * b+1) 0 w:=by
  intro w hw'
  rcases hw w hw' with hw'|hw'
  .obtain⟨a1,a2,a3,a4,a5⟩:=oI h hw'
   exact⟨a2,bn a3 (by omega) (by omega),bn a4 (by omega) (by omega)⟩
  .obtain⟨a1,a2,a3,a4,a5⟩:=td (tj _ hw')
   exact⟨a2,bn a3 (by omega) (by omega),bn a4 (by omega) (by omega)⟩
 refine⟨?_,λc hc=>?_,(dL (by decide) W).mpr λw hw'=>(all w hw').2.1,(dL (by decide) W).mpr λw hw'=>(all w hw').2.2,?_⟩
 .by_cases hW:W=[]
  .subst hW;exact UZ _
  .have:=T9.bw 32 W hW
   change _=(W.map f1).sum at this
   change _=((JK 32 l).map f1).sum at el
   omega
 .rcases hU hc with rfl|⟨w,a,b⟩
  .decide
  .exact(all w a).1 c b
 .rw[gg W]
  change (W.map f4).sum<=_
  change _=((JK 32 l).map f4).sum at ec
  omega
theorem dN{f:List Nat->Nat}:∀{W:Ws}{i:Nat}{x:List Nat}{v:List Nat},W[i]?=some v->((W.set i x).map f).sum+f v=(W.map f).sum+f x
 |[],i,x,v,h=>by simp at h
 |w::W,0,x,v,h=>by simp at h;subst h;simp;omega
 |w::W,i+1,x,v,h=>by
  have:=dN (f:=f) (W:=W) (i:=i) (x:=x) (v:=v) (by simpa using h)
  simp only[List.set_cons_succ,UE,List.sum_cons]
  omega
def df{f:List Nat->Nat}(W:Ws)(i:Nat):((W.take i).map f).sum+((W.drop i).map f).sum=(W.map f).sum:=by
 rw[<-WL,<-U5,VJ]
def d6{W:Ws}{i:Nat}{x w:List Nat}(h:w∈W.set i x):w∈W\/w=x:=List.mem_or_eq_of_mem_set h
section
variable {n m b B:Nat}{l:List Nat}
def GR(h:TM n m b B l)(hn:7<=n)(hm:3<=m)(i:Nat):TM (2 * n+1) (2 * m+1) (2 * b+1) (B+b+1) (gl [32] ((JK 32 l).take i++(JK 32 l).drop (i+1))):=by
 have d:∀f:List Nat->Nat,(((JK 32 l).drop (i+1)).map f).sum<=(((JK 32 l).drop i).map f).sum:=by
  intro f
  rw[show(JK 32 l).drop (i+1)=((JK 32 l).drop i).drop 1 from by rw[XW]]
  cases (JK 32 l).drop i with
  |nil=>simp
  |cons a W=>simp
 refine iT h hn hm (λw hw=>?_) ?_ ?_
 .rcases UT.mp hw with hw|hw
  .exact .inl (VN hw)
  .exact .inl (VX hw)
 .rw[U5,WL];have:=d f1;have:=df (f:=f1) (JK 32 l) i;omega
 .rw[U5,WL];have:=d f4;have:=df (f:=f4) (JK 32 l) i;omega
def GS(h:TM n m b B l)(hn:7<=n)(hm:3<=m){i:Nat}{w:List Nat}(hi:(JK 32 l)[i]?=some w):TM (2 * n+1) (2 * m+1) (2 * b+1) (B+b+1) (gl [32] ((JK 32 l).take i++[w]++(JK 32 l).drop i)):=by
 have hw:=VC hi
 obtain⟨a1,a2,a3,a4,a5⟩:=oI h hw
 refine iT h hn hm (λx hx=>?_) ?_ ?_
 .rcases UT.mp hx with hx|hx
  .rcases UT.mp hx with hx|hx
   .exact .inl (VN hx)
   .rw[UM.mp hx];exact .inl hw
  .exact .inl (VX hx)
 .simp only[U5,WL,UE,Ve,List.sum_cons,List.sum_nil];have:=df (f:=f1) (JK 32 l) i;have:f1 w=w.length+1:=rfl;omega
 .simp only[U5,WL,UE,Ve,List.sum_cons,List.sum_nil];have:=df (f:=f4) (JK 32 l) i;omega
def GT(h:TM n m b B l)(hn:7<=n)(hm:3<=m){i j:Nat}{v w:List Nat}(hi:(JK 32 l)[i]?=some v)(hj:(JK 32 l)[j]?=some w):TM (2 * n+1) (2 * m+1) (2 * b+1) (B+b+1) (gl [32] (((JK 32 l).set i w).set j v)):=by
 have hj':((JK 32 l).set i w)[j]?=some w:=by
  rw[Xa]
  have:=(U3.mp hi).1
  split
  .simp[this]
  .exact hj
 have s:∀f:List Nat->Nat,((((JK 32 l).set i w).set j v).map f).sum=((JK 32 l).map f).sum:=λf=>by
  have:=dN (f:=f) (x:=w) hi
  have:=dN (f:=f) (x:=v) hj'
  omega
 refine iT h hn hm (λx hx=>?_) (by rw[s];omega) (by rw[s];omega)
 rcases d6 hx with hx|rfl
 .rcases d6 hx with hx|rfl
  .exact .inl hx
  .exact .inl (VC hj)
 .exact .inl (VC hi)
def GU(h:TM n m b B l)(hn:7<=n)(hm:3<=m){i:Nat}{v:List Nat}{z:Str}(hi:(JK 32 l)[i]?=some v)(hz:z∈lits):TM (2 * n+1) (2 * m+1) (2 * b+1) (B+b+1) (gl [32] ((JK 32 l).set i (sg z))):=by
 obtain⟨a1,a2,a3,a4,a5⟩:=td (tj z hz)
 have c1:=dN (f:=f1) (x:=sg z) hi
 have c4:=dN (f:=f4) (x:=sg z) hi
 refine iT h hn hm (λx hx=>?_) ?_ ?_
 .rcases d6 hx with hx|rfl
  .exact .inl hx
  .exact .inr (by rw[eI];exact hz)
 .have:f1 (sg z)=(sg z).length+1:=rfl;omega
 .have:f4 (sg z)=(sg z).count 40:=rfl;omega
end
noncomputable def sgs:List Nat:=sg (" !\"#$&'()*+,-./0123456789:;<=>?@ABCDEFGHIJKLMNOPQRSTUVWXYZ":String)++sg ("[\\]^_`abcdefghijklmnopqrstuvwxyz{|}~\n":String)
noncomputable def QX:List Nat:=sg ("() /0:9":String)
def tt:sgs.length=95:=by decide +kernel
def tu:QX.length=7:=by decide +kernel
def yL:∀c∈sgs++QX,c < 256:=by decide +kernel
abbrev yM(w:aF):Prop:=∀{S:aq}{Q:bP}{E:cq},Q (.str (ofL sgs)) S->w [] S Q E
def yN:yM (bV 1 eN):=by
 intro S Q E k
 unfold eN
 refine j2 ?_
 rw[show aB 1 []=[none] from rfl]
 walk_at "5"
 walk_at "x"
 refine hN _ _ ?_
 walk_at "x"
 refine⟨ln (m:=1000) (by decide +kernel),?_⟩
 exact k
def lJ(W:Ws):(W.map ofL).map PV.str=W.map λw=>PV.str (ofL w):=by rw[VF];rfl
def I_{W:Ws}{i:Nat}{w:List Nat}(h:W[i]?=some w):Kn (W.map λw=>PV.str (ofL w)) (i:Int)=some (.str (ofL w)):=b6 (by rw[U7,h];rfl)
def lK{n i:Nat}(h:i < n):r_ n (i:Int)=some i:=by
 unfold r_
 rw[if_pos (by omega),if_pos (by omega),XN]
def hV{α:Type}(xs:List α)(i:Nat):cu xs none (some (i:Int))=xs.take i:=by
 unfold cu
 rw[HT.kz,HT.im,WY,Nat.sub_zero]
 rcases Nat.le_total i xs.length with h|h
 .rw[WK h]
 .rw[Nat.min_eq_right h,Wm h,W0]
def d9{α:Type}(xs:List α)(i:Nat):cu xs (some (i:Int)) none=xs.drop i:=by
 unfold cu
 rw[HT.kz,HT.im]
 rcases Nat.le_total i xs.length with h|h
 .rw[WK h];exact Wm (by simp)
 .rw[Nat.min_eq_right h,XT h];simp
def Bb{α:Type}(xs:List α){i:Nat}{x:α}(h:xs[i]?=some x):cu xs (some (i:Int)) (some ((i:Int)+1))=[x]:=by
 have hi:=(U3.mp h).1
 unfold cu
 rw[show((i:Int)+1)=((i+1:Nat):Int)from rfl,HT.im,HT.im,WK (by omega),WK (by omega),show i+1 - i=1 from by omega]
 rw[V7 hi,List.take_succ_cons,List.take_zero]
 rw[U9 hi]at h
 cases h;rfl
def Ja(W:Ws):texts (W.map λw=>PV.str (ofL w))=some (W.map ofL):=by rw[<-lJ,gq]
def GV(W:Ws):((W.map ofL).map (·.length)).sum+(W.map ofL).length * (Str.ofString " ").length=(W.map f1).sum:=by
 induction W with
 |nil=>rfl
 |cons w W ih=>
  simp only[UE,List.sum_cons,List.length_cons]at ih ⊢
  rw[show(Str.ofString " ").length=1 from rfl]at ih ⊢
  rw[show f1 w=w.length+1 from rfl,show(ofL w).length=w.length from JL w]
  omega
def iU{W:Ws}{a:Addr}{S:aq}{Q:bP}(hS:S a=some (.lst (W.map λw=>PV.str (ofL w))))(hl:(W.map f1).sum<=100000)(k:Q (.str (ofL (gl [32] W))) S):cG (.str (Str.ofString " ")) [.ref a] S Q:=by
 simp only[cG,hS,Ja,GV]
 refine⟨by omega,?_⟩
 have:=sT W
 rw[show(Str.ofString " ")=((" ":String):Str)from rfl,this]
 exact k
def tw{W:Ws}{n:Nat}(h:(gl [32] W).length<=n):(W.map f1).sum<=n+1:=by
 by_cases hW:W=[]
 .subst hW;exact UZ _
 .have:=T9.bw 32 W hW
  change _=(W.map f1).sum at this
  omega
def km{d l p:Addr}{S S':aq}{o:SO}(O:Oth d l S S')(h:S p=none):Oth d l S (JH S' p o):=λa u ha h1 h2=>by rw[aj (λe=>by rw[e,h]at ha;cases ha)];exact O a u ha h1 h2
def qh(a b:Int)(S:aq)(Q:bP):aG (.int a) (.int b) S Q=Q (.int (a+b)) S:=rfl
theorem lL{se cn:Nat->Bool}{m:Nat}:∀{k:Nat}{w:List Nat},(∀c∈w,cn c=false)->Rn se cn m k w
 |_,[],_=>by rw[Rn];trivial
 |k,c::w,h=>by
  rw[Rn]
  split
  .exact lL λx hx=>h x (by simp[hx])
  .rw[if_neg (by rw[h c (by simp)];decide)];exact lL λx hx=>h x (by simp[hx])
theorem yO{m:Nat}:∀{k:Nat}{w:List Nat},k+w.length<=m->Rn yE c_ m k w
 |_,[],_=>by rw[Rn];trivial
 |k,c::w,h=>by
  rw[UQ]at h
  rw[Rn]
  split
  .exact yO (by omega)
  .rw[if_pos (a1 _)];exact⟨by omega,yO (by omega)⟩
structure W6(n b:Nat)(w:List Nat):Prop where
 len:w.length<=n
 vd:∀c∈w,c < 256
 ru:Rn yE c_ 6 0 w
 br:Rn gF rG 1 0 w
 ct:w.count 40<=b
 nl:∀c∈w,c≠10
def gA{w:List Nat}(h:w.length<=6)(hc:∀c∈w,45<=c/\c<=126):W6 6 0 w:=by
 have n4:∀c∈w,c≠40:=λc hx e=>by have:=hc c hx;omega
 refine⟨h,λc hx=>by have:=hc c hx;omega,yO (by omega),lL λc hx=>by simp[rG,n4 c hx],?_,λc hx=>by have:=hc c hx;omega⟩
 rw[List.count_eq_zero_of_not_mem (λhx=>n4 40 hx rfl)]
 exact UH _
def EO{m k:Nat}{x:List Nat}(h:Rn gF rG m k x):Rn gF rG m k (x++[41]):=Lh.mpr ⟨h,lL (by simp[rG])⟩
def lM{h:List Nat}{P:List (Nat×Nat×List Nat)}(hP:P≠[])(hh:h.length<=6)(hc:∀c∈h,45<=c/\c<=126)(all:∀q∈P,W6 q.1 q.2.1 q.2.2):W6 (8+(P.map λq=>q.1+1).sum) (1+(P.map λq=>q.2.1).sum) ([40]++gl [32] (h::P.map λq=>q.2.2)++[41]):=by
 have hw:=gA hh hc
 have all':∀w∈h::P.map (λq=>q.2.2),(∀c∈w,c < 256)/\Rn yE c_ 6 0 w/\Rn gF rG 1 0 w:=by
  intro w hw'
  rcases UI.mp hw' with rfl|hw'
  .exact⟨hw.vd,hw.ru,hw.br⟩
  .obtain⟨q,hq,rfl⟩:=Vf.mp hw'
   exact⟨(all q hq).vd,(all q hq).ru,(all q hq).br⟩
 have s1:∀P:List (Nat×Nat×List Nat),(∀q∈P,W6 q.1 q.2.1 q.2.2)->((P.map λq=>q.2.2).map f1).sum<=(P.map λq=>q.1+1).sum/\((P.map λq=>q.2.2).map f4).sum<=(P.map λq=>q.2.1).sum:=by
  intro P
  induction P with
  |nil=>intro _;exact⟨UH _,UH _⟩
  |cons q P ih=>
   intro h
   obtain⟨a,b⟩:=ih λx hx=>h x (by simp[hx])
   have l:=(h q (by simp)).len
   have c:=(h q (by simp)).ct
   simp only[UE,List.sum_cons]
   have e1:f1 q.2.2=q.2.2.length+1:=rfl
   have e2:f4 q.2.2=q.2.2.count 40:=rfl
   omega
 obtain⟨t1,t2⟩:=s1 P all
 have Uj:(P.map λq=>q.2.2)≠[]:=by simpa using hP
 refine⟨?_,?_,?_,?_,?_,?_⟩
 .have:=T9.bw 32 (h::P.map λq=>q.2.2) (by simp)
  change _=((h::P.map λq=>q.2.2).map f1).sum at this
  simp only[UE,List.sum_cons]at this
  have e1:f1 h=h.length+1:=rfl
  simp only[UK,List.length_cons,List.length_nil]
  omega
 .intro c hc
  simp only[UT,UM]at hc
  rcases hc with(rfl|hc)|rfl
  .decide
  .rcases hU hc with rfl|⟨w,a,b⟩
   .decide
   .exact(all' w a).1 c b
  .decide
 .rw[U8,show([40]++(gl [32] (h::P.map λq=>q.2.2)++[41]))=[]++40::(gl [32] (h::P.map λq=>q.2.2)++41::[])from rfl,dY (by decide),dY (by decide)]
  exact⟨by rw[Rn];trivial,(dL (by decide) _).mpr λw hw'=>(all' w hw').2.1,by rw[Rn];trivial⟩
 .rw[aX [32] h Uj]
  refine EO ?_
  rw[show[40]++(h++[32]++gl [32] (P.map λq=>q.2.2))=(40::h)++32::gl [32] (P.map λq=>q.2.2)from by simp,dY (by decide)]
  refine⟨?_,(dL (by decide) _).mpr λw hw'=>(all' w (UP _ hw')).2.2⟩
  rw[Rn,if_neg (by decide),if_pos (by decide)]
  exact⟨UH _,lL λc hx=>by have:=hc c hx;simp[rG];omega⟩
 .rw[Vb,Vb,gg]
  change [40].count 40+((h::P.map λq=>q.2.2).map f4).sum+[41].count 40<=_
  rw[show[40].count 40=1 from by decide,show[41].count 40=0 from by decide,UE,VU]
  have:=hw.ct
  have e2:f4 h=h.count 40:=rfl
  omega
 .intro c hc
  simp only[UT,UM]at hc
  rcases hc with(rfl|hc)|rfl
  .decide
  .rcases hU hc with rfl|⟨w,a,b⟩
   .decide
   .rcases UI.mp a with rfl|a
    .exact hw.nl c b
    .obtain⟨q,hq,rfl⟩:=Vf.mp a
     exact(all q hq).nl c b
  .decide
abbrev Fb(ws:Vs):Prop:=∀z∈ws,E8 z/\z ∉ J8
def yP{ws:Vs}(h:Fb ws){z:Str}(hz:z∈ws):W6 6 0 (sg z):=gA (h z hz).1.le λc hc=>by have:=(h z hz).1.sm c hc;omega
def GW{m:Int}(h:1<=m/\m<=9):W6 6 0 (num m):=gA (UN (dI (k:=0) (by omega)) (by decide)) (ji (by omega)).1
def II{x y:Int}(h:M3.HR x y/\0<=x/\x<=999/\y<=9):W6 6 0 (txt (x,y)):=by
 have hp:=h.1.pos
 obtain⟨v,rfl⟩:=Vn h.2.1
 obtain⟨b,rfl⟩:=Vn (show 0<=y by omega)
 refine gA ?_ (nZ v b).1
 have h1:(num (v:Int)).length<=3:=by rw[bx];exact nI (k:=2) (by have:=h.2.2.1;omega)
 have h2:(num (b:Int)).length<=1:=by rw[bx];exact nI (k:=0) (by have:=h.2.2.2;omega)
 unfold txt
 split
 .dsimp only;omega
 .simp only[UK,List.length_cons];omega
theorem jW{ws:Vs}(hw:Fb ws):∀t:Bd,t.g9 ws->W6 (24 * t.size) t.size (tx t)
 | .rest,_=>by
  have:=gA (w:=sg "rest") (by decide +kernel) (by decide +kernel)
  exact⟨UN this.len (by decide),this.vd,this.ru,this.br,UN this.ct (UZ _),this.nl⟩
 | .pay x y,g=>by
  have:=lM (h:=sg "pay") (P:=[(6,0,txt (x,y))]) (by simp) (by decide +kernel) (by decide +kernel) (by simp;exact II g)
  exact⟨UN this.len (by simp[Bd.size]),this.vd,this.ru,this.br,this.ct,this.nl⟩
 | .put z m,g=>by
  have:=lM (h:=sg "put") (P:=[(6,0,sg z),(6,0,num m)]) (by simp) (by decide +kernel) (by decide +kernel) (by simp;exact⟨yP hw g.1,GW g.2⟩)
  exact⟨UN this.len (by simp[Bd.size]),this.vd,this.ru,this.br,this.ct,this.nl⟩
 | .use z,g=>by
  have:=lM (h:=sg "use") (P:=[(6,0,sg z)]) (by simp) (by decide +kernel) (by decide +kernel) (by simp;exact yP hw g)
  exact⟨UN this.len (by simp[Bd.size]),this.vd,this.ru,this.br,this.ct,this.nl⟩
 | .K_ a,g=>by
  have:=lM (h:=sg "often") (P:=[(24 * a.size,a.size,tx a)]) (by simp) (by decide +kernel) (by decide +kernel) (by simp;exact jW hw a g)
  exact⟨UN this.len (by simp[Bd.size];omega),this.vd,this.ru,this.br,UN this.ct (by simp[Bd.size];omega),this.nl⟩
 | .JN a b,g=>by
  have:=lM (h:=sg "then") (P:=[(24 * a.size,a.size,tx a),(24 * b.size,b.size,tx b)]) (by simp) (by decide +kernel) (by decide +kernel) (by simp;exact⟨jW hw a g.1,jW hw b g.2⟩)
  exact⟨UN this.len (by simp[Bd.size];omega),this.vd,this.ru,this.br,UN this.ct (by simp[Bd.size];omega),this.nl⟩
 | .K5 a b,g=>by
  have:=lM (h:=sg "either") (P:=[(24 * a.size,a.size,tx a),(24 * b.size,b.size,tx b)]) (by simp) (by decide +kernel) (by decide +kernel) (by simp;exact⟨jW hw a g.1,jW hw b g.2⟩)
  exact⟨UN this.len (by simp[Bd.size];omega),this.vd,this.ru,this.br,UN this.ct (by simp[Bd.size];omega),this.nl⟩
 | .K7 z m a b,g=>by
  have:=lM (h:=sg "take") (P:=[(6,0,sg z),(6,0,num m),(24 * a.size,a.size,tx a),(24 * b.size,b.size,tx b)]) (by simp) (by decide +kernel) (by decide +kernel) (by simp;exact⟨yP hw g.1,GW ⟨g.2.1,g.2.2.1⟩,jW hw a g.2.2.2.1,jW hw b g.2.2.2.2⟩)
  exact⟨UN this.len (by simp[Bd.size];omega),this.vd,this.ru,this.br,UN this.ct (by simp[Bd.size];omega),this.nl⟩
theorem jX{ws:Vs}(hw:Fb ws):∀{t:Bd},t.g9 ws->t.gb ws
 | .rest,_=>trivial
 | .pay x y,g=>by
  have hp:=g.1.pos
  have e:(1000:Nat) < 10 ^ 60:=by decide
  exact⟨Xk (show x.natAbs < 1000 by have:=g.2.1;have:=g.2.2.1;omega) e,Xk (show y.natAbs < 1000 by have:=g.2.2.2;omega) e⟩
 | .put z m,g=>⟨(hw z g.1).1.le,g.2⟩
 | .use z,g=>(hw z g).1.le
 | .K_ a,g=>jX (t:=a) hw g
 | .JN a b,g=>⟨jX hw g.1,jX hw g.2⟩
 | .K5 a b,g=>⟨jX hw g.1,jX hw g.2⟩
 | .K7 z m a b,g=>⟨(hw z g.1).1.le,g.2.1,g.2.2.1,jX hw g.2.2.2.1,jX hw g.2.2.2.2⟩
def Cd{m:Int}(h:1<=m/\m<=9):m.natAbs < 2 ^ 64:=by omega
def Hh{S:aq}{z:Str}(h:ci (sg z)=true):Sh S (.str z) (.str z) 62 0:=(Sh.str (sX h)).le (by have:=Hg h;show 10 * (sg z).length+2<=62;omega) (UH _)
theorem Ce{S:aq}:∀t:Bd,VB t->CB t->Sh S t.pv t.dt (t.size * 4200) (t.dep+1)
 | .rest,_,_=>(Sh.tup ((Sh.s "rest" 0 (by decide +kernel) (by decide +kernel)).cons .nil)).le (by decide) (by decide)
 | .pay x y,_,h=>(Sh.tup ((Sh.s "pay" 1 (by decide +kernel) (by decide +kernel)).cons ((Sh.tup ((Sh.int (ju h.1)).cons ((Sh.int (ju h.2)).cons .nil))).cons (.MO 1)))).le (by simp only[Bd.size];omega) (by simp only[Bd.dep];omega)
 | .put z m,h,_=>(Sh.tup ((Sh.s "put" 0 (by decide +kernel) (by decide +kernel)).cons ((Hh h.1).cons ((Sh.i (Cd h.2)).cons .nil)))).le (by simp only[Bd.size];omega) (by simp only[Bd.dep];omega)
 | .use z,h,_=>(Sh.tup ((Sh.s "use" 0 (by decide +kernel) (by decide +kernel)).cons ((Hh h).cons .nil))).le (by simp only[Bd.size];omega) (by simp only[Bd.dep];omega)
 | .K_ a,h,c=>(Sh.tup ((Sh.s "often" _ (by decide +kernel) (by decide +kernel)).cons ((Ce a h c).cons (.MO _)))).le (by simp only[Bd.size];omega) (by simp only[Bd.dep];omega)
 | .JN a b,h,c=>(Sh.tup ((Sh.s "then" (max a.dep b.dep+1) (by decide +kernel) (by decide +kernel)).cons (((Ce a h.1 c.1).le (UH _) (V0 (Yr a.dep b.dep))).cons (((Ce b h.2 c.2).le (UH _) (V0 (Yg a.dep b.dep))).cons (.MO _))))).le (by simp only[Bd.size];omega) (by simp only[Bd.dep];omega)
 | .K5 a b,h,c=>(Sh.tup ((Sh.s "either" (max a.dep b.dep+1) (by decide +kernel) (by decide +kernel)).cons (((Ce a h.1 c.1).le (UH _) (V0 (Yr a.dep b.dep))).cons (((Ce b h.2 c.2).le (UH _) (V0 (Yg a.dep b.dep))).cons (.MO _))))).le (by simp only[Bd.size];omega) (by simp only[Bd.dep];omega)
 | .K7 z m a b,h,c=>(Sh.tup ((Sh.s "take" (max a.dep b.dep+1) (by decide +kernel) (by decide +kernel)).cons (((Hh h.1).le (UH _) (UZ _)).cons (((Sh.i (Cd ⟨h.2.1,h.2.2.1⟩)).le (UH _) (UZ _)).cons (((Ce a h.2.2.2.1 c.1).le (UH _) (V0 (Yr a.dep b.dep))).cons (((Ce b h.2.2.2.2 c.2).le (UH _) (V0 (Yg a.dep b.dep))).cons (.MO _))))))).le (by simp only[Bd.size];omega) (by simp only[Bd.dep];omega)
noncomputable def Fc(r:List Nat):Option (List (List Nat)):=match JK 32 r with
 |w::ws=>if w=sg "jars"/\ws.all ci=true then some ws else none
 |[]=>none
noncomputable def lP(r:List Nat):Option (List Nat×Bd):=match JK 32 r with
 |p0::p1::p2::ps=>if p0=sg "deed"/\p2=[58]/\ci p1=true then (l0 36 (gl [32] ps)).map λt=>(p1,t) else none
 |_=>none
noncomputable def qi:Nat->List (List Nat)->Nat ⊕ List (List Nat×Bd)
 |_,[]=>.inr []
 |n,r::rs=>match lP r with
  |none=>.inl n
  |some q=>match qi (n+1) rs with
   | .inl k=>.inl k
   | .inr qs=>.inr (q::qs)
noncomputable def hrd(l:List Nat):Nat ⊕ (List (List Nat)×List (List Nat×Bd)):=match JK 10 l with
 |[]=>.inl 0
 |r::rs=>match Fc r with
  |none=>.inl 0
  |some js=>match qi 1 rs with
   | .inl k=>.inl k
   | .inr qs=>if rs=[] then .inl 1 else .inr (js,qs)
theorem oJ:∀(pre:List (List Nat))(qs:List (List Nat×Bd))(n:Nat)(post:List (List Nat)),pre.map lP=qs.map some->qi n (pre++post)=match qi (n+pre.length) post with
  | .inl k=>.inl k
  | .inr q=>.inr (qs++q)
 |[],[],n,post,_=>by
  rw[VT,Wr,Nat.add_zero]
  cases qi n post<;>rfl
 |[],_::_,_,_,h=>by simp at h
 |_::_,[],_,_,h=>by simp at h
 |r::pre,q::qs,n,post,h=>by
  simp only[UE,List.cons.injEq]at h
  rw[V5,qi,h.1]
  dsimp only
  rw[oJ pre qs (n+1) post h.2,UQ,show n+1+pre.length=n+(pre.length+1)from by omega]
  cases qi (n+(pre.length+1)) post<;>rfl
def tz{pre:List (List Nat)}{qs:List (List Nat×Bd)}(n:Nat)(h:pre.map lP=qs.map some):qi n pre = .inr qs:=by
 have:=oJ pre qs n [] h
 rw[Vp,qi]at this
 simpa using this
def tD{pre post:List (List Nat)}{r:List Nat}{qs:List (List Nat×Bd)}(n:Nat)(h:pre.map lP=qs.map some)(hr:lP r=none):qi n (pre++r::post) = .inl (n+pre.length):=by
 rw[oJ pre qs n (r::post) h,qi,hr]
noncomputable def Op(q:List Nat×Bd):PV:=.tup [.str (ofL q.1),q.2.pv]
noncomputable def GX(js:List (List Nat))(qs:List (List Nat×Bd)):PV:=.tup [.tup (js.map λj=>.str (ofL j)),.tup (qs.map Op)]
def Bc{f:List Nat->Nat}{W V:Ws}(h:W.Sublist V):(W.map f).sum<=(V.map f).sum:=by
 induction h with
 |slnil=>exact UH _
 |cons a _ ih=>rw[UE,VU];omega
 |cons_cons a _ ih=>rw[UE,UE,VU,VU];omega
theorem TM.sub{n m b B:Nat}{l:List Nat}(h:TM n m b B l){W:Ws}(hW:W.Sublist (JK 32 l)):TM n m b B (gl [32] W):=by
 have e:=dR 32 l
 have el:=T9.bw 32 (JK 32 l) (Ko 32 l)
 have ec:=gg (JK 32 l)
 rw[e]at el ec
 have hl:=h.len
 have hc:=h.ct
 have all:∀w∈W,_:=λw hw=>oI h (hW.subset hw)
 have sub:∀f:List Nat->Nat,(W.map f).sum<=((JK 32 l).map f).sum:=λf=>Bc hW
 refine⟨?_,λc hc=>?_,(dL (by decide) W).mpr λw hw=>(all w hw).2.2.1,(dL (by decide) W).mpr λw hw=>(all w hw).2.2.2.1,?_⟩
 .by_cases hE:W=[]
  .subst hE;exact UZ _
  .have:=T9.bw 32 W hE
   have:=sub λw=>w.length+1
   omega
 .rcases hU hc with rfl|⟨w,a,b⟩
  .decide
  .exact(all w a).2.1 c b
 .rw[gg W]
  have:=sub λw=>w.count 40
  omega
abbrev RF(l:List Nat):Prop:=TM 1000 55 15 35 l
def RF.tf{l:List Nat}(h:RF l):TF l:=h.mono (by decide) (UH _) (UH _) (UH _)
def RF.word{l w:List Nat}(h:RF l)(hw:w∈JK 32 l):w.length<=1000/\Vd w=true:=by
 obtain⟨a1,a2,-⟩:=oI h hw
 exact⟨a1,LB.mpr a2⟩
abbrev Cf(w:aF):Prop:=∀{S:aq}{l:List Nat}{Q:bP}{E:cq},RF l->(∀js S',Fc l=some js->Ext S S'->Q (.tup (js.map λj=>.str (ofL j))) S')->(∀S',Fc l=none->Ext S S'->E bt [] S')->w [.str (ofL l)] S Q E
theorem mN{te:aO}{keep:aq->Prop}{fin:List PV->aq->Prop}{E:PV->aq->Prop}{S0:aq}{xr:aF}(Lf:jv xr)(Uk:te=aR xr [v3 0])(hk:∀S,Ext S0 S->keep S):∀(ws ys:List (List Nat))(S:aq),Ext S0 S->ys.length+ws.length<=20000->(∀w∈ws,w.length<=1000/\Vd w=true)->
  (ws.all ci=true->∀S',Ext S0 S'->fin ((ys++ws).map λj=>.str (ofL j)) S')->(ws.all ci=false->∀S',Ext S0 S'->E bt S')->jf (.n 0) eF te [none] keep fin E (ws.map λj=>.str (ofL j)) (ys.map λj=>.str (ofL j)) S
 |[],ys,S,X,hl,_,k1,_=>⟨hk S X,ln (m:=20000) (by simpa using hl),by have:=k1 rfl S X;rwa [Vp]at this⟩
 |w::ws,ys,S,X,hl,h,k1,k2=>by
  refine⟨hk S X,ln (m:=20000) (by simp at hl ⊢;omega),?_⟩
  simp only[Tg.put,eF,VL,Uk,aR,al,v3,lk,List.set_cons_zero]
  refine Lf (h w (by simp)).1 (h w (by simp)).2 (λS' X' hn=>?_) λS' X' hn=>k2 (by rw[Yi,hn];rfl) S' (X.trans X')
  have:=mN (te:=aR xr [v3 0]) (keep:=keep) (fin:=fin) (E:=E) Lf rfl hk ws (ys++[w]) S' (X.trans X') (by simp at hl ⊢;omega) (λx hx=>h x (by simp[hx])) (λq S2 X2=>by
   have:=k1 (by rw[Yi,hn,q];rfl) S2 X2
   simpa using this) λq=>k2 (by rw[Yi,hn,q];rfl)
  rw[U5]at this
  exact this
def yQ{x0:aF}(Lf:jv x0):Cf (dr 2 (fQ x0)):=by
 intro S l Q E hl k1 k2
 have hsl:=eP 32 l
 have Qt:=hl.len
 unfold fQ
 show(ae _ _) _ (aB 2 [PV.str (ofL l)]) S
 rw[show aB 2 [PV.str (ofL l)]=[some (.str (ofL l)),none] from rfl]
 walk_at "5"
 simp only[ap,bL,v3,lk,gC,al,c3,VQ]
 rw[show(Str.ofString " ")=⟨#[32]⟩from rfl]
 refine dJ (by omega) λp hp=>?_
 rw[lJ]
 have X1:=Ext.new (o:=.lst ((JK 32 l).map λw=>PV.str (ofL w))) hp
 have e1:JH S p (.lst ((JK 32 l).map λw=>PV.str (ofL w))) p=some (.lst ((JK 32 l).map λw=>PV.str (ofL w))):=aa
 generalize JH S p (.lst ((JK 32 l).map λw=>PV.str (ofL w)))=S1 at X1 e1
 walk_at "1"
 walk_at "0"
 have hw0:=λw hw=>hl.word (w:=w) hw
 unfold Fc at k1 k2
 cases e:JK 32 l with
 |nil=>exact absurd e (Ko 32 l)
 |cons w ws=>
  rw[e]at e1 k1 k2 hw0 hsl
  dsimp only at k1 k2
  simp only[a_,aH,am,v3,lk,c3,az,e1,UE,rc,bo,WB]
  by_cases h0:w=sg "jars"
  .subst h0
   rw[show decide (ofL (sg "jars")=Str.ofString "jars")=true from U1 (eI _)]
   simp only[VW,UR,Vx,aJ]
   refine hN _ _ (mI ?_)
   simp only[af,al,nL,bE,aA,v3,lk,cz,de,c3,cK,e1,UE]
   intro p2 hp2
   rw[sY]
   have X2:=Ext.new (o:=.lst (ws.map λw=>PV.str (ofL w))) hp2
   have e2:JH S1 p2 (.lst (ws.map λw=>PV.str (ofL w))) p2=some (.lst (ws.map λw=>PV.str (ofL w))):=aa
   generalize JH S1 p2 (.lst (ws.map λw=>PV.str (ofL w)))=S2 at X2 e2
   simp only[eR,e2]
   refine mN Lf rfl (S0:=S2) (λS' X'=>X' _ _ e2) ws [] S2 .refl (by simp at hsl ⊢;omega) (λx hx=>hw0 x (by simp[hx])) (λq S' X' p3 hp3=>?_) λq S' X'=>?_
   .simp only[bC,cJ,aa]
    refine k1 ws _ (if_pos ⟨rfl,q⟩) (X1.trans (X2.trans (X'.trans (Ext.new hp3))))
   .exact k2 S' (if_neg λz=>by rw[z.2]at q;cases q) (X1.trans (X2.trans X'))
  .rw[show decide (ofL w=Str.ofString "jars")=false from UO λz=>h0 (U4 sg z)]
   simp only[V4,VL,bd,al,c3]
   exact k2 S1 (if_neg λz=>h0 z.1) X1
abbrev Cg(w:aF):Prop:=∀{S:aq}{l:List Nat}{Q:bP}{E:cq},RF l->(∀q S',lP l=some q->Ext S S'->Q (Op q) S')->(∀S',lP l=none->Ext S S'->E bt [] S')->w [.str (ofL l)] S Q E
def yR{xa xn xb:aF}(M0:ID xa)(Lf:jv xn)(Nj:yf xb):Cg (dr 2 (fR xa xn xb)):=by
 intro S l Q E hl k1 k2
 have hsl:=eP 32 l
 have Qt:=hl.len
 unfold fR
 show(ae _ _) _ (aB 2 [PV.str (ofL l)]) S
 rw[show aB 2 [PV.str (ofL l)]=[some (.str (ofL l)),none] from rfl]
 walk_at "5"
 simp only[ap,bL,v3,lk,gC,al,c3,VQ]
 rw[show(Str.ofString " ")=⟨#[32]⟩from rfl]
 refine dJ (by omega) λp hp=>?_
 have X1:=Ext.new (o:=.lst (((JK 32 l).map ofL).map PV.str)) hp
 have e1:JH S p (.lst (((JK 32 l).map ofL).map PV.str)) p=some (.lst (((JK 32 l).map ofL).map PV.str)):=aa
 generalize JH S p (.lst (((JK 32 l).map ofL).map PV.str))=S1 at X1 e1
 walk_at "1"
 walk_at "0"
 simp only[a_,fc,aH,am,ak,al,v3,lk,c3]
 refine M0 (i:=0) e1 ?_
 simp only[bo,WB,WY]
 have bad:lP l=none->bd "BadText" ["row"] [c3 (.int 0)] { nx:=N,rt:=Q,ex:=λp _ S'=>E p [] S' } [some (.str (ofL l)),some (.ref p)] S1:=λz=>by
  simp only[bd,al,c3]
  exact k2 S1 z X1
 have M4:lP l=match JK 32 l with
  |p0::p1::p2::ps=>if p0=sg "deed"/\p2=[58]/\ci p1=true then (l0 36 (gl [32] ps)).map λt=>(p1,t) else none
  |_=>none:=rfl
 by_cases h0:(JK 32 l).headD []=sg "deed"
 .rw[h0,show decide (ofL (sg "deed")=Str.ofString "deed")=true from U1 (eI _)]
  simp only[VW,UR,Vx]
  refine M0 (i:=2) e1 ?_
  simp only[bo,WB]
  by_cases h2:((JK 32 l).drop 2).headD []=[58]
  .rw[h2,show decide (ofL [58]=Str.ofString ":")=true from U1 rfl]
   simp only[VW,UR,Vx,aJ]
   refine hN _ _ (mI ?_)
   cases e:JK 32 l with
   |nil=>exact absurd e (Ko 32 l)
   |cons p0 W=>
    cases W with
    |nil=>rw[e]at h2;cases h2
    |cons p1 W=>
     cases W with
     |nil=>rw[e]at h2;cases h2
     |cons p2 ps=>
      rw[e]at h0 h2 e1
      have h0:p0=sg "deed":=h0
      have h2:p2=[58]:=h2
      have w1:=hl.word (w:=p1) (by rw[e];simp)
      have hps:Eu (gl [32] ps):=TF.ok (RF.tf (TM.sub hl (W:=ps) (by rw[e];exact((VG _ _).trans (VG _ _)).trans (VG _ _))))
      have Ul:(ps.map f1).sum<=10001:=tw hps.len
      simp only[bG,al,aR,am,v3,lk,c3,az,e1,UE,DX]
      refine Lf w1.1 w1.2 (λS2 X2 hn=>?_) λS2 X2 hn=>k2 S2 (by rw[M4,e];exact if_neg λz=>by rw[z.2.2]at hn;cases hn) (X1.trans X2)
      have e2:=X2 _ _ e1
      simp only[bL,c3,gC,al,aA,v3,lk,cz,de,cK,e2,VQ]
      intro p3 hp3
      rw[show cu ((p0::p1::p2::ps).map ofL |>.map PV.str) (some 3) none=ps.map λw=>PV.str (ofL w)from by
       rw[show(some (3:Int))=some ((3:Nat):Int)from rfl,d9];simp]
      refine iU aa (by omega) ?_
      refine Nj hps (λt S4 h4 X4=>?_) λS4 h4 X4=>?_
      .exact k1 (p1,t) S4 (by rw[M4,e];show(if _ then _ else _)=_;rw[if_pos ⟨h0,h2,hn⟩,h4];rfl) (X1.trans (X2.trans ((Ext.new hp3).trans X4)))
      .exact k2 S4 (by rw[M4,e];show(if _ then _ else _)=_;rw[if_pos ⟨h0,h2,hn⟩,h4];rfl) (X1.trans (X2.trans ((Ext.new hp3).trans X4)))
  .rw[show decide (ofL (((JK 32 l).drop 2).headD [])=Str.ofString ":")=false from UO λz=>h2 (U4 sg z)]
   simp only[V4,VL]
   refine bad ?_
   rw[M4]
   split
   .rename_i p0 p1 p2 ps e
    rw[e]at h2
    exact if_neg λz=>h2 z.2.1
   .rfl
 .rw[show decide (ofL ((JK 32 l).headD [])=Str.ofString "deed")=false from UO λz=>h0 (U4 sg z)]
  simp only[V4,VL]
  refine bad ?_
  rw[M4]
  split
  .rename_i p0 p1 p2 ps e
   rw[e]at h0
   exact if_neg λz=>h0 z.1
  .rfl
structure TH(l:List Nat):Prop where
 len:l.length<=80000
 row:∀r∈JK 10 l,RF r
 few:(JK 10 l).length<=28
def Hi{n:Nat}(h:n < 1000):n < sizeLine:=UU h (by decide)
abbrev yS(w:aF):Prop:=∀{S:aq}{l:List Nat}{Q:bP}{E:cq},TH l->(∀js qs S',hrd l = .inr (js,qs)->Ext S S'->Q (GX js qs) S')->(∀n S',hrd l = .inl n->Ext S S'->E (Hf n) [] S')->w [.str (ofL l)] S Q E
def Be{S:aq}{qs:List (List Nat×Bd)}(h:∀q∈qs,ci q.1=true/\VB q.2):∀v∈qs.map Op,∃d,Dat S v d/\d.canLay0=true:=by
 intro v hv
 obtain⟨q,hq,rfl⟩:=Vf.mp hv
 refine cp λw hw=>?_
 simp only[UI,UW,Vy]at hw
 rcases hw with rfl|rfl
 .exact JX (yx (h q hq).1)
 .exact eQ q.2 (h q hq).2
def EQ{r:List Nat}{q:List Nat×Bd}(h:lP r=some q):ci q.1=true/\VB q.2:=by
 unfold lP at h
 split at h
 .split at h
  .rename_i z
   cases e:l0 36 (gl [32] _)with
   |none=>rw[e]at h;cases h
   |some t=>rw[e]at h;cases h;exact⟨z.2.2,(nY e).1⟩
  .cases h
 .cases h
def Bf{S:aq}{a b:Addr}{vs:List PV}{Q:bP}(ha:S a=some (.lst vs))(hb:S b=some (.lst []))(h:∀v∈vs,∃d,Dat S v d/\d.canLay0=true)(q:Q (.bl vs.isEmpty) S):bo false (.ref a) (.ref b) S Q:=by
 obtain⟨ds,g1,g2⟩:=kj vs h
 refine⟨.list ds,.list [],.ref ha g1,.ref hb .nil,g2,rfl,UN (Yc _ _) (by decide),?_⟩
 have e:(PyData.list ds).eqv (.list [])=vs.isEmpty:=by
  cases g1 with
  |nil=>rfl
  |cons _ _=>rfl
 rw[e]
 simpa using q
def tE{done rest:List PV}{x:PV}{a:Int}{n:Nat}(e:bM a n=done++x::rest):x = .int (a+done.length)/\done.length < n:=by
 have hl:=U4 List.length e
 rw[bA,UK,UQ]at hl
 refine⟨?_,by omega⟩
 have:=U4 (λl=>l[done.length]?) e
 simp only[Wj (UH _),Nat.sub_self,List.getElem?_cons_zero]at this
 rw[show(bM a n)[done.length]?=some (.int (a+done.length))from by unfold bM;rw[U7,Xs (by omega)];rfl]at this
 cases this;rfl
def yT{xj xd:aF}(RX:Cf xj)(Pz:Cg xd):yS (dr 5 (eL xj xd)):=by
 intro S l Q E hl k1 k2
 have hsl:=hl.few
 have Qt:=hl.len
 unfold eL
 show(ae _ _) _ (aB 5 [PV.str (ofL l)]) S
 rw[show aB 5 [PV.str (ofL l)]=[some (.str (ofL l)),none,none,none,none] from rfl]
 walk_at "5"
 simp only[ap,bL,v3,lk,gC,al,c3,VQ]
 rw[show(Str.ofString "\n")=⟨#[10]⟩from rfl]
 refine dJ (by omega) λp hp=>?_
 rw[lJ]
 have X1:=Ext.new (o:=.lst ((JK 10 l).map λw=>PV.str (ofL w))) hp
 have e1:JH S p (.lst ((JK 10 l).map λw=>PV.str (ofL w))) p=some (.lst ((JK 10 l).map λw=>PV.str (ofL w))):=aa
 generalize JH S p (.lst ((JK 10 l).map λw=>PV.str (ofL w)))=S1 at X1 e1
 walk_at "1"
 walk_at "0"
 have Nk:=hl.row
 unfold hrd at k1 k2
 cases e:JK 10 l with
 |nil=>exact absurd e (Ko 10 l)
 |cons r rs=>
  rw[e]at e1 k1 k2 Nk hsl
  rw[UQ]at hsl
  dsimp only at k1 k2
  simp only[ap,aR,al,am,v3,lk,c3,az,e1,UE,rc]
  refine RX (Nk r (by simp)) (λjs S2 hj X2=>?_) λS2 hj X2=>?_
  .rw[hj]at k1 k2
   dsimp only at k1 k2
   have e2:=X2 _ _ e1
   walk_at "1"
   walk_at "0"
   simp only[ap,aS,al]
   intro pd M9
   have X3:=Ext.new (o:=.lst []) M9
   have e3:=X3 _ _ e2
   have RY:p≠pd:=λz=>by rw[z,M9]at e2;cases e2
   have f3:JH S2 pd (.lst []) pd=some (.lst []):=aa
   have SM:Ext S (JH S2 pd (.lst [])):=X1.trans (X2.trans X3)
   have hS2:S pd=none:=(X1.trans X2).free M9
   generalize JH S2 pd (.lst [])=S3 at X3 e3 f3 SM
   walk_at "1"
   walk_at "0"
   simp only[cH,pD,c3,af,al,v3,lk,aT,cJ,e3,List.length_cons,UJ]
   refine⟨⟨by decide,by decide,by omega,by omega⟩,?_⟩
   rw[show((((rs.length+1:Nat):Int)) - 1).toNat=rs.length from by omega]
   refine cf (λdone σ S'=>∃qs x4,(rs.take done.length).map lP=qs.map some/\S' pd=some (.lst (qs.map Op))/\S' p=some (.lst (.str (ofL r)::rs.map λw=>PV.str (ofL w)))/\Ext S S'/\σ=[some (.str (ofL l)),some (.ref p),some (.tup (js.map λj=>.str (ofL j))),some (.ref pd),x4]) ⟨[],_,rfl,f3,e3,SM,rfl⟩ (λ_ _ _ _=>trivial) ?_ ?_
   .rintro done x rest σ S4 K en ⟨qs,x4,hq,OP,ON,X4,rfl⟩ hK
    obtain⟨rfl,hlt⟩:=tE en
    have hr:=U9 (l:=rs) (i:=done.length) hlt
    generalize rs[done.length]=r1 at hr
    have RZ:RF r1:=Nk r1 (UP _ (VC hr))
    have ql:qs.length=done.length:=by
     have:=U4 List.length hq
     rw[UJ,UJ,VH]at this
     omega
    simp only[Tg.put,List.set_cons_zero,List.set_cons_succ,qZ,bh,bL,v3,lk,gC,OP,al,aR,am,az,ON,VQ]
    rw[show Kn (PV.str (ofL r)::rs.map λw=>PV.str (ofL w)) (1+(done.length:Int))=some (.str (ofL r1))from by
     rw[show(1+(done.length:Int))=((done.length+1:Nat):Int)from by omega]
     exact b6 (by rw[List.getElem?_cons_succ,U7,hr];rfl)]
    dsimp only
    refine Pz RZ (λq S5 R4 X5=>?_) λS5 R4 X5=>⟨by decide,?_⟩
    .have f5:=X5 _ _ OP
     simp only[aI,f5]
     refine⟨Hi (by rw[UJ];omega),?_⟩
     refine hK _ _ ⟨qs++[q],_,?_,by rw[aa,U5];rfl,?_,?_,rfl⟩
     .rw[UK,V2,Yy,hr]
      simp only[Option.toList,U5,UE,Ve,hq,R4]
     .rw[aj RY];exact X5 _ _ ON
     .intro a o ha
      rw[aj (λz=>by rw[z,hS2]at ha;cases ha)]
      exact X5 _ _ (X4 _ _ ha)
    .simp only[bd,al,v3,lk]
     have hb:=tD (post:=rs.drop (done.length+1)) 1 hq R4
     rw[VH,WK (by omega)]at hb
     have NW:rs.take done.length++r1::rs.drop (done.length+1)=rs:=by
      have:=VJ done.length rs
      rw[V7 hlt]at this
      rw[U9 hlt]at hr
      cases hr
      exact this
     rw[NW]at hb
     have:=k2 (1+done.length) S5 (by rw[hb]) (X4.trans X5)
     exact this
   .rintro σ S4 ⟨qs,x4,hq,OP,ON,X4,rfl⟩
    rw[bA,W0]at hq
    have hds:=tz 1 hq
    rw[hds]at k1 k2
    dsimp only at k1 k2
    have ql:qs.length=rs.length:=by
     have:=U4 List.length hq
     simpa using this.symm
    have ok:∀q∈qs,ci q.1=true/\VB q.2:=λq hq'=>by
     have:some q∈rs.map lP:=by rw[hq];exact Vf.mpr ⟨q,hq',rfl⟩
     obtain⟨r',-,hr'⟩:=Vf.mp this
     exact EQ hr'
    walk_at "0"
    simp only[a_,aH,am,v3,lk,aS,al]
    intro p5 Nw
    have X5:=Ext.new (o:=.lst []) Nw
    have f5:=X5 _ _ OP
    refine Bf f5 aa (Be ok) ?_
    generalize JH S4 p5 (.lst [])=S5 at X5 f5
    by_cases hn:rs=[]
    .subst hn
     have:qs=[]:=Vi.mp ql
     subst this
     simp only[Ve,List.isEmpty_nil,VL,bd,al,c3]
     exact k2 1 S5 (if_pos rfl) (X4.trans X5)
    .rw[if_neg hn]at k1
     have hne:(qs.map Op).isEmpty=false:=by
      rw[Xq]
      intro z
      rw[List.map_eq_nil_iff]at z
      rw[z]at ql
      exact hn (Vi.mp ql.symm)
     rw[hne]
     simp only[UR,Vx,aJ]
     refine hN _ _ ?_
     simp only[ax,bG,al,v3,lk,af,bC,cJ,f5]
     exact k1 js qs S5 rfl (X4.trans X5)
  .rw[hj]at k2
   exact k2 0 S2 rfl (X1.trans X2)
def Bg:l0 36 []=none:=by
 cases e:l0 36 []with
 |none=>rfl
 |some t=>
  obtain⟨-,h⟩:=nY e
  cases t with
  |rest=>exact absurd h (by decide +kernel)
  |_=>rw[tx]at h;cases h
noncomputable def IJ:Option (List Nat×Bd)->PV
 |none=>.non
 |some q=>Op q
abbrev yU(w:aF):Prop:=∀{S:aq}{l:List Nat}{Q:bP}{E:cq},RF l->(∀S',Ext S S'->Q (IJ (lP l)) S')->w [.str (ofL l)] S Q E
def yV{xn xb:aF}(Lf:mM xn)(Nj:yK xb):yU (bV 3 (cV xn xb)):=by
 intro S l Q E hl k
 have hsl:=eP 32 l
 have Qt:=hl.len
 unfold cV
 refine j2 ?_
 rw[show aB 3 [PV.str (ofL l)]=[some (.str (ofL l)),none,none] from rfl]
 walk_at "5"
 simp only[ap,bL,v3,lk,gC,al,c3,VQ]
 rw[show(Str.ofString " ")=⟨#[32]⟩from rfl]
 refine dJ (by omega) λp hp=>?_
 rw[lJ]
 have X1:=Ext.new (o:=.lst ((JK 32 l).map λw=>PV.str (ofL w))) hp
 have e1:JH S p (.lst ((JK 32 l).map λw=>PV.str (ofL w))) p=some (.lst ((JK 32 l).map λw=>PV.str (ofL w))):=aa
 generalize JH S p (.lst ((JK 32 l).map λw=>PV.str (ofL w)))=S1 at X1 e1
 walk_at "1"
 walk_at "0"
 have M4:lP l=match JK 32 l with
  |p0::p1::p2::ps=>if p0=sg "deed"/\p2=[58]/\ci p1=true then (l0 36 (gl [32] ps)).map λt=>(p1,t) else none
  |_=>none:=rfl
 have none_:∀S',Ext S1 S'->lP l=none->Q .non S':=λS' X' z=>by
  have:=k S' (X1.trans X')
  rw[z]at this
  exact this
 simp only[a_,fc,eZ,aH,am,af,al,v3,lk,c3,aT,cJ,e1,UJ,my,e9,UY]
 by_cases h4:((JK 32 l).length:Int) < 4
 .rw[if_pos h4]
  simp only[VL,ax,c3]
  refine none_ S1 .refl ?_
  rw[M4]
  split
  .rename_i p0 p1 p2 ps e
   rw[e]at h4
   simp only[List.length_cons]at h4
   have:ps=[]:=Vi.mp (by omega)
   subst this
   rw[show gl [32] []=[] from rfl,Bg]
   split<;>rfl
  .rfl
 .rw[if_neg h4]
  obtain⟨p0,p1,p2,ps,e⟩:∃p0 p1 p2 ps,JK 32 l=p0::p1::p2::ps:=by
   match h:JK 32 l with
   |p0::p1::p2::ps=>exact⟨p0,p1,p2,ps,rfl⟩
   |[]=>rw[h]at h4;simp at h4
   |[_]=>rw[h]at h4;simp at h4
   |[_,_]=>rw[h]at h4;simp at h4
  rw[e]at M4 e1
  dsimp only at M4
  have w1:=hl.word (w:=p1) (by rw[e];simp)
  have Qw:TF (gl [32] ps):=RF.tf (TM.sub hl (W:=ps) (by rw[e];exact((VG _ _).trans (VG _ _)).trans (VG _ _)))
  have Ul:(ps.map f1).sum<=10001:=tw Qw.len
  simp only[az,e1,UE,rc,DX,IY,bo,WB]
  by_cases h0:p0=sg "deed"
  .rw[h0,show decide (ofL (sg "deed")=Str.ofString "deed")=true from U1 (eI _)]
   simp only[VW,UR,Vx]
   by_cases h2:p2=[58]
   .rw[h2,show decide (ofL [58]=Str.ofString ":")=true from U1 rfl]
    simp only[VW,UR,Vx,ak,al,am,v3,lk,c3,az,e1,UE,DX]
    refine Lf w1.1 w1.2 λS2 X2=>?_
    have e2:=X2 _ _ e1
    cases hn:ci p1 with
    |false=>
     simp only[V4,VL,ax,c3]
     exact none_ S2 X2 (by rw[M4];exact if_neg λz=>by rw[z.2.2]at hn;cases hn)
    |true=>
     simp only[VW,UR,Vx,aJ]
     rw[if_pos ⟨h0,h2,hn⟩]at M4
     walk_at "0"
     simp only[ap,ak,al,bL,c3,gC,aA,v3,lk,cz,de,cK,e2,VQ]
     intro p3 hp3
     rw[show cu ((p0::p1::p2::ps).map λw=>PV.str (ofL w)) (some 3) none=ps.map λw=>PV.str (ofL w)from by
       rw[show(some (3:Int))=some ((3:Nat):Int)from rfl,d9];rfl]
     have X3:=X2.trans (Ext.new (o:=.lst (ps.map λw=>PV.str (ofL w))) hp3)
     have e3:=(Ext.new (o:=.lst (ps.map λw=>PV.str (ofL w))) hp3) _ _ e2
     refine iU aa (by omega) ?_
     refine Nj Qw λS4 X4=>?_
     rw[xR Qw.ok.cnt]
     have e4:=X4 _ _ e3
     walk_at "1"
     walk_at "0"
     cases er:l0 36 (gl [32] ps)with
     |none=>
      rw[er]at M4
      rw[show B6 none = .non from rfl]
      simp only[a_,aH,am,v3,lk,c3,pA,U6,VL,ax]
      exact none_ S4 (X3.trans X4) M4
     |some t=>
      rw[er]at M4
      rw[show B6 (some t)=t.pv from rfl]
      have nv:pA false t.pv .non S4=λQ=>Q (.bl false) S4:=by rw[Bd.Mt];rfl
      simp only[a_,aH,am,v3,lk,c3]
      rw[nv]
      dsimp only
      simp only[UR,Vx,aJ]
      refine hN _ _ ?_
      simp only[ax,bG,al,am,v3,lk,c3,az,e4,UE,DX]
      have:=k S4 (X1.trans (X3.trans X4))
      rw[M4]at this
      exact this
   .rw[show decide (ofL p2=Str.ofString ":")=false from UO λz=>h2 (U4 sg z)]
    simp only[V4,VL,ax,c3]
    exact none_ S1 .refl (by rw[M4];exact if_neg λz=>h2 z.2.1)
  .rw[show decide (ofL p0=Str.ofString "deed")=false from UO λz=>h0 (U4 sg z)]
   simp only[V4,VL,ax,c3]
   exact none_ S1 .refl (by rw[M4];exact if_neg λz=>h0 z.1)
noncomputable def Fd:Nat ⊕ (List (List Nat)×List (List Nat×Bd))->PV
 | .inl n=>.int n
 | .inr q=>GX q.1 q.2
abbrev yW(w:aF):Prop:=∀{S:aq}{l:List Nat}{Q:bP}{E:cq},TH l->(∀S',Ext S S'->Q (Fd (hrd l)) S')->w [.str (ofL l)] S Q E
def Bh(bs:List Bool){S:aq}{a:Addr}{Q:bP}(ha:S a=some (.lst (bs.map PV.bl)))(k:Q (.bl (bs.all id)) S):nr [.ref a] S Q:=by
 have e:jI (bs.map PV.bl)=some bs:=by have:=gv id bs;simpa using this
 simp only[nr,ha,e]
 exact k
def Bi{xn xd:aF}(Lf:mM xn)(Pz:yU xd):yW (bV 6 (hG xn xd)):=by
 intro S l Q E hl k
 have hsl:=hl.few
 have Qt:=hl.len
 unfold hG
 refine j2 ?_
 rw[show aB 6 [PV.str (ofL l)]=[some (.str (ofL l)),none,none,none,none,none] from rfl]
 walk_at "5"
 simp only[ap,bL,v3,lk,gC,al,c3,VQ]
 rw[show(Str.ofString "\n")=⟨#[10]⟩from rfl]
 refine dJ (by omega) λp hp=>?_
 rw[lJ]
 have X1:=Ext.new (o:=.lst ((JK 10 l).map λw=>PV.str (ofL w))) hp
 have e1:JH S p (.lst ((JK 10 l).map λw=>PV.str (ofL w))) p=some (.lst ((JK 10 l).map λw=>PV.str (ofL w))):=aa
 generalize JH S p (.lst ((JK 10 l).map λw=>PV.str (ofL w)))=S1 at X1 e1
 walk_at "1"
 walk_at "0"
 have Nk:=hl.row
 unfold hrd at k
 cases e:JK 10 l with
 |nil=>exact absurd e (Ko 10 l)
 |cons r rs=>
  rw[e]at e1 k Nk hsl
  rw[UQ]at hsl
  dsimp only at k
  have rr:=Nk r (by simp)
  have hs2:=eP 32 r
  have hr2:=rr.len
  simp only[ap,bL,al,am,v3,lk,c3,az,e1,UE,rc,gC,VQ]
  rw[show(Str.ofString " ")=⟨#[32]⟩from rfl]
  refine dJ (by omega) λp2 hp2=>?_
  rw[lJ]
  have X2:=Ext.new (o:=.lst ((JK 32 r).map λw=>PV.str (ofL w))) hp2
  have f2:JH S1 p2 (.lst ((JK 32 r).map λw=>PV.str (ofL w))) p2=some (.lst ((JK 32 r).map λw=>PV.str (ofL w))):=aa
  generalize JH S1 p2 (.lst ((JK 32 r).map λw=>PV.str (ofL w)))=S2 at X2 f2
  have e2:=X2 _ _ e1
  walk_at "1"
  walk_at "0"
  have hw0:=λw hw=>rr.word (w:=w) hw
  unfold Fc at k
  cases ew:JK 32 r with
  |nil=>exact absurd ew (Ko 32 r)
  |cons w ws=>
   rw[ew]at f2 k hw0 hs2
   rw[UQ]at hs2
   dsimp only at k
   simp only[a_,fc,eZ,aH,am,v3,lk,c3,az,f2,UE,rc,bo,WB]
   by_cases h0:w=sg "jars"
   .subst h0
    rw[show decide (ofL (sg "jars")=Str.ofString "jars")=true from U1 (eI _)]
    simp only[VW,UR,Vx,af,al,bU,bE,aA,v3,lk,cz,de,c3,cK,f2,UE]
    intro p3 hp3
    rw[sY]
    have X3:=Ext.new (o:=.lst (ws.map λw=>PV.str (ofL w))) hp3
    have f3:JH S2 p3 (.lst (ws.map λw=>PV.str (ofL w))) p3=some (.lst (ws.map λw=>PV.str (ofL w))):=aa
    generalize JH S2 p3 (.lst (ws.map λw=>PV.str (ofL w)))=S3 at X3 f3
    simp only[eR,f3]
    refine jx (S0:=S3) (λw=>PV.str (ofL w)) (λw=>PV.bl (ci w)) (λS' X'=>X' _ _ f3) ws [] S3 .refl (by simp;omega) (λx hx S4 X4=>⟨_,rfl,λK kk=>?_⟩) λS4 X4 p5 Nw=>?_
    .simp only[ak,al,v3,lk]
     obtain⟨g1,g2⟩:=hw0 x (by simp[hx])
     exact Lf g1 g2 λS5 X5=>kk S5 X5
    .rw[VT]
     have X5:=X3.trans (X4.trans (Ext.new (o:=.lst (ws.map λw=>PV.bl (ci w))) Nw))
     refine Bh (ws.map ci) (by rw[aa,VF];rfl) ?_
     generalize JH S4 p5 (.lst (ws.map λw=>PV.bl (ci w)))=S5 at X5
     rw[show(ws.map ci).all id=ws.all ci from by rw[List.all_map];rfl]
     cases ha:ws.all ci with
     |false=>
      rw[if_neg (λz=>by rw[z.2]at ha;cases ha)]at k
      simp only[V4,VL,ax,c3]
      exact k S5 (X1.trans (X2.trans X5))
     |true=>
      rw[if_pos ⟨rfl,ha⟩]at k
      dsimp only at k
      simp only[VW,UR,Vx,aJ]
      walk_at "0"
      have e5:=X5 _ _ e2
      have w5:=X5 _ _ f2
      simp only[ap,aS,al]
      intro pd M9
      have X6:=Ext.new (o:=.lst []) M9
      have RY:p≠pd:=λz=>by rw[z,M9]at e5;cases e5
      have R5:p2≠pd:=λz=>by rw[z,M9]at w5;cases w5
      have f6:JH S5 pd (.lst []) pd=some (.lst []):=aa
      have e6:=X6 _ _ e5
      have w6:=X6 _ _ w5
      have SN:Ext S (JH S5 pd (.lst [])):=X1.trans (X2.trans (X5.trans X6))
      have hS2:S pd=none:=(X1.trans (X2.trans X5)).free M9
      generalize JH S5 pd (.lst [])=S6 at X6 e6 f6 SN w6
      walk_at "1"
      walk_at "0"
      simp only[cH,pD,c3,af,al,v3,lk,aT,cJ,e6,List.length_cons,UJ]
      refine⟨⟨by decide,by decide,by omega,by omega⟩,?_⟩
      rw[show((((rs.length+1:Nat):Int)) - 1).toNat=rs.length from by omega]
      refine cf (λdone σ S'=>∃qs x4 x5,(rs.take done.length).map lP=qs.map some/\S' pd=some (.lst (qs.map Op))/\S' p=some (.lst (.str (ofL r)::rs.map λw=>PV.str (ofL w)))/\S' p2=some (.lst (.str (ofL (sg "jars"))::ws.map λw=>PV.str (ofL w)))/\Ext S S'/\σ=[some (.str (ofL l)),some (.ref p),some (.ref p2),some (.ref pd),x4,x5]) ⟨[],_,_,rfl,f6,e6,w6,SN,rfl⟩ (λ_ _ _ _=>trivial) ?_ ?_
      .rintro done x rest σ S7 K en ⟨qs,x4,x5,hq,OQ,OW,R6,X7,rfl⟩ hK
       obtain⟨rfl,hlt⟩:=tE en
       have hr:=U9 (l:=rs) (i:=done.length) hlt
       generalize rs[done.length]=r1 at hr
       have RZ:RF r1:=Nk r1 (UP _ (VC hr))
       have ql:qs.length=done.length:=by
        have:=U4 List.length hq
        rw[UJ,UJ,VH]at this
        omega
       simp only[Tg.put,List.set_cons_zero,List.set_cons_succ]
       refine ar λN2 M1=>?_
       simp only[ap,ak,al,am,v3,lk,az,OW]
       rw[show Kn (PV.str (ofL r)::rs.map λw=>PV.str (ofL w)) (1+(done.length:Int))=some (.str (ofL r1))from by
        rw[show(1+(done.length:Int))=((done.length+1:Nat):Int)from by omega]
        exact b6 (by rw[List.getElem?_cons_succ,U7,hr];rfl)]
       dsimp only
       refine Pz RZ λS8 X8=>?_
       walk_at "1"
       refine M1 _ _ (ar λN3 Pv=>?_)
       cases hd:lP r1 with
       |none=>
        rw[show IJ none = .non from rfl]
        simp only[a_,aH,am,v3,lk,c3,pA,U6,VL,ax]
        have hb:=tD (post:=rs.drop (done.length+1)) 1 hq hd
        rw[VH,WK (by omega)]at hb
        have NW:rs.take done.length++r1::rs.drop (done.length+1)=rs:=by
         have:=VJ done.length rs
         rw[V7 hlt]at this
         rw[U9 hlt]at hr
         cases hr
         exact this
        rw[NW]at hb
        rw[hb]at k
        exact k S8 (X7.trans X8)
       |some q=>
        rw[show IJ (some q)=Op q from rfl]
        simp only[a_,aH,am,v3,lk,c3,pA,Op,U6,UR,Vx,aJ]
        have f8:=X8 _ _ OQ
        refine Pv _ _ ?_
        simp only[bh,bL,v3,lk,gC,f8,al,aI,VQ]
        refine⟨Hi (by rw[UJ];omega),?_⟩
        refine hK _ _ ⟨qs++[q],_,_,?_,by rw[aa,U5];rfl,?_,?_,?_,rfl⟩
        .rw[UK,V2,Yy,hr]
         simp only[Option.toList,U5,UE,Ve,hq,hd]
        .rw[aj RY];exact X8 _ _ OW
        .rw[aj R5];exact X8 _ _ R6
        .intro a o ha
         rw[aj (λz=>by rw[z,hS2]at ha;cases ha)]
         exact X8 _ _ (X7 _ _ ha)
      .rintro σ S7 ⟨qs,x4,x5,hq,OQ,OW,R6,X7,rfl⟩
       rw[bA,W0]at hq
       have hds:=tz 1 hq
       rw[hds]at k
       dsimp only at k
       have ql:qs.length=rs.length:=by
        have:=U4 List.length hq
        simpa using this.symm
       walk_at "0"
       simp only[a_,aH,am,af,al,v3,lk,c3,aT,cJ,OQ,UJ,bo,U6,UY]
       by_cases hn:rs=[]
       .subst hn
        have:qs=[]:=Vi.mp ql
        subst this
        rw[if_pos rfl]at k
        rw[if_pos (show((([]:List (List Nat×Bd)).length:Nat):Int)=0 from rfl)]
        simp only[ax,af,al,v3,lk,aT,cJ,OW]
        exact k S7 X7
       .rw[if_neg hn]at k
        rw[if_neg (λz=>hn (Vi.mp (by omega)))]
        simp only[aJ]
        refine hN _ _ ?_
        simp only[ax,bG,al,af,aA,v3,lk,cz,de,c3,cK,R6]
        intro p8 hp8
        rw[sY]
        have f8:=(Ext.new (o:=.lst (ws.map λw=>PV.str (ofL w))) hp8) _ _ OQ
        simp only[bC,cJ,aa,f8]
        exact k _ (X7.trans (Ext.new hp8))
   .rw[show decide (ofL w=Str.ofString "jars")=false from UO λz=>h0 (U4 sg z)]
    rw[if_neg (λz=>h0 z.1)]at k
    simp only[V4,VL,ax,c3]
    exact k S2 (X1.trans X2)
noncomputable def IK:Nat ⊕ (List (List Nat)×List (List Nat×Bd))->PV
 | .inl n=>.tup [.str "refused",.int n]
 | .inr q=>.tup [.str "told",GX q.1 q.2]
abbrev rL(w:aF):Prop:=∀{S:aq}{l:List Nat}{Q:bP}{E:cq},TH l->(∀S',Ext S S'->Q (IK (hrd l)) S')->w [.str (ofL l)] S Q E
def yX{x0 x1:aF}(Nj:yS x0)(R7:yh x1):rL (bV 3 (fZ x0 x1)):=by
 intro S l Q E hl k
 unfold fZ
 refine j2 ?_
 rw[show aB 3 [PV.str (ofL l)]=[some (.str (ofL l)),none,none] from rfl]
 walk_at "5"
 simp only[Au,ap,bG,aR,al,v3,c3,lk]
 refine Nj hl (λjs qs S1 hf X1=>?_) λn S1 hf X1=>⟨by decide,?_⟩
 .have:=k S1 X1
  rw[hf]at this
  walk_at "y"
  refine hN _ _ ?_
  walk_at "y"
  exact this
 .walk_at "x"
  refine R7 ?_
  have:=k S1 X1
  rw[hf]at this
  refine hN _ _ ?_
  walk_at "y"
  exact this
noncomputable def Bj(c:Nat):Bool:=c == 10
structure NM(b B:Nat)(l:List Nat):Prop where
 br:Rn gF Bj b 0 l
 ct:l.count 10<=B
def NM.mono{b B b' B':Nat}{l:List Nat}(h:NM b B l)(h3:b<=b')(h4:B<=B'):NM b' B' l:=⟨bn h.br h3 (by omega),UN h.ct h4⟩
def NM.sign{b B i j:Nat}{l s:List Nat}(h:NM b B l)(hs:s.length<=1)(hij:i<=j):NM (2 * b+1) (B+1) (l.take i++s++l.drop j):=by
 have rs:∀{se cn:Nat->Bool},Rn se cn 1 0 s:=by
  intro se cn
  match s,hs with
  |[],_=>rw[Rn];trivial
  |[c],_=>exact yD (UH _)
 refine⟨jy (jy (gy i h.br) rs (UH _)) (iS j h.br) (by omega),?_⟩
 have e1:l.count 10=(l.take i).count 10+(l.drop i).count 10:=by rw[<-Vb,VJ]
 have e2:(l.drop j).count 10<=(l.drop i).count 10:=by
  obtain⟨k,rfl⟩:=Nat.le.dest hij
  rw[<-XW]
  exact(XX _ _).count_le _
 have e3:s.count 10<=1:=UN List.count_le_length hs
 have:=h.ct
 rw[Vb,Vb]
 omega
theorem NM.take{b B i:Nat}{l:List Nat}(h:NM b B l):NM b B (l.take i):=⟨gy i h.br,UN ((Yz _ _).count_le _) h.ct⟩
theorem TM.take{n m b B i:Nat}{l:List Nat}(h:TM n m b B l):TM n m b B (l.take i):=⟨UN (by simp;omega) h.len,λc hc=>h.vd c (VN hc),gy i h.ru,gy i h.br,UN ((Yz _ _).count_le _) h.ct⟩
noncomputable def qq(w:List Nat):Nat:=w.count 10
theorem rM:∀W:List (List Nat),(gl [32] W).count 10=(W.map qq).sum
 |[]=>rfl
 |[p]=>by rw[bv];simp[qq]
 |p::q::W=>by
  have:=rM (q::W)
  rw[aX [32] p (by simp),UE,VU,<-this]
  simp only[Vb,qq]
  rw[show[32].count 10=0 from by decide]
  omega
theorem rN{b:Nat}:∀{k:Nat}{w:List Nat},32 ∉ w->Rn gF Bj b k w->k<=b->k+w.count 10<=b
 |k,[],_,_,h=>by simpa using h
 |k,c::w,h1,h2,h3=>by
  rw[Rn]at h2
  have hc:¬gF c=true:=λe=>by
   have:c=32:=by simpa [gF]using e
   exact h1 (by rw[this];simp)
  rw[if_neg hc]at h2
  by_cases h4:Bj c=true
  .rw[if_pos h4]at h2
   have e:c=10:=by simpa [Bj]using h4
   have:=rN (λh=>h1 (UP _ h)) h2.2 h2.1
   rw[e,VM]
   omega
  .rw[if_neg h4]at h2
   have e:c≠10:=by simpa [Bj]using h4
   rw[WH e]
   exact rN (λh=>h1 (UP _ h)) h2 h3
def Ch{b B:Nat}{l w:List Nat}(h:NM b B l)(hw:w∈JK 32 l):Rn gF Bj b 0 w/\qq w<=b:=by
 have h2:=h.br
 rw[<-dR 32 l]at h2
 have r2:=(dL (by decide) _).mp h2 w hw
 have:=rN (oB 32 l w hw) r2 (UZ _)
 exact⟨r2,by show w.count 10<=b;omega⟩
def yY:∀z∈lits,(sg z).count 10=0:=by decide +kernel
def iV{b B:Nat}{l:List Nat}(h:NM b B l){W:Ws}(hw:∀w∈W,w∈JK 32 l\/ofL w∈lits)(h2:(W.map qq).sum<=((JK 32 l).map qq).sum+b):NM (2 * b+1) (B+b+1) (gl [32] W):=by
 have ec:=rM (JK 32 l)
 rw[dR 32 l]at ec
 have hc:=h.ct
 refine⟨(dL (by decide) W).mpr λw hw'=>?_,by rw[rM W];omega⟩
 rcases hw w hw' with z|z
 .exact bn (Ch h z).1 (by omega) (by omega)
 .refine lL λc hc=>?_
  have:=yY _ z
  rw[show sg (ofL w)=w from rfl]at this
  rw[List.count_eq_zero]at this
  simp only[Bj,WU]
  exact λe=>this (e▸hc)
section
variable {b B:Nat}{l:List Nat}
def ER(h:NM b B l)(i:Nat):NM (2 * b+1) (B+b+1) (gl [32] ((JK 32 l).take i++(JK 32 l).drop (i+1))):=by
 have d:(((JK 32 l).drop (i+1)).map qq).sum<=(((JK 32 l).drop i).map qq).sum:=by
  rw[show(JK 32 l).drop (i+1)=((JK 32 l).drop i).drop 1 from by rw[XW]]
  cases (JK 32 l).drop i with
  |nil=>simp
  |cons a W=>simp
 refine iV h (λw hw=>?_) ?_
 .rcases UT.mp hw with hw|hw
  .exact .inl (VN hw)
  .exact .inl (VX hw)
 .rw[U5,WL];have:=df (f:=qq) (JK 32 l) i;omega
def ES(h:NM b B l){i:Nat}{w:List Nat}(hi:(JK 32 l)[i]?=some w):NM (2 * b+1) (B+b+1) (gl [32] ((JK 32 l).take i++[w]++(JK 32 l).drop i)):=by
 have hw:=VC hi
 have a5:=(Ch h hw).2
 refine iV h (λx hx=>?_) ?_
 .rcases UT.mp hx with hx|hx
  .rcases UT.mp hx with hx|hx
   .exact .inl (VN hx)
   .rw[UM.mp hx];exact .inl hw
  .exact .inl (VX hx)
 .simp only[U5,WL,UE,Ve,List.sum_cons,List.sum_nil];have:=df (f:=qq) (JK 32 l) i;omega
def EU(h:NM b B l){i j:Nat}{v w:List Nat}(hi:(JK 32 l)[i]?=some v)(hj:(JK 32 l)[j]?=some w):NM (2 * b+1) (B+b+1) (gl [32] (((JK 32 l).set i w).set j v)):=by
 have hj':((JK 32 l).set i w)[j]?=some w:=by
  rw[Xa]
  have:=(U3.mp hi).1
  split
  .simp[this]
  .exact hj
 have s:((((JK 32 l).set i w).set j v).map qq).sum=((JK 32 l).map qq).sum:=by
  have:=dN (f:=qq) (x:=w) hi
  have:=dN (f:=qq) (x:=v) hj'
  omega
 refine iV h (λx hx=>?_) (by rw[s];omega)
 rcases d6 hx with hx|rfl
 .rcases d6 hx with hx|rfl
  .exact .inl hx
  .exact .inl (VC hj)
 .exact .inl (VC hi)
def EV(h:NM b B l){i:Nat}{v:List Nat}{z:Str}(hi:(JK 32 l)[i]?=some v)(hz:z∈lits):NM (2 * b+1) (B+b+1) (gl [32] ((JK 32 l).set i (sg z))):=by
 have a5:=yY z hz
 have c4:=dN (f:=qq) (x:=sg z) hi
 refine iV h (λx hx=>?_) ?_
 .rcases d6 hx with hx|rfl
  .exact .inl hx
  .exact .inr (by rw[eI];exact hz)
 .have:qq (sg z)=(sg z).count 10:=rfl;omega
end
abbrev oK(w:aF):Prop:=∀{S:aq}{d l:Addr}{t:List Nat}{n m b B b' B':Nat}{Q:bP}{E:cq},Deal S d l->TM n m b B t->NM b' B' t->7<=n->n<=5000->3<=m->(∀t' S',TM (2 * n+1) (2 * m+1) (2 * b+1) (B+b+1) t'->NM (2 * b'+1) (B'+b'+1) t'->Deal S' d l->Oth d l S S'->Q (.str (ofL t')) S')->w [.ref d,.str (ofL t)] S Q E
def rO{x0 x1:aF}(JJ:bW x0)(Ol:yM x1):oK (bV 10 (dW x0 x1)):=by
 intro S d l t n m b B b' B' Q E D ht hnm hn hn2 hm k
 have hl:=ht.len
 unfold dW
 refine j2 ?_
 rw[show aB 10 [PV.ref d,PV.str (ofL t)]=[some (.ref d),some (.str (ofL t)),none,none,none,none,none,none,none,none] from rfl]
 walk_at "5"
 walk_at "x"
 rw[JL]
 refine⟨ln (m:=10000) (by omega),JJ D (by omega) (by omega) λat_ S1 a0 a1 D1 O1=>?_⟩
 obtain⟨i,rfl⟩:=Vn a0
 walk_at "0"
 walk_at "x"
 refine JJ D1 (by decide) (by decide) λf S2 f0 f9 D2 O2=>?_
 have Qs:=O1.trans O2
 walk_at "0"
 simp only[ap,am,aS,al,ak,c3,v3,lk]
 refine Ol λp hp=>?_
 have dp:=D2.free hp
 refine JJ (D2.new hp) (by decide) (by decide) λr S3 r0 r1 D3 O3=>?_
 have e3:=O3 _ _ aa dp.1 dp.2
 have Um:=Qs.trans ((Oth.new hp).trans O3)
 simp only[az,e3]
 obtain⟨gs,hgs,hat,SK,P6⟩:∃gs:List Nat,(∀c∈gs,c < 256)/\Kn [PV.str (ofL sgs),PV.str (Str.ofString "() /0:9")] r=some (.str (ofL gs))/\0 < gs.length/\gs.length<=100:=by
  obtain rfl|rfl:r=0\/r=1:=by omega
  .exact⟨sgs,λc hc=>yL c (by simp[hc]),rfl,by rw[tt];decide,by rw[tt];decide⟩
  .exact⟨QX,λc hc=>yL c (by simp[hc]),by rw[show ofL QX=Str.ofString "() /0:9" from du _];rfl,by rw[tu];decide,by rw[tu];decide⟩
 rw[hat]
 walk_at "1"
 walk_at "0"
 simp only[ap,am,ak,af,al,v3,lk,aT,az]
 rw[JL]
 refine⟨ln (m:=1000) (by omega),JJ D3 (by omega) (by omega) λq S4 q0 q1 D4 O4=>?_⟩
 have Nz:=Um.trans O4
 obtain⟨j,rfl⟩:=Vn q0
 have hj:j < gs.length:=by omega
 refine⟨ln (m:=1000) (by omega),?_⟩
 have hc:=U9 hj
 rw[show Kn (ofL gs).cps.toList (j:Int)=some gs[j] from b6 (by exact hc)]
 have hc2:gs[j] < 256:=hgs _ (Xm hj)
 generalize gs[j]=c at hc2
 walk_at "1"
 walk_at "0"
 simp only[a_,aH,am,v3,lk,c3,my,e9,UY]
 by_cases h3:f < 3
 .rw[if_pos h3]
  simp only[ax,am,aA,de,cz,aS,al,v3,lk,c3,cK]
  refine⟨ln (m:=10000) (by rw[JL];omega),λp2 hp2=>?_⟩
  simp only[az,aa]
  have O5:=Nz.trans (Oth.new (o:=.lst [.str ⟨#[c]⟩,.str (Str.ofString ""),.str ⟨#[c]⟩]) hp2)
  have D5:=D4.new (o:=.lst [.str ⟨#[c]⟩,.str (Str.ofString ""),.str ⟨#[c]⟩]) hp2
  generalize JH S4 p2 (.lst [.str ⟨#[c]⟩,.str (Str.ofString ""),.str ⟨#[c]⟩])=S5 at O5 D5
  obtain⟨s,hs1,hs2,Uo⟩:∃s:List Nat,s.length<=1/\(∀x∈s,x < 256)/\Kn [PV.str ⟨#[c]⟩,PV.str (Str.ofString ""),PV.str ⟨#[c]⟩] f=some (.str (ofL s)):=by
   obtain rfl|rfl|rfl:f=0\/f=1\/f=2:=by omega
   .exact⟨[c],by simp,by simpa using hc2,rfl⟩
   .exact⟨[],by simp,by simp,rfl⟩
   .exact⟨[c],by simp,by simpa using hc2,rfl⟩
  rw[Uo]
  dsimp only
  obtain⟨j,hj,hj2⟩:∃j:Nat,i<=j/\(i:Int)+(if decide (f > 0)=true then 1 else 0)=(j:Int):=by
   by_cases h0:f > 0
   .exact⟨i+1,by omega,by rw[if_pos (U1 h0)];rfl⟩
   .exact⟨i,by omega,by rw[if_neg (by simpa using h0)];omega⟩
  rw[BU]
  simp only[aG,JL,af,al,am,v3,lk,c3,qo,e9,cr,iA]
  have l1:(t.take i).length<=t.length:=by simp;omega
  refine⟨ln (m:=10001) (by omega),ln (m:=10000) (by omega),?_⟩
  rw[hj2,AD,cZ]
  simp only[JL]
  have l2:(t.drop j).length<=t.length:=by simp
  refine⟨ln (m:=30000) (by rw[UK];omega),?_⟩
  rw[cZ]
  exact k _ _ ((ht.sign hs1 hs2 hj).mono (by omega) (by omega) (by omega) (by omega)) ((hnm.sign hs1 hj).mono (by omega) (by omega)) D5 O5
 .rw[if_neg h3]
  simp only[aJ]
  walk_at "0"
  simp only[ap,bL,v3,lk,gC,al,c3,VQ]
  rw[show(Str.ofString " ")=⟨#[32]⟩from rfl]
  refine dJ (by omega) λpw OX=>?_
  rw[lJ]
  have dw:=D4.free OX
  have Ox:S pw=none:=Nz.free OX dw.1 dw.2
  have O5:=Nz.trans (Oth.new (o:=.lst ((JK 32 t).map λw=>PV.str (ofL w))) OX)
  have D5:=D4.new (o:=.lst ((JK 32 t).map λw=>PV.str (ofL w))) OX
  have e5:JH S4 pw (.lst ((JK 32 t).map λw=>PV.str (ofL w))) pw=some (.lst ((JK 32 t).map λw=>PV.str (ofL w))):=aa
  generalize JH S4 pw (.lst ((JK 32 t).map λw=>PV.str (ofL w)))=S5 at O5 D5 e5
  walk_at "1"
  have RJ:0 < (JK 32 t).length:=List.length_pos_iff.mpr (Ko 32 t)
  have hW2:=eP 32 t
  walk_at "0"
  simp only[ap,ak,af,al,v3,lk,aT,cJ,e5,UJ]
  refine JJ D5 (by omega) (by omega) λs S6 s0 s1 D6 O6=>?_
  have e6:=O6 _ _ e5 dw.1 dw.2
  obtain⟨i1,rfl⟩:=Vn s0
  walk_at "1"
  walk_at "0"
  simp only[ap,ak,af,al,v3,lk,aT,cJ,e6,UJ]
  refine JJ D6 (by omega) (by omega) λs' S7 s0' s1' D7 O7=>?_
  have e7:=O7 _ _ e6 dw.1 dw.2
  obtain⟨i2,rfl⟩:=Vn s0'
  have O8:=O5.trans (O6.trans O7)
  walk_at "1"
  walk_at "0"
  have hi1:=U9 (l:=JK 32 t) (i:=i1) (by omega)
  have hi2:=U9 (l:=JK 32 t) (i:=i2) (by omega)
  generalize (JK 32 t)[i1]=w1 at hi1
  generalize (JK 32 t)[i2]=w2 at hi2
  have tail:∀(W:Ws) (pa:Addr) (S':aq) (x9:Option PV),TM (2 * n+1) (2 * m+1) (2 * b+1) (B+b+1) (gl [32] W)->NM (2 * b'+1) (B'+b'+1) (gl [32] W)->S' pa=some (.lst (W.map λw=>PV.str (ofL w)))->Deal S' d l->Oth d l S S'->N [some (.ref d),some (.str (ofL t)),some (.int i),some (.int f),some (.str (ofL gs)),some (.str ⟨#[c]⟩),some (.ref pa),some (.int i1),some (.int i2),x9] S':=by
   intro W pa S' x9 hW Up hS' D' O'
   refine hN _ _ ?_
   simp only[ax,bL,gC,c3,al,v3,lk,VQ]
   have:=tw hW.len
   exact iU hS' (by omega) (k _ _ hW Up D' O')
  clear hN
  simp only[a_,aH,am,v3,lk,c3,bo,U6,UY]
  by_cases h3:f=3
  .rw[if_pos h3]
   simp only[ap,am,aA,de,cz,v3,lk,c3,cK,e7]
   intro pa hpa
   rw[hV,<-WS]
   have ea:JH S7 pa (.lst (((JK 32 t).take i1).map λw=>PV.str (ofL w))) pw=_:=(Ext.new hpa) _ _ e7
   simp only[qh,ea]
   intro pb Mm
   rw[show((i1:Int)+1)=((i1+1:Nat):Int)from rfl,d9,<-Yh]
   have eb:=(Ext.new (o:=.lst (((JK 32 t).drop (i1+1)).map λw=>PV.str (ofL w))) Mm) _ _ (aa (S:=S7) (a:=pa) (o:=.lst (((JK 32 t).take i1).map λw=>PV.str (ofL w))))
   simp only[aG,aa,eb]
   refine⟨ln (m:=30000) (by simp;omega),λpc M7=>?_⟩
   rw[<-U5]
   walk_at "1"
   exact tail _ pc _ _ (GR ht hn hm i1) (ER hnm i1) aa (((D7.new hpa).new Mm).new M7) (O8.trans ((Oth.new hpa).trans ((Oth.new Mm).trans (Oth.new M7))))
  .rw[if_neg h3]
   by_cases h4:f=4
   .rw[if_pos h4]
    simp only[ap,am,aA,de,cz,v3,lk,c3,cK,e7]
    intro pa hpa
    rw[hV,<-WS]
    have ea:JH S7 pa (.lst (((JK 32 t).take i1).map λw=>PV.str (ofL w))) pw=_:=(Ext.new hpa) _ _ e7
    have D8:=D7.new (o:=.lst (((JK 32 t).take i1).map λw=>PV.str (ofL w))) hpa
    have O9:=O8.trans (Oth.new (o:=.lst (((JK 32 t).take i1).map λw=>PV.str (ofL w))) hpa)
    have ga:JH S7 pa (.lst (((JK 32 t).take i1).map λw=>PV.str (ofL w))) pa=_:=aa
    generalize JH S7 pa (.lst (((JK 32 t).take i1).map λw=>PV.str (ofL w)))=Sa at ea D8 O9 ga
    simp only[qh,ea]
    intro pb Mm
    rw[Bb (x:=.str (ofL w1)) _ (by rw[U7,hi1];rfl)]
    have eb:=(Ext.new (o:=.lst [.str (ofL w1)]) Mm) _ _ ga
    have ec:=(Ext.new (o:=.lst [.str (ofL w1)]) Mm) _ _ ea
    have D9:=D8.new (o:=.lst [.str (ofL w1)]) Mm
    have SQ:=O9.trans (Oth.new (o:=.lst [.str (ofL w1)]) Mm)
    have gb:JH Sa pb (.lst [.str (ofL w1)]) pb=_:=aa
    generalize JH Sa pb (.lst [.str (ofL w1)])=Sb at eb ec D9 SQ gb
    simp only[aG,gb,eb]
    refine⟨ln (m:=30000) (by simp;omega),λpc M7=>?_⟩
    have ed:=(Ext.new (o:=.lst ((((JK 32 t).take i1).map λw=>PV.str (ofL w))++[.str (ofL w1)])) M7) _ _ ec
    have SR:=D9.new (o:=.lst ((((JK 32 t).take i1).map λw=>PV.str (ofL w))++[.str (ofL w1)])) M7
    have SS:=SQ.trans (Oth.new (o:=.lst ((((JK 32 t).take i1).map λw=>PV.str (ofL w))++[.str (ofL w1)])) M7)
    have gc:JH Sb pc (.lst ((((JK 32 t).take i1).map λw=>PV.str (ofL w))++[.str (ofL w1)])) pc=_:=aa
    generalize JH Sb pc (.lst ((((JK 32 t).take i1).map λw=>PV.str (ofL w))++[.str (ofL w1)]))=Sc at ed SR SS gc
    simp only[ed]
    intro pd M9
    rw[d9,<-Yh]
    have ee:=(Ext.new (o:=.lst (((JK 32 t).drop i1).map λw=>PV.str (ofL w))) M9) _ _ gc
    simp only[aa,ee]
    refine⟨ln (m:=30000) (by simp;omega),λpe OH=>?_⟩
    walk_at "1"
    exact tail ((JK 32 t).take i1++[w1]++(JK 32 t).drop i1) pe _ _ (GS ht hn hm hi1) (ES hnm hi1) (by rw[aa,U5,U5];rfl) ((SR.new M9).new OH) (SS.trans ((Oth.new M9).trans (Oth.new OH)))
   .rw[if_neg h4]
    simp only[my,e9,UY]
    by_cases h7:f < 7
    .rw[if_pos h7]
     have L1:i1 < (JK 32 t).length:=(U3.mp hi1).1
     have L2:i2 < (JK 32 t).length:=(U3.mp hi2).1
     simp only[pL,bG,al,am,v3,lk,az,e7,I_ hi1,I_ hi2,cv,UJ,lK L1,aa,Wq,lK L2]
     exact tail (((JK 32 t).set i1 w2).set i2 w1) pw _ _ (GT ht hn hm hi1 hi2) (EU hnm hi1 hi2) (by rw[aa,Xp,Xp]) ((D7.upd dw.1 dw.2).upd dw.1 dw.2) (km (km O8 Ox) Ox)
    .rw[if_neg h7]
     have L1:i1 < (JK 32 t).length:=(U3.mp hi1).1
     refine ar λN2 M1=>?_
     walk_at "x"
     intro pa hpa
     have da:=D7.free hpa
     have ea:=(Ext.new (o:=.lst (lits.map PV.str)) hpa) _ _ e7
     refine M1 _ _ ?_
     simp only[i_,am,ak,al,v3,lk,c3]
     refine JJ (D7.new hpa) (by decide) (by decide) λr2 S9 u0 u1 D9 O9=>?_
     have eb:=O9 _ _ (aa (S:=S7) (o:=.lst (lits.map PV.str))) da.1 da.2
     have ec:=O9 _ _ ea dw.1 dw.2
     simp only[az,eb]
     obtain⟨v,hv,Ow⟩:=iG (xs:=lits.map PV.str) u0 (by simpa [lits]using u1)
     rw[hv]
     obtain⟨y,hy,rfl⟩:=Vf.mp Ow
     simp only[cv,ec,UJ,lK L1]
     exact tail ((JK 32 t).set i1 (sg y)) pw _ _ (GU ht hn hm hi1 hy) (EV hnm hi1 hy) (by rw[aa,Xp,eI]) (D9.upd dw.1 dw.2) (km (O8.trans ((Oth.new hpa).trans O9)) Ox)
theorem TM.drop{n m b B i:Nat}{l:List Nat}(h:TM n m b B l):TM n m b B (l.drop i):=⟨UN (by simp) h.len,λc hc=>h.vd c (VX hc),iS i h.ru,iS i h.br,UN ((XX _ _).count_le _) h.ct⟩
theorem tF(c:Nat):∀(l:List Nat),∀p∈JK c l,∃a b,l=a++p++b
 |[],p,h=>by rw[JK]at h;rw[UM.mp h];exact⟨[],[],rfl⟩
 |d::l,p,h=>by
  have ih:=tF c l
  rw[JK]at h
  split at h
  .rcases UI.mp h with rfl|h
   .exact⟨[],d::l,rfl⟩
   .obtain⟨a,b,e⟩:=ih p h
    exact⟨d::a,b,by rw[e];rfl⟩
  .split at h
   .rename_i e;exact absurd e (Ko c l)
   .rename_i q r e
    rcases UI.mp h with rfl|h
    .have g:=dR c l
     rw[e]at g
     cases r with
     |nil=>rw[bv]at g;exact⟨[],[],by rw[<-g];simp⟩
     |cons r0 r1=>rw[aX [c] q (by simp)]at g;exact⟨[],[c]++gl [c] (r0::r1),by rw[<-g];simp⟩
    .obtain⟨a,b,e2⟩:=ih p (by rw[e];simp[h])
     exact⟨d::a,b,by rw[e2];rfl⟩
def TM.piece{n m b B c:Nat}{l p:List Nat}(h:TM n m b B l)(hp:p∈JK c l):TM n m b B p:=by
 obtain⟨x,y,rfl⟩:=tF c l p hp
 have:=TM.take (i:=p.length) (TM.drop (i:=x.length) h)
 rw[U8,List.drop_left,List.take_left]at this
 exact this
theorem mO(c:Nat):∀(a b:List Nat),JK c (a++c::b)=JK c a++JK c b
 |[],b=>by show JK c (c::b)=[]::JK c b;rw[JK,if_pos rfl]
 |d::a,b=>by
  rw[V5,JK,mO c a b]
  conv=>rhs;rw[JK]
  by_cases h:d=c
  .rw[if_pos h,if_pos h];rfl
  .rw[if_neg h,if_neg h]
   cases e:JK c a with
   |nil=>exact absurd e (Ko c a)
   |cons p q=>rfl
theorem oM(c:Nat):∀R:List (List Nat),R≠[]->JK c (gl [c] R)=R.flatMap (JK c)
 |[],h=>absurd rfl h
 |[r],_=>by rw[bv];simp
 |r::q::R,_=>by
  rw[aX [c] r (by simp),U8,VS,mO,oM c (q::R) (by simp)]
  rfl
theorem tG(c:Nat):∀l:List Nat,(JK c l).length=l.count c+1
 |[]=>rfl
 |d::l=>by
  have ih:=tG c l
  rw[JK]
  by_cases h:d=c
  .rw[if_pos h,h,VM,UQ,ih]
  .rw[if_neg h,WH h,<-ih]
   cases e:JK c l with
   |nil=>exact absurd e (Ko c l)
   |cons p q=>rfl
noncomputable def qn:Nat->Nat|0=>230|k+1=>2 * qn k+1
noncomputable def qm:Nat->Nat|0=>6|k+1=>2 * qm k+1
noncomputable def qb:Nat->Nat|0=>1|k+1=>2 * qb k+1
noncomputable def qB:Nat->Nat|0=>10|k+1=>qB k+qb k+1
noncomputable def qc:Nat->Nat|0=>0|k+1=>2 * qc k+1
noncomputable def qC:Nat->Nat|0=>0|k+1=>qC k+qc k+1
structure RK(k:Nat)(r:List Nat):Prop where
 tm:TM (qn k) (qm k) (qb k) (qB k) r
 nm:NM (qc k) (qC k) r
def RK.up{k:Nat}{r:List Nat}(h:RK k r):RK (k+1) r:=⟨h.tm.mono (by show _<=2 * qn k+1;omega) (by show _<=2 * qm k+1;omega) (by show _<=2 * qb k+1;omega) (by show _<=qB k+qb k+1;omega),h.nm.mono (by show _<=2 * qc k+1;omega) (by show _<=qC k+qc k+1;omega)⟩
structure RL(k:Nat)(R:List (List Nat)):Prop where
 row:∀r∈R,RK k r
 ne:1<=R.length
 few:R.length<=5+k
def RL.th{k:Nat}(hk:k<=2){R:List (List Nat)}(h:RL k R):TH (gl [10] R):=by
 have hne:R≠[]:=λz=>by have:=h.ne;rw[z]at this;cases this
 have up:∀r∈R,RK 2 r:=λr hr=>by
  have:k=0\/k=1\/k=2:=by omega
  rcases this with rfl|rfl|rfl
  .exact(h.row r hr).up.up
  .exact(h.row r hr).up
  .exact h.row r hr
 have few:R.length<=7:=by have:=h.few;omega
 refine⟨?_,λp hp=>?_,?_⟩
 .have e:=T9.bw 10 R hne
  have:(R.map λw=>w.length+1).sum<=R.length * 924:=by
   clear e few hne h
   induction R with
   |nil=>simp
   |cons r R ih=>
    have a:=(up r (by simp)).tm.len
    have b:=ih λx hx=>up x (by simp[hx])
    rw[UE,VU,UQ,YG]
    have:qn 2=923:=rfl
    omega
  omega
 .rw[oM 10 R hne]at hp
  obtain⟨r,hr,hp⟩:=List.mem_flatMap.mp hp
  exact(TM.piece (up r hr).tm hp).mono (by decide) (by decide) (by decide) (by decide)
 .rw[oM 10 R hne,List.length_flatMap]
  have:(R.map λr=>(JK 10 r).length).sum<=R.length * 4:=by
   clear few hne h
   induction R with
   |nil=>simp
   |cons r R ih=>
    have a:=(up r (by simp)).nm.ct
    have b:=ih λx hx=>up x (by simp[hx])
    rw[UE,VU,UQ,YG,tG]
    have:qC 2=3:=rfl
    omega
  omega
def IL{l:List Nat}{t:Bd}(h:TF l)(e:l0 36 l=some t):t.size<=71/\t.dep<=36/\CB t/\VB t:=by
 rw[<-xR h.ok.cnt]at e
 unfold E_ at e
 split at e
 .rename_i u e1
  split at e
  .cases e
   obtain⟨T,hT,hb⟩:=XI.mp e1
   obtain⟨h1,h2⟩:=h.tree hT
   obtain⟨m1,m2,m3⟩:=yJ T t h1 hb
   have:=yI T
   exact⟨by omega,by omega,m3,lA T t hb⟩
  .cases e
 .cases e
def GY{r:List Nat}{q:List Nat×Bd}(h:RF r)(e:lP r=some q):ci q.1=true/\q.2.size<=71/\q.2.dep<=36/\CB q.2/\VB q.2:=by
 unfold lP at e
 split at e
 .rename_i p0 p1 p2 ps es
  split at e
  .rename_i z
   have Qw:TF (gl [32] ps):=RF.tf (TM.sub h (W:=ps) (by rw[es];exact((VG _ _).trans (VG _ _)).trans (VG _ _)))
   cases er:l0 36 (gl [32] ps)with
   |none=>rw[er]at e;cases e
   |some t=>rw[er]at e;cases e;exact⟨z.2.2,IL Qw er⟩
  .cases e
 .cases e
theorem tH:∀(n:Nat)(rs:List (List Nat))(qs:List (List Nat×Bd)),qi n rs = .inr qs->rs.map lP=qs.map some
 |n,[],qs,h=>by rw[qi]at h;cases h;rfl
 |n,r::rs,qs,h=>by
  rw[qi]at h
  split at h
  .cases h
  .rename_i q e
   split at h
   .cases h
   .rename_i ST e2
    cases h
    rw[UE,UE,e,tH (n+1) rs ST e2]
structure HK(js:List (List Nat))(qs:List (List Nat×Bd)):Prop where
 j:∀j∈js,ci j=true
 jl:js.length<=1000
 ql:qs.length<=27
 q:∀q∈qs,ci q.1=true/\q.2.size<=71/\q.2.dep<=36/\CB q.2/\VB q.2
def EW{l:List Nat}(hl:TH l){js:List (List Nat)}{qs:List (List Nat×Bd)}(h:hrd l = .inr (js,qs)):HK js qs:=by
 have few:=hl.few
 have row:=hl.row
 unfold hrd at h
 split at h
 .cases h
 .rename_i r rs e
  rw[e]at few row
  rw[UQ]at few
  split at h
  .cases h
  .rename_i js' ej
   split at h
   .cases h
   .rename_i ST eq
    split at h
    .cases h
    .cases h
     have iv:=tH 1 rs qs eq
     have hlen:qs.length=rs.length:=by have:=U4 List.length iv;simpa using this.symm
     unfold Fc at ej
     split at ej
     .rename_i w ws ew
      split at ej
      .rename_i z
       cases ej
       have hs:=eP 32 r
       have hr:=(row r (by simp)).len
       rw[ew,UQ]at hs
       refine⟨λj hj=>VD.mp z.2 j hj,by omega,by omega,λq hq=>?_⟩
       have:some q∈rs.map lP:=by rw[iv];exact Vf.mpr ⟨q,hq,rfl⟩
       obtain⟨r',hr',he⟩:=Vf.mp this
       exact GY (row r' (by simp[hr'])) he
      .cases ej
     .cases ej
noncomputable def JA(js:List (List Nat))(qs:List (List Nat×Bd)):PyData:=.tuple [.tuple (js.map λj=>.str (ofL j)),.tuple (qs.map λq=>.tuple [.str (ofL q.1),q.2.dt])]
def yZ{S:aq}{js:List (List Nat)}{qs:List (List Nat×Bd)}(h:HK js qs):Sh S (GX js qs) (JA js qs) 9000000 60:=by
 have nm:∀{S:aq}{j:List Nat},ci j=true->Sh S (.str (ofL j)) (.str (ofL j)) 62 0:=λ{S j} hj=>Hh (z:=ofL j) hj
 have a:Sh S (.tup (js.map λj=>.str (ofL j))) (.tuple (js.map λj=>.str (ofL j))) 65000 50:=(Sh.tup (M8.map (λj=>PV.str (ofL j)) (λj=>PyData.str (ofL j)) (n:=62) (k:=0) λz hz=>nm (h.j z hz))).le (by have:=h.jl;omega) (by decide)
 have b:Sh S (.tup (qs.map Op)) (.tuple (qs.map λq=>.tuple [.str (ofL q.1),q.2.dt])) 8200000 50:=(Sh.tup (M8.map Op (λq=>PyData.tuple [.str (ofL q.1),q.2.dt]) (n:=298300) (k:=40) λq hq=>by
  obtain⟨q1,q2,q3,q4,q5⟩:=h.q q hq
  exact(Sh.tup (((nm q1).le (UH _) (UZ _)).cons (((Ce q.2 q5 q4).le (UH _) (show _<=38 by omega)).cons (.MO _)))).le (by omega) (by decide))).le (by have:=h.ql;omega) (by decide)
 exact(Sh.tup (a.cons (b.cons (.MO _)))).le (by decide) (by decide)
theorem y4:∀(m:Nat)(rs:List (List Nat))(k:Nat),qi m rs = .inl k->k<=m+rs.length
 |m,[],k,h=>by rw[qi]at h;cases h
 |m,r::rs,k,h=>by
  rw[qi]at h
  rw[UQ]
  split at h
  .cases h;omega
  .split at h
   .rename_i e;cases h;have:=y4 (m+1) rs k e;omega
   .cases h
def EY{l:List Nat}{n:Nat}(hl:TH l)(h:hrd l = .inl n):n<=100:=by
 have few:=hl.few
 unfold hrd at h
 split at h
 .cases h;omega
 .rename_i r rs e
  rw[e,UQ]at few
  split at h
  .cases h;omega
  .split at h
   .rename_i k ek;cases h;have:=y4 1 rs _ ek;omega
   .split at h
    .cases h;omega
    .cases h
def Bm{l:List Nat}(h:TH l):∃z:Str,∀{S:aq}{Q:bP},Q (.str z) S->mC [IK (hrd l)] S Q:=by
 cases e:hrd l with
 |inl n=>
  have hn:=EY h e
  exact⟨_,λq=>pR (Sh.tup ((Sh.str (z:=("refused":String)) (by decide +kernel)).cons ((Sh.i (i:=(n:Int)) (by omega)).cons .nil))) (by decide +kernel) (by decide) q⟩
 |inr q=>
  obtain⟨js,qs⟩:=q
  have s:=λS=>yZ (S:=S) (EW h e)
  exact⟨_,λ{S} {_} q=>pR (Sh.tup ((Sh.s "told" 60 (by decide +kernel) (by decide +kernel)).cons ((s S).cons (.MO _)))) (UN (show _<=10000000 by decide) (by decide)) (by decide) q⟩
noncomputable def Nl:List Str:=[""," ","jars","deed a :","deed : rest"]
def Bn:∀z∈Nl,(GQ 230 6 1 10 (sg z)&&rb gF Bj 0 0 (sg z)&&decide ((sg z).count 10<=0))=true:=by decide +kernel
def y9{z:Str}(h:z∈Nl):RK 0 (sg z):=by
 have:=Bn z h
 simp only[Vl,UY]at this
 exact⟨td this.1.1,gS this.1.2,this.2⟩
def RS(S:aq)(p:Addr)(R:List (List Nat)):Prop:=S p=some (.lst (R.map λr=>PV.str (ofL r)))
abbrev tI(w:aF):Prop:=∀{S:aq}{d l p:Addr}{R:List (List Nat)}{k:Nat}{Q:bP}{E:cq},Deal S d l->RS S p R->RL k R->k<=1->(∀q R' S',RS S' q R'->RL (k+1) R'->q≠d->q≠l->Deal S' d l->Oth d l S S'->Q (.ref q) S')->w [.ref d,.ref p] S Q E
theorem RL.up{k:Nat}{R:List (List Nat)}(h:RL k R):RL (k+1) R:=⟨λr hr=>(h.row r hr).up,h.ne,by have:=h.few;omega⟩
def y_{W:Ws}{i:Nat}{x w:List Nat}(h:w∈W.set i x):w∈W\/w=x:=List.mem_or_eq_of_mem_set h
theorem RL.set{k:Nat}{R:List (List Nat)}(h:RL k R){i:Nat}{r:List Nat}(hr:RK k r):RL k (R.set i r):=⟨λx hx=>by
 rcases y_ hx with z|rfl
 .exact h.row x z
 .exact hr,by rw[Wq];exact h.ne,by rw[Wq];exact h.few⟩
def RL.ins{k:Nat}{R:List (List Nat)}(h:RL k R)(i:Nat){r:List Nat}(hr:RK k r):RL (k+1) (R.take i++[r]++R.drop i):=by
 have e:(R.take i).length+(R.drop i).length=R.length:=by rw[<-UK,VJ]
 have:=h.ne
 have:=h.few
 refine⟨λx hx=>?_,by simp only[UK,List.length_singleton];omega,by simp only[UK,List.length_singleton];omega⟩
 rcases UT.mp hx with hx|hx
 .rcases UT.mp hx with hx|hx
  .exact(h.row x (VN hx)).up
  .rw[UM.mp hx];exact hr.up
 .exact(h.row x (VX hx)).up
def RL.del{k:Nat}{R:List (List Nat)}(h:RL k R){i:Nat}(hi:i < R.length)(h1:1 < R.length):RL (k+1) (R.take i++R.drop (i+1)):=by
 have:=h.few
 refine⟨λx hx=>?_,by simp only[UK,VH,Wt];omega,by simp only[UK,VH,Wt];omega⟩
 rcases UT.mp hx with hx|hx
 .exact(h.row x (VN hx)).up
 .exact(h.row x (VX hx)).up
def GZ{R:List (List Nat)}{i:Nat}{r:List Nat}(h:R[i]?=some r):Kn (R.map λr=>PV.str (ofL r)) (i:Int)=some (.str (ofL r)):=b6 (by rw[U7,h];rfl)
def iW{d l p:Addr}{S S':aq}{o:SO}(O:Oth d l S S')(h:S p=none):Oth d l S (JH S' p o):=km O h
def rP{x0 x1:aF}(JJ:bW x0)(Ol:oK x1):tI (bV 5 (dA x0 x1)):=by
 intro S d l p R kk Q E D hp hR hk1 k
 have hne:=hR.ne
 have hfew:=hR.few
 unfold dA
 refine j2 ?_
 rw[show aB 5 [PV.ref d,PV.ref p]=[some (.ref d),some (.ref p),none,none,none] from rfl]
 walk_at "5"
 have hp':S p=some (.lst (R.map λr=>PV.str (ofL r))):=hp
 simp only[ap,af,al,v3,lk,gW,cJ,hp']
 intro q hq
 have dq:=D.free hq
 have O1:=Oth.new (d:=d) (l:=l) (o:=.lst (R.map λr=>PV.str (ofL r))) hq
 have D1:=D.new (o:=.lst (R.map λr=>PV.str (ofL r))) hq
 have e1:JH S q (.lst (R.map λr=>PV.str (ofL r))) q=some (.lst (R.map λr=>PV.str (ofL r))):=aa
 generalize JH S q (.lst (R.map λr=>PV.str (ofL r)))=S1 at O1 D1 e1
 walk_at "1"
 walk_at "0"
 simp only[ap,ak,af,al,v3,lk,aT,cJ,e1,UJ]
 refine JJ D1 (by omega) (by omega) λa S2 a0 a1 D2 O2=>?_
 obtain⟨i,rfl⟩:=Vn a0
 have e2:=O2 _ _ e1 dq.1 dq.2
 walk_at "1"
 walk_at "0"
 simp only[ap,ak,af,al,v3,lk,aT,cJ,e2,UJ]
 refine JJ D2 (by omega) (by omega) λa' S3 Uq a1' D3 O3=>?_
 obtain⟨j,rfl⟩:=Vn Uq
 have e3:=O3 _ _ e2 dq.1 dq.2
 walk_at "1"
 walk_at "0"
 simp only[ap,ak,al,v3,lk,c3]
 refine JJ D3 (by decide) (by decide) λf S4 f0 QW D4 O4=>?_
 have e4:=O4 _ _ e3 dq.1 dq.2
 have Nz:=O1.trans (O2.trans (O3.trans O4))
 have hi:=U9 (l:=R) (i:=i) (by omega)
 have hj:=U9 (l:=R) (i:=j) (by omega)
 have Li:i < R.length:=by omega
 have Lj:j < R.length:=by omega
 have ri:RK kk R[i]:=hR.row _ (Xm _)
 have rj:RK kk R[j]:=hR.row _ (Xm _)
 generalize R[i]=r1 at hi ri
 generalize R[j]=r2 at hj rj
 walk_at "1"
 walk_at "0"
 have two:∀{N:aO}{σ:bZ}{S:aq}{Q:bP}{a b:Addr}{xs ys:List PV},S a=some (.lst xs)->S b=some (.lst ys)->xs.length+ys.length<=1000->(∀p,S p=none->Q (.ref p) (JH S p (.lst (xs++ys))))->aG (.ref a) (.ref b) S Q:=λh1 h2 hl kq=>by
  simp only[aG,h1,h2]
  exact⟨ln (m:=1000) hl,kq⟩
 have rest:N [some (.ref d),some (.ref q),some (.int i),some (.int j),some (.int f)] S4:=by
  refine hN _ _ (ar λN2 M1=>?_)
  -- a row put in
  have insert:∀(r:List Nat) (Sa:aq) (Qq:bP) (pa pb:Addr),RK kk r->Sa pa=some (.lst ((R.take i).map λr=>PV.str (ofL r)))->Sa q=some (.lst (R.map λr=>PV.str (ofL r)))->Deal Sa d l->Oth d l S Sa->(∀q' R' Nt,RS Nt q' R'->RL (kk+1) R'->q'≠d->q'≠l->Deal Nt d l->Oth d l S Nt->Qq (.ref q') Nt)->Sa pb=none->
    aG (.ref pa) (.ref pb) (JH Sa pb (.lst [.str (ofL r)])) λv S2=>(aA (v3 1) (cz (v3 2)) de) [some (.ref d),some (.ref q),some (.int i),some (.int j),some (.int f)] S2 (λw S3=>aG v w S3 Qq) fu:=by
   intro r Sa Qq pa pb hr hpa hq' D' O' kq Mm
   have ea:=(Ext.new (o:=.lst [PV.str (ofL r)]) Mm) _ _ hpa
   have Da:=D'.new (o:=.lst [PV.str (ofL r)]) Mm
   have Oa:=O'.trans (Oth.new (o:=.lst [PV.str (ofL r)]) Mm)
   have eq1:=(Ext.new (o:=.lst [PV.str (ofL r)]) Mm) _ _ hq'
   have eb:JH Sa pb (.lst [PV.str (ofL r)]) pb=_:=aa
   generalize JH Sa pb (.lst [PV.str (ofL r)])=Sb at ea Da Oa eq1 eb
   refine two (N:=c3 .non) (σ:=[]) ea eb (by simp;omega) λpc M7=>?_
   have Dc:=Da.new (o:=.lst ((R.take i).map (λr=>PV.str (ofL r))++[PV.str (ofL r)])) M7
   have Oc:=Oa.trans (Oth.new (o:=.lst ((R.take i).map (λr=>PV.str (ofL r))++[PV.str (ofL r)])) M7)
   have eq2:=(Ext.new (o:=.lst ((R.take i).map (λr=>PV.str (ofL r))++[PV.str (ofL r)])) M7) _ _ eq1
   have ec:JH Sb pc (.lst ((R.take i).map (λr=>PV.str (ofL r))++[PV.str (ofL r)])) pc=_:=aa
   generalize JH Sb pc (.lst ((R.take i).map (λr=>PV.str (ofL r))++[PV.str (ofL r)]))=Sc at Dc Oc eq2 ec
   simp only[aA,v3,lk,cz,de,cK,eq2]
   intro pd M9
   rw[d9,<-Yh]
   have ed:=(Ext.new (o:=.lst ((R.drop i).map λr=>PV.str (ofL r))) M9) _ _ ec
   have Dd:=Dc.new (o:=.lst ((R.drop i).map λr=>PV.str (ofL r))) M9
   have Od:=Oc.trans (Oth.new (o:=.lst ((R.drop i).map λr=>PV.str (ofL r))) M9)
   refine two (N:=c3 .non) (σ:=[]) ed aa (by simp;omega) λpe OH=>?_
   have fe:=Dd.free OH
   refine kq pe (R.take i++[r]++R.drop i) _ (by unfold RS;rw[aa,U5,U5];rfl) (hR.ins i hr) fe.1 fe.2 (Dd.new OH) (Od.trans (Oth.new OH))
  have fin:∀(R':List (List Nat)) (S':aq),S' q=some (.lst (R'.map λr=>PV.str (ofL r)))->RL (kk+1) R'->Deal S' d l->Oth d l S S'->Q (.ref q) S':=λR' S' h1 h2 h3 h4=>k q R' S' h1 h2 dq.1 dq.2 h3 h4
  have Ox:S q=none:=hq
  simp only[a_,aH,am,v3,lk,c3,bo,U6,UY]
  by_cases h1:f=1
  .rw[if_pos h1]
   simp only[ax,am,aA,v3,lk,de,cz,cK,e4]
   intro pa hpa
   rw[hV,<-WS]
   simp only[aS,al,am,v3,lk,az,(Ext.new (o:=.lst ((R.take i).map λr=>PV.str (ofL r))) hpa) _ _ e4,GZ hj]
   intro pb Mm
   exact insert r2 _ Q pa pb rj aa ((Ext.new (o:=.lst ((R.take i).map λr=>PV.str (ofL r))) hpa) _ _ e4) (D4.new hpa) (Nz.trans (Oth.new hpa)) (λq' R' Nt z1 z2 z3 z4 z5 z6=>k q' R' Nt z1 z2 z3 z4 z5 z6) Mm
  .rw[if_neg h1]
   simp only[aJ]
   refine M1 _ _ (ar λN3 Pv=>?_)
   have last:∀(R':List (List Nat)) (S':aq),S' q=some (.lst (R'.map λr=>PV.str (ofL r)))->RL (kk+1) R'->Deal S' d l->Oth d l S S'->N3 [some (.ref d),some (.ref q),some (.int i),some (.int j),some (.int f)] S':=λR' S' z1 z2 z3 z4=>by
    refine Pv _ _ ?_
    simp only[ax,v3,lk]
    exact fin R' S' z1 z2 z3 z4
   simp only[a_,aH,am,v3,lk,c3,bo,U6,UY]
   by_cases h2:f=2
   .rw[if_pos h2]
    simp only[pL,bG,al,am,v3,lk,az,e4,GZ hi,GZ hj,cv,UJ,lK Li,aa,Wq,lK Lj]
    exact last ((R.set i r2).set j r1) _ (by rw[aa,Xp,Xp]) ((hR.set rj).set ri).up ((D4.upd dq.1 dq.2).upd dq.1 dq.2) (iW (iW Nz Ox) Ox)
   .rw[if_neg h2]
    by_cases h3:f=3
    .rw[if_pos h3]
     simp only[ax,am,aA,v3,lk,de,cz,cK,e4]
     intro pa hpa
     rw[hV,<-WS]
     have ea:=(Ext.new (o:=.lst ((R.take i).map λr=>PV.str (ofL r))) hpa) _ _ e4
     have fa:JH S4 pa (.lst ((R.take i).map λr=>PV.str (ofL r))) pa=_:=aa
     have Da:=D4.new (o:=.lst ((R.take i).map λr=>PV.str (ofL r))) hpa
     have Oa:=Nz.trans (Oth.new (o:=.lst ((R.take i).map λr=>PV.str (ofL r))) hpa)
     have SU:=D4.free hpa
     generalize JH S4 pa (.lst ((R.take i).map λr=>PV.str (ofL r)))=Sa at ea fa Da Oa
     simp only[aS,al,am,ak,v3,lk,c3]
     intro pz Qx
     have SV:=Da.free Qx
     have ez:=(Ext.new (o:=.lst (Nl.map PV.str)) Qx) _ _ ea
     have fz:=(Ext.new (o:=.lst (Nl.map PV.str)) Qx) _ _ fa
     refine JJ (Da.new Qx) (by decide) (by decide) λr5 S5 u0 u1 D5 O5=>?_
     have g5:=O5 _ _ (aa (S:=Sa) (o:=.lst (Nl.map PV.str))) SV.1 SV.2
     have e5:=O5 _ _ ez dq.1 dq.2
     have f5:=O5 _ _ fz SU.1 SU.2
     simp only[az,g5]
     obtain⟨v,hv,Ow⟩:=iG (xs:=Nl.map PV.str) u0 (by simpa [Nl]using u1)
     rw[hv]
     obtain⟨y,hy,rfl⟩:=Vf.mp Ow
     have ky:RK kk (sg y):=by
      have:kk=0\/kk=1:=by omega
      rcases this with rfl|rfl
      .exact y9 hy
      .exact(y9 hy).up
     dsimp only
     intro pb Mm
     have:=insert (sg y) S5 Q pa pb ky f5 e5 D5 (Oa.trans ((Oth.new Qx).trans O5)) (λq' R' Nt z1 z2 z3 z4 z5 z6=>k q' R' Nt z1 z2 z3 z4 z5 z6) Mm
     rw[eI]at this
     exact this
    .rw[if_neg h3]
     by_cases h4:f=4
     .rw[if_pos h4]
      have hl1:=ri.tm.len
      have hq1:qn kk<=1000:=by
       have:kk=0\/kk=1:=by omega
       rcases this with rfl|rfl<;>decide
      simp only[i_,aA,am,v3,lk,az,e4,GZ hi,de,cz,ak,al,af,aT,JL,c3]
      refine⟨ln (m:=1000) (by omega),?_⟩
      simp only[qh]
      refine JJ D4 (by omega) (by omega) λa5 S5 u0 u1 D5 O5=>?_
      obtain⟨n5,rfl⟩:=Vn u0
      have e5:=O5 _ _ e4 dq.1 dq.2
      simp only[cK,JL]
      refine⟨ln (m:=1000) (by omega),?_⟩
      rw[BU]
      simp only[cv,e5,UJ,lK Li]
      exact last (R.set i (r1.take n5)) _ (by rw[aa,Xp]) (hR.set ⟨TM.take ri.tm,ri.nm.take⟩).up (D5.upd dq.1 dq.2) (iW (Nz.trans O5) Ox)
     .rw[if_neg h4]
      by_cases h5:f=5
      .rw[if_pos h5]
       simp only[ax,aA,v3,lk,de,cz,c3,cK,e4]
       intro pa hpa
       rw[show(some (1:Int))=some ((1:Nat):Int)from rfl,hV,<-WS]
       have fe:=D4.free hpa
       exact k pa (R.take 1) _ (by unfold RS;rw[aa]) ⟨λx hx=>(hR.row x (VN hx)).up,by rw[VH];omega,by rw[VH];omega⟩ fe.1 fe.2 (D4.new hpa) (Nz.trans (Oth.new hpa))
      .rw[if_neg h5]
       have hb:7<=qn kk/\qn kk<=5000/\3<=qm kk:=by
        have:kk=0\/kk=1:=by omega
        rcases this with rfl|rfl<;>decide
       simp only[i_,ak,al,am,v3,lk,az,e4,GZ hi]
       refine Ol D4 ri.tm ri.nm hb.1 hb.2.1 hb.2.2 λt' S5 ht hn' D5 O5=>?_
       have e5:=O5 _ _ e4 dq.1 dq.2
       simp only[cv,e5,UJ,lK Li]
       exact last (R.set i t') _ (by rw[aa,Xp]) (hR.up.set ⟨ht,hn'⟩) (D5.upd dq.1 dq.2) (iW (Nz.trans O5) Ox)
 simp only[a_,kJ,aH,am,af,al,v3,lk,c3,bo,U6,UY]
 by_cases h0:f=0
 .rw[if_pos h0]
  simp only[aT,cJ,e4,UJ,qo,e9,UY]
  by_cases h1:(R.length:Int) > 1
  .rw[if_pos h1]
   simp only[VL,ax,am,aA,v3,lk,de,cz,cK,e4,c3]
   intro pa hpa
   rw[hV,<-WS]
   have ea:=(Ext.new (o:=.lst ((R.take i).map λr=>PV.str (ofL r))) hpa) _ _ e4
   have fa:JH S4 pa (.lst ((R.take i).map λr=>PV.str (ofL r))) pa=_:=aa
   have Da:=D4.new (o:=.lst ((R.take i).map λr=>PV.str (ofL r))) hpa
   have Oa:=Nz.trans (Oth.new (o:=.lst ((R.take i).map λr=>PV.str (ofL r))) hpa)
   generalize JH S4 pa (.lst ((R.take i).map λr=>PV.str (ofL r)))=Sa at ea fa Da Oa
   simp only[qh,ea]
   intro pb Mm
   rw[show((i:Int)+1)=((i+1:Nat):Int)from rfl,d9,<-Yh]
   refine two (N:=c3 .non) (σ:=[]) ((Ext.new (o:=.lst ((R.drop (i+1)).map λr=>PV.str (ofL r))) Mm) _ _ fa) aa (by simp;omega) λpc M7=>?_
   have fe:=(Da.new (o:=.lst ((R.drop (i+1)).map λr=>PV.str (ofL r))) Mm).free M7
   exact k pc (R.take i++R.drop (i+1)) _ (by unfold RS;rw[aa,U5]) (hR.del Li (by omega)) fe.1 fe.2 ((Da.new Mm).new M7) (Oa.trans ((Oth.new Mm).trans (Oth.new M7)))
  .rw[if_neg h1]
   simp only[UR,Vx,aJ]
   exact rest
 .rw[if_neg h0]
  simp only[UR,Vx,aJ]
  exact rest
def Jb{l:List Nat}(h:∀c∈l,c≠10):NM 0 0 l:=⟨lL λc hc=>by simp only[Bj,WU];exact h c hc,by rw[List.count_eq_zero_of_not_mem λz=>h 10 z rfl];exact UH _⟩
def za{js:Vs}(hl:js.length<=5)(hw:Fb js):RK 0 (gl [32] (sg "jars" :: js.map sg)):=by
 have all:∀w∈sg "jars" :: js.map sg,W6 6 0 w:=λw hw'=>by
  rcases UI.mp hw' with rfl|hw'
  .exact gA (by decide +kernel) (by decide +kernel)
  .obtain⟨z,hz,rfl⟩:=Vf.mp hw'
   exact yP hw hz
 have sums:∀W:Ws,(∀w∈W,W6 6 0 w)->(W.map f1).sum<=7 * W.length/\(W.map f4).sum=0:=by
  intro W
  induction W with
  |nil=>intro _;exact⟨UH _,rfl⟩
  |cons w W ih=>
   intro h
   obtain⟨a,b⟩:=ih λx hx=>h x (by simp[hx])
   have l:=(h w (by simp)).len
   have c:=(h w (by simp)).ct
   rw[UE,VU,UE,VU,UQ]
   have e1:f1 w=w.length+1:=rfl
   have e2:f4 w=w.count 40:=rfl
   omega
 obtain⟨s1,s2⟩:=sums _ all
 have Ur:=T9.bw 32 (sg "jars" :: js.map sg) (by simp)
 change _=((sg "jars" :: js.map sg).map f1).sum at Ur
 have hlen:(sg "jars" :: js.map sg).length<=6:=by simp;omega
 refine⟨⟨by show _<=230;omega,λc hc=>?_,(dL (by decide) _).mpr λw hw'=>(all w hw').ru,(dL (by decide) _).mpr λw hw'=>(all w hw').br,?_⟩,Jb λc hc=>?_⟩
 .rcases hU hc with rfl|⟨w,a,b⟩
  .decide
  .exact(all w a).vd c b
 .rw[gg]
  change ((sg "jars" :: js.map sg).map f4).sum<=_
  rw[s2];exact UZ _
 .rcases hU hc with rfl|⟨w,a,b⟩
  .decide
  .exact(all w a).nl c b
def zb{ws:Vs}(hw:Fb ws){z:Str}(hz:z∈ws){t:Bd}(g:t.g9 ws)(hs:t.size<=9):RK 0 (sg "deed " ++ sg z++sg " : " ++ tx t):=by
 have a:=yP hw hz
 have b:=jW hw t g
 have e:sg "deed " ++ sg z++sg " : " ++ tx t=sg "deed" ++ 32::(sg z++32::([58]++32::tx t)):=by
  rw[show sg "deed " = sg "deed" ++ [32] from by decide +kernel,show sg " : " = [32,58,32] from by decide +kernel]
  simp
 have la:=a.len
 have lb:=b.len
 refine⟨⟨?_,?_,?_,?_,?_⟩,Jb ?_⟩
 .simp only[UK]
  rw[show(sg "deed ").length=5 from by decide +kernel,show(sg " : ").length=3 from by decide +kernel]
  show _<=230
  omega
 .intro c hc
  simp only[UT]at hc
  rcases hc with((hc|hc)|hc)|hc
  .exact(show ∀c∈sg "deed ",c < 256 by decide +kernel) c hc
  .exact a.vd c hc
  .exact(show ∀c∈sg " : ",c < 256 by decide +kernel) c hc
  .exact b.vd c hc
 .rw[e,dY (by decide),dY (by decide),dY (by decide)]
  exact⟨gS (by decide +kernel),a.ru,gS (by decide +kernel),b.ru⟩
 .rw[e,dY (by decide),dY (by decide),dY (by decide)]
  exact⟨gS (by decide +kernel),a.br,gS (by decide +kernel),b.br⟩
 .simp only[Vb]
  rw[show(sg "deed ").count 40=0 from by decide +kernel,show(sg " : ").count 40=0 from by decide +kernel]
  have:=a.ct
  have:=b.ct
  show _<=10
  omega
 .intro c hc
  simp only[UT]at hc
  rcases hc with((hc|hc)|hc)|hc
  .exact(show ∀c∈sg "deed ",c≠10 by decide +kernel) c hc
  .exact a.nl c hc
  .exact(show ∀c∈sg " : ",c≠10 by decide +kernel) c hc
  .exact b.nl c hc
abbrev rQ(w:aF):Prop:=∀{S:aq}{d l:Addr}{Q:bP}{E:cq},Deal S d l->(∀q R S',RS S' q R->RL 0 R->q≠d->q≠l->Deal S' d l->Oth d l S S'->Q (.ref q) S')->w [.ref d] S Q E
def zc{x0 x1 x2 x3:aF}(JJ:bW x0)(MG:p_ x1)(Qy:gx 12 x2)(Qz:lI 36 x3):rQ (bV 5 (cS x0 x1 x2 x3)):=by
 intro S d l Q E D k
 unfold cS
 refine j2 ?_
 rw[show aB 5 [PV.ref d]=[some (.ref d),none,none,none,none] from rfl]
 walk_at "5"
 simp only[ap,bU,ja,am,c3,ak,al,v3,lk,qh]
 refine JJ D (by decide) (by decide) λn S4 n0 n1 D4 O4=>⟨by omega,by omega,?_⟩
 refine pP (λdone ys S'=>∃ws:List Str,ys=ws.map PV.str/\ws.length=done.length/\done.length<=(2+n).toNat/\Fb ws/\Deal S' d l/\Oth d l S S') ⟨[],rfl,rfl,UZ _,(by intro z hz;cases hz),D4,O4⟩ ?_ ?_ ?_
 .rintro done ys S' ⟨ws,rfl,e,hd,_⟩
  exact⟨trivial,ln (m:=100) (by rw[UJ,e];omega)⟩
 .rintro done x rest ys S' K e ⟨ws,rfl,e2,hd,hw,D',O'⟩ hK
  have hlen:done.length+1<=(2+n).toNat:=by
   have:=U4 List.length e
   rw[bA,UK,UQ]at this
   omega
  simp only[Tg.put,jb,eF,VL,List.set_cons_zero,List.set_cons_succ,ak,al,v3]
  refine MG D' λz S2 hz D2 O2=>?_
  refine hK _ _ ⟨ws++[z],by simp,by simp[e2],by simpa using hlen,λy hy=>?_,D2,O'.trans O2⟩
  rcases UT.mp hy with hy|hy
  .exact hw y hy
  .rw[UM.mp hy];exact hz
 rintro ys S5 ⟨ws,rfl,ew,-,hw,D5,O5⟩ pw OX
 rw[bA]at ew
 have fp:=D5.free OX
 have O6:=O5.trans (Oth.new (o:=.lst (ws.map PV.str)) OX)
 have D6:=D5.new (o:=.lst (ws.map PV.str)) OX
 have w6:(JH S5 pw (.lst (ws.map PV.str))) pw=some (.lst (ws.map PV.str)):=aa
 generalize JH S5 pw (.lst (ws.map PV.str))=S6 at O6 D6 w6
 walk_at "1"
 walk_at "0"
 simp only[ap,aS,al,bL,c3,gC,am,aA,de,cz,ak,v3,lk,VQ]
 intro p1 hp1
 have SW:=D6.free hp1
 have w7:=(Ext.new (o:=.lst [PV.str (Str.ofString "jars")]) hp1) _ _ w6
 refine JJ (D6.new hp1) (by decide) (by decide) λm S8 m0 m1 D8 O8=>?_
 obtain⟨m,rfl⟩:=Vn m0
 have w8:=O8 _ _ w7 fp.1 fp.2
 have j8:=O8 _ _ (aa (S:=S6) (a:=p1) (o:=.lst [PV.str (Str.ofString "jars")])) SW.1 SW.2
 have Us:=O6.trans ((Oth.new (o:=.lst [PV.str (Str.ofString "jars")]) hp1).trans O8)
 simp only[cK,w8]
 intro p2 hp2
 rw[hV,<-WS]
 have j9:=(Ext.new (o:=.lst ((ws.take m).map PV.str)) hp2) _ _ j8
 have w9:=(Ext.new (o:=.lst ((ws.take m).map PV.str)) hp2) _ _ w8
 have D9:=D8.new (o:=.lst ((ws.take m).map PV.str)) hp2
 have SX:=Us.trans (Oth.new (o:=.lst ((ws.take m).map PV.str)) hp2)
 have s9:JH S8 p2 (.lst ((ws.take m).map PV.str)) p2=_:=aa
 generalize JH S8 p2 (.lst ((ws.take m).map PV.str))=S9 at j9 w9 D9 SX s9
 simp only[aG,j9,s9]
 refine⟨ln (m:=1000) (by simp;omega),λp3 hp3=>?_⟩
 have Ut:(ws.take m).length<=5:=by rw[VH];omega
 have Uu:[PV.str (Str.ofString "jars")]++(ws.take m).map PV.str=(sg "jars" :: (ws.take m).map sg).map λw=>PV.str (ofL w):=by
  rw[UE,VF]
  rfl
 rw[Uu]
 have rj:=za Ut (λz hz=>hw z (VN hz))
 refine iU aa (by have:=tw rj.tm.len;have:qn 0=230:=rfl;omega) ?_
 have wA:=(Ext.new (o:=.lst ((sg "jars" :: (ws.take m).map sg).map λw=>PV.str (ofL w))) hp3) _ _ w9
 have DA:=D9.new (o:=.lst ((sg "jars" :: (ws.take m).map sg).map λw=>PV.str (ofL w))) hp3
 have OA:=SX.trans (Oth.new (o:=.lst ((sg "jars" :: (ws.take m).map sg).map λw=>PV.str (ofL w))) hp3)
 generalize JH S9 p3 (.lst ((sg "jars" :: (ws.take m).map sg).map λw=>PV.str (ofL w)))=SA at wA DA OA
 intro q hq
 have dq:=DA.free hq
 have wB:=(Ext.new (o:=.lst [PV.str (ofL (gl [32] (sg "jars" :: (ws.take m).map sg)))]) hq) _ _ wA
 have DB:=DA.new (o:=.lst [PV.str (ofL (gl [32] (sg "jars" :: (ws.take m).map sg)))]) hq
 have OB:=OA.trans (Oth.new (o:=.lst [PV.str (ofL (gl [32] (sg "jars" :: (ws.take m).map sg)))]) hq)
 have qB:JH SA q (.lst [PV.str (ofL (gl [32] (sg "jars" :: (ws.take m).map sg)))]) q=some (.lst [PV.str (ofL (gl [32] (sg "jars" :: (ws.take m).map sg)))]):=aa
 have Uv:pw≠q:=λz=>by rw[z,hq]at wA;cases wA
 have Ox:S q=none:=OA.free hq dq.1 dq.2
 generalize JH SA q (.lst [PV.str (ofL (gl [32] (sg "jars" :: (ws.take m).map sg)))])=SB at wB DB OB qB
 walk_at "1"
 walk_at "0"
 simp only[cH,ja,am,c3,ak,al,v3,lk,qh]
 refine JJ DB (by decide) (by decide) λc SC c0 c1 DC OC=>⟨by omega,by omega,?_⟩
 have wC:=OC _ _ wB fp.1 fp.2
 have Uw:=OC _ _ qB dq.1 dq.2
 refine cf (λdone σ S'=>∃R x1 x4,RS S' q R/\(∀r∈R,RK 0 r)/\R.length=1+done.length/\done.length<=(1+c).toNat/\S' pw=some (.lst (ws.map PV.str))/\Deal S' d l/\Oth d l S S'/\σ=[some (.ref d),x1,some (.ref pw),some (.ref q),x4]) ⟨[gl [32] (sg "jars" :: (ws.take m).map sg)],_,_,Uw,by simpa using rj,rfl,UZ _,wC,DC,OB.trans OC,rfl⟩ (λ_ _ _ _=>trivial) ?_ ?_
 .rintro done x rest σ S' K e ⟨R,x1,x4,hq',hR,hl',hd,hw',D',O',rfl⟩ hK
  have hlen:done.length+1<=(1+c).toNat:=by
   have:=U4 List.length e
   rw[bA,UK,UQ]at this
   omega
  have hq':S' q=some (.lst (R.map λr=>PV.str (ofL r))):=hq'
  simp only[Tg.put,List.set_cons_zero,List.set_cons_succ]
  refine ar λN2 M1=>?_
  simp only[ap,am,c3,ak,al,v3,lk,qh]
  refine JJ D' (by decide) (by decide) λr S7 r0 r1 D7 O7=>?_
  have w7:=O7 _ _ hw' fp.1 fp.2
  have q7:=O7 _ _ hq' dq.1 dq.2
  refine Qy D7 w7 fp.1 fp.2 (by omega) (by omega) (by omega) (by omega) (by omega) (by omega) λt S8 g8 d8 s8 D8 O8=>?_
  have w8:=O8 _ _ w7 fp.1 fp.2
  have q8:=O8 _ _ q7 dq.1 dq.2
  walk_at "1"
  refine M1 _ _ ?_
  simp only[bh,bL,v3,lk,gC,q8,al,am,c3,ak,af,aT,cJ,w8,UJ,VQ]
  refine JJ D8 (by omega) (by omega) λa S9 a0 a1 D9 O9=>?_
  have w9:=O9 _ _ w8 fp.1 fp.2
  have q9:=O9 _ _ q8 dq.1 dq.2
  obtain⟨z,hz,ez⟩:=oA a0 a1
  simp only[az,w9,ez,aG]
  have lz:(sg z).length<=6:=(hw z hz).1.le
  have hdl:(sg "deed ").length=5:=by decide +kernel
  have rd:=zb hw hz g8 (by omega)
  have Ux:=rd.tm.len
  have e5:(Str.ofString "deed ").length=5:=by decide +kernel
  have e3:(Str.ofString " : ").length=3:=by decide +kernel
  have ez':z.length=(sg z).length:=rfl
  have eq1:Str.ofString "deed " ++ z++Str.ofString " : " = ofL (sg "deed " ++ sg z++sg " : "):=by rw[<-cZ,<-cZ,eI,eI,eI]
  have Uy:Str.ofString "deed " ++ z=ofL (sg "deed " ++ sg z):=by rw[<-cZ,eI,eI]
  refine⟨ln (m:=1000) (by omega),ln (m:=1000) (by rw[Uy,JL,UK];omega),?_⟩
  have lr:(sg "deed " ++ sg z++sg " : " ++ tx t).length<=230:=Ux
  rw[UK]at lr
  refine Qz (ws:=ws) trivial (by omega) (jX hw g8) (by omega) λS10 QY=>?_
  have Uz:=QY _ _ q9
  rw[eq1]
  simp only[JL]
  refine⟨ln (m:=1000) (by omega),?_⟩
  rw[cZ]
  simp only[aI,Uz]
  refine⟨Hi (by rw[UJ];omega),?_⟩
  refine hK _ _ ⟨R++[sg "deed " ++ sg z++sg " : " ++ tx t],_,_,by unfold RS;rw[aa,U5];rfl,λr hr=>?_,by rw[UK,UK];simp;omega,by rw[UK];simpa using hlen,by rw[aj Uv];exact QY _ _ w9,(D9.ext QY).upd dq.1 dq.2,iW (O'.trans (O7.trans (O8.trans (O9.trans QY.PC)))) Ox,rfl⟩
  rcases UT.mp hr with hr|hr
  .exact hR r hr
  .rw[UM.mp hr];exact rd
 .rintro σ S' ⟨R,x1,x4,hq',hR,hl',hd,hw',D',O',rfl⟩
  rw[bA]at hl'
  refine hN _ _ ?_
  simp only[ax,v3,lk]
  exact k q R S' hq' ⟨hR,by omega,by omega⟩ dq.1 dq.2 D' O'
def Bo(R:List (List Nat)):Txt.join (Str.ofString "\n") (R.map ofL)=ofL (gl [10] R):=by
 show Builtin.Str.glued (ofL [10]) (R.map ofL)=_
 rw[PySem.StrLaws.glued_eq_join]
 have:=iH [10] (R.map ofL)
 rw[VF]at this
 have e:(R.map ((λz:Str=>z.cps.toList) ∘ ofL))=R:=by(conv=>rhs;rw[<-YD R]);rfl
 rw[e]at this
 rw[<-this,du]
def mP{R:List (List Nat)}{a:Addr}{S:aq}{Q:bP}(hS:RS S a R)(hl:(R.map f1).sum<=100000)(k:Q (.str (ofL (gl [10] R))) S):cG (.str (Str.ofString "\n")) [.ref a] S Q:=by
 have hS:S a=some (.lst (R.map λr=>PV.str (ofL r))):=hS
 simp only[cG,hS,Ja]
 have e:((R.map ofL).map (·.length)).sum+(R.map ofL).length * (Str.ofString "\n").length=(R.map f1).sum:=GV R
 rw[e]
 refine⟨by omega,?_⟩
 rw[Bo]
 exact k
theorem RL.sum{k:Nat}(hk:k<=2){R:List (List Nat)}(h:RL k R):(R.map f1).sum<=100000:=by
 have hne:R≠[]:=λz=>by have:=h.ne;rw[z]at this;cases this
 have e:=T9.bw 10 R hne
 change _=(R.map f1).sum at e
 have:=(h.th hk).len
 omega
structure TL(S:aq)(pt:Addr)(n:Nat)(Ts:List (List Nat)):Prop where
 at_:S pt=some (.lst (Ts.map λt=>PV.str (ofL t)))
 tf:∀t∈Ts,TH t
 len:Ts.length<=n
def TL.app{S:aq}{pt:Addr}{n:Nat}{Ts:List (List Nat)}(h:TL S pt n Ts){t:List Nat}(ht:TH t):TL (JH S pt (.lst (Ts.map (λt=>PV.str (ofL t))++[.str (ofL t)]))) pt (n+1) (Ts++[t]):=by
 refine⟨by rw[aa,U5];rfl,λx hx=>?_,by rw[UK];have:=h.len;simp;omega⟩
 rcases UT.mp hx with hx|hx
 .exact h.tf x hx
 .rw[UM.mp hx];exact ht
def TL.PC{S S':aq}{d l pt:Addr}{n:Nat}{Ts:List (List Nat)}(h:TL S pt n Ts)(O:Oth d l S S')(h1:pt≠d)(h2:pt≠l):TL S' pt n Ts:=⟨O _ _ h.at_ h1 h2,h.tf,h.len⟩
def TL.mono{S:aq}{pt:Addr}{n m:Nat}{Ts:List (List Nat)}(h:TL S pt n Ts)(hm:n<=m):TL S pt m Ts:=⟨h.at_,h.tf,UN h.len hm⟩
def qj{z:Str}(h:(GQ 1000 55 15 35 (sg z)&&(sg z).all (λc=>decide (c≠10)))=true):TH (sg z):=by
 simp only[Vl,VD,UY]at h
 have t:=td h.1
 have e:JK 10 (sg z)=[sg z]:=k9 10 _ λhc=>h.2 10 hc rfl
 have:=t.len
 exact⟨by omega,by rw[e];intro r hr;rw[UM.mp hr];exact t,by rw[e];exact V3 rfl⟩
abbrev Bp(w:aF):Prop:=∀{ns:Vu}{S:aq}{Q:bP}{E:cq},ns.length<=63->(∀S',Q (.bl true) S')->w [.cl (ns.map PV.int)] S Q E
def EZ{x0 x1 x2 x3 x4 x5:aF}(MA:pQ x0)(QA:rQ x1)(JJ:bW x2)(QB:tI x3)(QC:yW x4)(QD:rL x5):Bp (bV 9 (xS x0 x1 x2 x3 x4 x5)):=by
 intro ns S Q E hn k
 unfold xS
 refine j2 ?_
 rw[show aB 9 [PV.cl (ns.map PV.int)]=[some (.cl (ns.map PV.int)),none,none,none,none,none,none,none,none] from rfl]
 walk_at "5"
 simp only[ap,ak,al,v3,lk,c3]
 refine MA hn (by decide) (by decide) λd l S1 hd hl D1 X1=>?_
 walk_at "1"
 generalize PV.cl (ns.map PV.int)=v0
 walk_at "0"
 simp only[ap,ak,al,v3,lk]
 refine QA D1 λq0 R0 S2 R8 R9 n1 n2 D2 O2=>?_
 walk_at "1"
 walk_at "0"
 simp only[ap,aS,al,bL,c3,gC,v3,lk,VQ]
 refine mP R8 (R9.sum (by decide)) ?_
 intro pt PP
 have dt:=D2.free PP
 have D3:=D2.new (o:=.lst [PV.str (Str.ofString ""),PV.str (Str.ofString "jars"),PV.str (ofL (gl [10] R0))]) PP
 have X3:=Ext.new (o:=.lst [PV.str (Str.ofString ""),PV.str (Str.ofString "jars"),PV.str (ofL (gl [10] R0))]) PP
 have T3:TL (JH S2 pt (.lst [PV.str (Str.ofString ""),PV.str (Str.ofString "jars"),PV.str (ofL (gl [10] R0))])) pt 3 [sg "",sg "jars",gl [10] R0]:=⟨by rw[aa];rfl,λt ht=>by
  simp only[UI,UW,Vy]at ht
  rcases ht with rfl|rfl|rfl
  .exact qj (by decide +kernel)
  .exact qj (by decide +kernel)
  .exact R9.th (by decide),UH 3⟩
 have q3:RS (JH S2 pt (.lst [PV.str (Str.ofString ""),PV.str (Str.ofString "jars"),PV.str (ofL (gl [10] R0))])) q0 R0:=X3 _ _ R8
 have UA:pt≠q0:=λz=>by rw[z]at PP;rw[show S2 q0=_ from R8]at PP;cases PP
 generalize JH S2 pt (.lst [PV.str (Str.ofString ""),PV.str (Str.ofString "jars"),PV.str (ofL (gl [10] R0))])=S3 at D3 T3 q3
 walk_at "1"
 walk_at "0"
 simp only[cH,ja,c3]
 refine⟨by decide,by decide,?_⟩
 refine cf (λdone σ S'=>∃Ts,TL S' pt (3+done.length) Ts/\done.length<=5/\Deal S' d l/\RS S' q0 R0/\∃x4 x5 x6,σ=[some v0,some (.ref d),some (.ref q0),some (.ref pt),x4,x5,x6,none,none]) ⟨_,T3,UZ _,D3,q3,_,_,_,rfl⟩ (λ_ _ _ _=>trivial) ?_ ?_
 .rintro done x rest σ S4 K e ⟨Ts,hT,hdl,D4,q4,x4,x5,x6,rfl⟩ hK
  have hlen:done.length+1<=5:=by
   have:=U4 List.length e
   rw[bA,UK,UQ]at this
   simp at this
   omega
  simp only[Tg.put,List.set_cons_zero,List.set_cons_succ]
  refine ar λN2 M1=>?_
  simp only[ap,v3,lk,List.set_cons_zero,List.set_cons_succ]
  refine M1 _ _ (ar λN3 Pv=>?_)
  simp only[cH,ja,am,c3,ak,al,v3,lk,qh]
  refine JJ D4 (by decide) (by decide) λc S5 c0 c1 D5 O5=>⟨by omega,by omega,?_⟩
  refine cf (λdn σ S'=>∃q R x6,RS S' q R/\RL dn.length R/\q≠d/\q≠l/\dn.length<=(1+c).toNat/\Deal S' d l/\Oth d l S5 S'/\σ=[some v0,some (.ref d),some (.ref q0),some (.ref pt),some x,some (.ref q),x6,none,none]) ⟨q0,R0,_,O5 _ _ q4 n1 n2,R9,n1,n2,UZ _,D5,.refl,rfl⟩ (λ_ _ _ _=>trivial) ?_ ?_
  .rintro dn y rst σ S6 K2 e2 ⟨q,R,y6,hq,hR,m1,m2,hdn,D6,O6,rfl⟩ UB
   have hl2:dn.length+1<=(1+c).toNat:=by
    have:=U4 List.length e2
    rw[bA,UK,UQ]at this
    omega
   simp only[Tg.put,List.set_cons_zero,List.set_cons_succ,ap,ak,al,v3,lk]
   refine QB D6 hq hR (by omega) λq' R' S7 hq' hR' m1' m2' D7 O7=>?_
   exact UB _ _ ⟨q',R',_,hq',by rw[UK];exact hR',m1',m2',by rw[UK];simpa using hl2,D7,O6.trans O7,rfl⟩
  .rintro σ S6 ⟨q,R,y6,hq,hR,m1,m2,hdn,D6,O6,rfl⟩
   rw[bA]at hR
   have T6:=hT.PC (O5.trans O6) dt.1 dt.2
   have q6:RS S6 q0 R0:=(O5.trans O6) _ _ q4 n1 n2
   refine Pv _ _ ?_
   simp only[bh,bL,v3,lk,gC,T6.at_,al,c3,VQ]
   refine mP hq (hR.sum (by omega)) ?_
   simp only[aI,T6.at_]
   refine⟨Hi (by rw[UJ];have:=T6.len;omega),?_⟩
   refine hK _ _ ⟨_,(T6.app (hR.th (by omega))).mono (by rw[UK];simp;omega),by rw[UK];simpa using hlen,D6.upd dt.1 dt.2,?_,_,_,_,rfl⟩
   unfold RS
   rw[aj (VI UA)]
   exact q6
 .rintro σ S4 ⟨Ts,hT,-,D4,q4,x4,x5,x6,rfl⟩
  rw[bA]at hT
  have hl3:=hT.len
  walk_at "0"
  simp only[cH,bE,am,xv,v3,lk,u5,jZ,c3,hT.at_]
  refine⟨by decide,λp4 ON=>?_⟩
  have h4:=(Ext.new (o:=.lst (Ts.map λt=>PV.str (ofL t)).reverse) ON) _ _ hT.at_
  simp only[aG,h4,aa]
  refine⟨ln (m:=1000) (by simp;omega),λp5 Nw=>?_⟩
  rw[<-List.map_reverse,<-U5]
  have UC:∀t∈Ts++Ts.reverse,TH t:=λt ht=>by
   rcases UT.mp ht with ht|ht
   .exact hT.tf t ht
   .exact hT.tf t (List.mem_reverse.mp ht)
  simp only[eR,aa]
  have f5:JH (JH S4 p4 (.lst (Ts.reverse.map λt=>PV.str (ofL t)))) p5 (.lst ((Ts++Ts.reverse).map λt=>PV.str (ofL t))) p5=some (.lst ((Ts++Ts.reverse).map λt=>PV.str (ofL t))):=aa
  generalize JH (JH S4 p4 (.lst (Ts.reverse.map λt=>PV.str (ofL t)))) p5 (.lst ((Ts++Ts.reverse).map λt=>PV.str (ofL t)))=S5 at f5
  refine cf (λdn σ S'=>Ext S5 S'/\∃x7 x8,σ=[some v0,some (.ref d),some (.ref q0),some (.ref pt),x4,x5,x6,x7,x8]) ⟨.refl,_,_,rfl⟩ (λ_ _ _ h=>h.1 _ _ f5) ?_ ?_
  .rintro dn y rst σ S6 K e ⟨X6,y7,y8,rfl⟩ hK
   obtain⟨t,ht,rfl⟩:∃t∈Ts++Ts.reverse,PV.str (ofL t)=y:=Vf.mp (by rw[e];simp)
   have tf:=UC t ht
   obtain⟨z,hz⟩:=Bm tf
   simp only[Tg.put,List.set_cons_zero,List.set_cons_succ]
   refine ar λN2 M1=>?_
   simp only[ap,ak,al,v3,lk]
   refine QC tf λS7 X7=>?_
   walk_at "1"
   refine M1 _ _ ?_
   simp only[a_,aH,am,af,ak,al,v3,lk]
   refine QD tf λS8 X8=>?_
   refine hz ?_
   simp only[bG,al,am,aS,c3,af,v3,lk]
   intro p9 hp9
   have X9:=X8.trans (Ext.new (o:=.lst [.str (Str.ofString "told"),.str (Str.ofString "refused")]) hp9)
   have f9:JH S8 p9 (.lst [.str (Str.ofString "told"),.str (Str.ofString "refused")]) p9=_:=aa
   generalize JH S8 p9 (.lst [.str (Str.ofString "told"),.str (Str.ofString "refused")])=S9 at X9 f9
   have fin:K [some v0,some (.ref d),some (.ref q0),some (.ref pt),x4,x5,x6,some (.str (ofL t)),some (Fd (hrd t))] S9:=hK _ _ ⟨X6.trans (X7.trans X9),_,_,rfl⟩
   have last:∀v,IK (hrd t)=v->mC [v] S9 λv S'=>bo true (.str z) v S' λv S'=>match v with
     | .bl b=>if b=true then ax (c3 (.bl false)) { nx:=K,ct:=K,bk:=N,rt:=Q,ex:=fu } [some v0,some (.ref d),some (.ref q0),some (.ref pt),x4,x5,x6,some (.str (ofL t)),some (Fd (hrd t))] S' else aJ { nx:=K,ct:=K,bk:=N,rt:=Q,ex:=fu } [some v0,some (.ref d),some (.ref q0),some (.ref pt),x4,x5,x6,some (.str (ofL t)),some (Fd (hrd t))] S'
     |_=>False:=by
    rintro v rfl
    refine hz ?_
    simp only[bo,decide_true,WB,VW,UR,Vx,aJ]
    exact fin
   cases e2:hrd t with
   |inl n=>
    rw[e2]at last
    simp only[Fd,eC,pC]
    refine⟨by decide,?_⟩
    rw[show dk "int" "int" = true by decide]
    simp only[cr,iA,az,f9,VL,DX]
    exact last _ rfl
   |inr q=>
    rw[e2]at last
    simp only[Fd,GX,eC,pC]
    refine⟨by decide,?_⟩
    rw[show dk "tuple" "int" = false by decide]
    simp only[cr,iA,az,f9,UR,Vx,rc]
    exact last _ rfl
  .rintro σ S6 ⟨X6,y7,y8,rfl⟩
   refine hN _ _ ?_
   simp only[ax,c3]
   exact k S6
def hZ:bW w__law_draw:=JJ
theorem tJ:∀n,gx n (bX n)
 |0=>λ_ _ _ _ _ _ _ _ h0 h1 _=>by omega
 |n+1=>yo hZ (yn hZ LQ) n (tJ n)
def E1{t:Bd}(h:t.dep<=0):False:=by have:=t.OJ;omega
theorem oN:∀n,lI n (bR n)
 |0=>λ_ h _ _ _=>(E1 h).elim
 |n+1=>uX yp n (oN n)
def lN:jv cI:=uU AT
def Bq:xV bI:=xW xU uP
def Br:xZ fM:=x_ Bq uV lN
theorem tK:∀n,sN n (dF n)
 |0=>λ_ _ h=>absurd h (Nat.not_lt_zero _)
 |n+1=>yd ya Br n (tK n)
def Bs:yf fP:=yg uW (tK 36)
def Bt:yS eM:=yT (yQ lN) (yR ya lN Bs)
def Bu:rL f7:=yX Bt yi
def E2:sR bO:=AZ LQ
def oO:mM bi:=yt Me
def G0:yK cR:=EN AX (B7 E2 oO 72).2 (oN 36)
def E4:yW hJ:=Bi oO (yV oO G0)
def zd:oK dX:=rO hZ yN
def Bv:rQ cU:=zc hZ (MG hZ Me) (tJ 12) (oN 36)
def ze:∀ns:List Int,ns.length<=63->pX [.cl (ns.map PV.int)] (λ_=>none) (λv _=>v = .bl true) fu:=λns h=>EZ MA Bv hZ (rP hZ zd) E4 Bu h λ_=>rfl
end G08
namespace L3
open PySem L2 Xc
def kn{P:List Value->Prop}(h:∀a,P [a])(us:Vv)(hl:us.length=1):P us:=match us,hl with|[_],_=>h _
def va{P:List Value->Prop}(h:∀a b,P [a,b])(us:Vv)(hl:us.length=2):P us:=match us,hl with|[_,_],_=>h _ _
def JB{P:List Value->Prop}(h:∀a b c d,P [a,b,c,d])(us:Vv)(hl:us.length=4):P us:=match us,hl with|[_,_,_,_],_=>h _ _ _ _
section
variable {K:Vo}{h:Heap}{mg:Vr}{x c m q:Str}{st:Stmt}{ps fl:Vs}
noncomputable def uY:Option (Option Value)->Bool
 |some none=>true
 |_=>false
def tL{o:Option (Option Value)}(h:uY o=true):o=some none:=by
 unfold uY at h;split at h
 .rfl
 .cases h
def FnAt(K:Vo)(f:Addr)(m q:Str)(st:Stmt):Prop:=∃(oc kV doc pm cdv ct:Value)(od an:Option Addr)(osl:Array (Option Value)),
 K.lookup f=some ⟨oc,od,.func (PySem.W.fnOf m q (cW st) (bj st) (aC st) .none kV doc pm an cdv ct),osl⟩/\PySem.W.codeIn K cdv q=true/\PySem.W.keepIn K (.ref f)=true
abbrev tM(m q:Str)(st:Stmt)(ps:Vs):Prop:=∀(kV doc pm:Value)(an:Option Addr)(cdv ct:Value)(us:Vv),us.length=ps.length->bindArgs (PySem.W.fnOf m q (cW st) (bj st) (aC st) .none kV doc pm an cdv ct) ⟨us,[]⟩=pure (ps.zip us)
def FnAt.mk{f:Addr}(a:FnAt K f m q st)(hb:tM m q st ps):∃fd,N5 K m q st f fd/\Binds K fd ps []/\PySem.W.keepIn K (.ref f)=true:=by
 obtain⟨oc,kV,doc,pm,cdv,ct,od,an,osl,l,cc,k⟩:=a
 exact⟨_,nh l cc k,(nh l cc k).binds hb,k⟩
def KG(K:Vo)(x:Str)(st:Stmt):Prop:=∃f,PySem.W.nsIn K mainGlobals x=some (some (.ref f))/\FnAt K f x x st
def KG.own(X:K.In h)(G:h.Ns mainGlobals mg)(a:KG K x st)(hb:tM x x st ps):bu K mg x st ps:=by
 obtain⟨f,n,a⟩:=a
 obtain⟨fd,F,b,k⟩:=a.mk hb
 exact⟨f,fd,F,b,k,WT X G n⟩
def KG.law{fa:Addr}(X:K.In h)(G:h.Ns mainGlobals mg)(a:KG K x st)(hfa:mg x=some (.ref fa))(hb:tM x x st ps):∃kV doc pm an cdv ct,Hb K mg x st ps fa (PySem.W.fnOf x x (cW st) (bj st) (aC st) .none kV doc pm an cdv ct):=by
 obtain⟨f,n,oc,kV,doc,pm,cdv,ct,od,an,osl,l,cc,k⟩:=a
 cases hfa.symm.trans (WT X G n)
 exact⟨kV,doc,pm,an,cdv,ct,nh l cc k,(nh l cc k).binds hb,k,hfa⟩
def Ci{z:Str}(X:K.In h)(G:h.Ns mainGlobals mg)(a:∃t,PySem.W.nsIn K mainGlobals x=some (some (.str z t))):∃t,mg x=some (.str z t):=let ⟨t,e⟩:=a;⟨t,WT X G e⟩
def OY(K:Vo)(c q:Str)(st:Stmt)(fl:Vs):Prop:=∃C f,PySem.W.nsIn K mainGlobals c=some (some (.ref C))/\PySem.W.findIn K (.ref C) "__init__" = some (some (.ref f))/\PySem.W.isFn K (.ref f)=true/\FnAt K f "__init__" q st/\PySem.W.keepIn K (.ref C)=true/\
 PySem.W.findIn K (.ref C) "__setattr__" = some (some (.builtin "object.__setattr__"))/\PySem.W.findIn K (.ref C) "__getattribute__" = some (some (.builtin "BaseException.__getattribute__"))/\PySem.W.findIn K (.ref C) "__getattr__" = some none/\
 PySem.W.mroIn K C (.type "BaseException")=some true/\PySem.W.mroIn K C (.type "object")=some true/\PySem.W.findIn K (.ref C) "__class__" = some (some (.builtin "object.__class__"))/\
 PySem.W.specialIn K (.builtin "object.__class__") "__get__" = some (some (.builtin "getset_descriptor.__get__"))/\PySem.W.takesIn K (.builtin "object.__class__")=some true/\
 (ir K C&&(PySem.W.kitOne K (.ref C) (.type "ValueError") == some true)&&fl.all λf=>uY (PySem.W.findIn K (.ref C) f))=true
def OY.ek(a:OY K c q st fl):∃C,Kl K c C/\ExcK K C/\PySem.W.kitOne K (.ref C) (.type "ValueError")=some true/\∀f∈fl,NoAttr K C f:=by
 obtain⟨C,f,n,i1,i2,i3,i4,e1,e2,e3,e4,e5,e6,e7,e8,r⟩:=a
 simp only[Vl,VD]at r
 obtain⟨⟨r1,r2⟩,r3⟩:=r
 exact⟨C,n,⟨r1,e1,e2,e3,e4,e5,e6,e7,e8⟩,eq_of_beq r2,λf hf=>tL (r3 f hf)⟩
def OY.xc(X:K.In h)(G:h.Ns mainGlobals mg)(a:OY K c q st fl)(hb:tM "__init__" q st ps):Hc K mg c q st ps fl:=by
 obtain⟨C',n',ek,_,na⟩:=a.ek
 obtain⟨C,f,n,i1,i2,i3,i4,_⟩:=a
 have e:=Kl.inj (c:=c) n' n;subst e
 obtain⟨fd,F,b,kp⟩:=i3.mk hb
 exact⟨_,f,fd,F,b,n,WT X G n,ek,na,i1,i2,i4⟩
def qk(X:K.In h)(G:h.Ns mainGlobals mg)(a:∃C,PySem.W.nsIn K mainGlobals c=some (some (.ref C))):zm K mg c:=let ⟨C,e⟩:=a;⟨C,WT X G e,e⟩
def QE(K:Vo)(D:Str)(cs:Vs):Prop:=∃C,PySem.W.nsIn K mainGlobals D=some (some (.ref C))/\PySem.W.typeIn K (.ref C)=some (.type "type")/\PySem.W.hasDictIn K C=true/\PySem.W.mroIn K C (.type "BaseException")=some true/\
 (cs.all λc=>match PySem.W.nsIn K mainGlobals c with|some (some (.ref B))=>PySem.W.mroIn K B (.ref C) == some true|_=>false)=true
theorem tN{C:Addr}:∀{cs:Vs},(cs.all λc=>match PySem.W.nsIn K mainGlobals c with|some (some (.ref B))=>PySem.W.mroIn K B (.ref C) == some true|_=>false)=true->Nd K C cs
 |[],_=>trivial
 |d::cs,e=>by
  rw[Yi,Vl]at e
  obtain⟨e1,e2⟩:=e
  refine⟨?_,tN e2⟩
  split at e1
  .rename_i B hB;exact⟨B,hB,eq_of_beq e1⟩
  .cases e1
def QE.xe(X:K.In h)(G:h.Ns mainGlobals mg){cs:Vs}(a:QE K x cs):Gf K mg x cs:=by
 obtain⟨C,n,t,d,b,r⟩:=a
 exact⟨C,WT X G n,⟨t,(by obtain⟨cd,hc,_⟩:=PySem.W.any_some d;rw[hc];rfl),b⟩,tN r⟩
def zg{l:List (Str×Str)}(r:∀p∈l,∃q st fl,OY K p.1 q st fl/\p.2∈fl):Mg K l:=by
 induction l with
 |nil=>trivial
 |cons p l ih=>
  obtain⟨q,st,fl,a,hf⟩:=r p (by simp)
  obtain⟨C,n,ek,_,na⟩:=a.ek
  exact⟨⟨C,n,ek,na _ hf⟩,ih λp' hp=>r p' (by simp[hp])⟩
def Bw(K:Vo)(l:List (Str×Str×Bool)):Prop:=(l.all λt=>match PySem.W.nsIn K mainGlobals t.1,PySem.W.nsIn K mainGlobals t.2.1 with|some (some (.ref C)),some (some (.ref D))=>PySem.W.kitOne K (.ref C) (.ref D) == some t.2.2|_,_=>false)=true
def Bx{l:List (Str×Str×Bool)}(e:Bw K l)(r:∀p∈l,∃q st fl,OY K p.1 q st fl):XTab K l:=by
 induction l with
 |nil=>trivial
 |cons p l ih=>
  unfold Bw at e
  rw[Yi,Vl]at e
  obtain⟨e1,e2⟩:=e
  obtain⟨c,d,b⟩:=p
  refine⟨?_,ih e2 λp' hp=>r p' (by simp[hp])⟩
  obtain⟨q,st,fl,a⟩:=r (c,d,b) (by simp)
  obtain⟨C',n',ek,kv,_⟩:=a.ek
  split at e1
  .rename_i C D h1 h2
   have e:=Kl.inj (c:=c) n' h1;subst e
   exact⟨_,D,h1,h2,ek,eq_of_beq e1,kv⟩
  .cases e1
def h_(X:K.In h)(G:h.Ns mainGlobals mg){l:Vs}(a:(l.all λx=>uY (PySem.W.nsIn K mainGlobals x))=true)(hx:x∈l:=by decide):mg x=none:=PySem.W.mg_none_of X G (tL (VD.mp a x hx))
section
variable {f C:Addr}{oc kV doc pm cdv ct:Value}{od an:Option Addr}{osl:Array (Option Value)}
def JC(n:PySem.W.nsIn K mainGlobals x=some (some (.ref f)))(l:K.lookup f=some ⟨oc,od,.func (PySem.W.fnOf x x (cW st) (bj st) (aC st) .none kV doc pm an cdv ct),osl⟩)(cc:PySem.W.codeIn K cdv x=true)(k:PySem.W.keepIn K (.ref f)=true):KG K x st:=⟨f,n,oc,kV,doc,pm,cdv,ct,od,an,osl,l,cc,k⟩
def JD(n:PySem.W.nsIn K mainGlobals c=some (some (.ref C)))(e:PySem.W.findIn K (.ref C) "__init__" = some (some (.ref f)))(i:PySem.W.isFn K (.ref f)=true)(l:K.lookup f=some ⟨oc,od,.func (PySem.W.fnOf "__init__" q (cW st) (bj st) (aC st) .none kV doc pm an cdv ct),osl⟩)(cc:PySem.W.codeIn K cdv q=true)(k:PySem.W.keepIn K (.ref f)=true)(kc:PySem.W.keepIn K (.ref C)=true)
  (e1:PySem.W.findIn K (.ref C) "__setattr__" = some (some (.builtin "object.__setattr__"))) (e2:PySem.W.findIn K (.ref C) "__getattribute__" = some (some (.builtin "BaseException.__getattribute__"))) (e3:PySem.W.findIn K (.ref C) "__getattr__" = some none)
  (e4:PySem.W.mroIn K C (.type "BaseException")=some true) (e5:PySem.W.mroIn K C (.type "object")=some true) (e6:PySem.W.findIn K (.ref C) "__class__" = some (some (.builtin "object.__class__")))
  (e7:PySem.W.specialIn K (.builtin "object.__class__") "__get__" = some (some (.builtin "getset_descriptor.__get__"))) (e8:PySem.W.takesIn K (.builtin "object.__class__")=some true)
  (r:(ir K C&&(PySem.W.kitOne K (.ref C) (.type "ValueError") == some true)&&fl.all λf=>uY (PySem.W.findIn K (.ref C) f))=true):OY K c q st fl:=⟨C,f,n,e,i,⟨oc,kV,doc,pm,cdv,ct,od,an,osl,l,cc,k⟩,kc,e1,e2,e3,e4,e5,e6,e7,e8,r⟩
def JE{cs:Vs}(n:PySem.W.nsIn K mainGlobals x=some (some (.ref C)))(t:PySem.W.typeIn K (.ref C)=some (.type "type"))(d:PySem.W.hasDictIn K C=true)(b:PySem.W.mroIn K C (.type "BaseException")=some true)
  (r:(cs.all λc=>match PySem.W.nsIn K mainGlobals c with|some (some (.ref B))=>PySem.W.mroIn K B (.ref C) == some true|_=>false)=true):QE K x cs:=⟨C,n,t,d,b,r⟩
def Cj(n:PySem.W.nsIn K mainGlobals x=some (some (.ref C))):∃C,PySem.W.nsIn K mainGlobals x=some (some (.ref C)):=⟨C,n⟩
def sk{z:Str}{t:Tok}(n:PySem.W.nsIn K mainGlobals x=some (some (.str z t))):∃t,PySem.W.nsIn K mainGlobals x=some (some (.str z t)):=⟨t,n⟩
end
end
end L3
namespace L2
open PySem PySem.Spec PyProof.Rows
noncomputable def jz:List Value->List Str->Bool
 |[],[]=>true
 | .str z _::r,y::q=>z == y&&jz r q
 |_,_=>false
theorem tO:∀{zs:Vs}{vs:Vv},jz vs zs=true->Vals (zs.map V.str) vs
 |[],[],_=>.nil
 |y::q,v::r,h=>by
  cases v<;>simp only[jz,UR,Vl,XF]at h
  obtain⟨rfl,h⟩:=h
  exact .cons ⟨_,rfl⟩ (tO h)
 |[],v::r,h=>by cases v<;>simp[jz]at h
 |y::q,[],h=>by simp[jz]at h
noncomputable def By(o:Obj)(zs:Vs):Bool:=(match o.cls with | .type n=>n == "tuple" | _=>false)&&o.dict.isNone&&(match o.data with | .seq its _=>decide (its.size<=100)&&jz its.toList zs|_=>false)
def Ck{K:Vo}{a:Addr}{o:Obj}{zs:Vs}(l:K.lookup a=some o)(h:By o zs=true):DQ K a zs:=by
 unfold By at h
 simp only[Vl]at h
 obtain⟨⟨h1,h2⟩,h3⟩:=h
 split at h1
 .rename_i e1
  split at h3
  .rename_i its n e3
   simp only[Vl,UY]at h3
   refine⟨o,its,n,l,?_,by simpa using h2,e3,UN h3.1 (by decide),tO h3.2⟩
   rw[e1,eq_of_beq h1]
  .cases h3
 .cases h1
noncomputable abbrev Hj(w:World)(x:Str×Addr×Tok):DictEntry:=⟨PyData.keyHash w.params x.1,.str x.1 x.2.2,.ref x.2.1⟩
noncomputable def uZ(K:Vo):List (Str×Addr×Tok)->List (Str×List Str)->Bool
 |[],[]=>true
 |(z,b,_)::r,(y,zs)::q=>z == y&&(match K.lookup b with|some o=>By o zs|none=>false)&&uZ K r q
 |_,_=>false
theorem Cl{K:Vo}:∀{xs:List (Str×Addr×Tok)}{fs:List (Str×List Str)},uZ K xs fs=true->OI K (xs.map λx=>((Sum.inr x.1:bp),V.ref x.2.1)) fs
 |[],[],_=>.nil
 |(z,b,t)::r,(y,zs)::q,h=>by
  simp only[uZ,Vl,XF]at h
  obtain⟨⟨rfl,h1⟩,h2⟩:=h
  split at h1
  .rename_i o e
   exact .cons (Ck e h1) (Cl h2)
  .cases h1
 |[],_::_,h=>by simp[uZ]at h
 |_::_,[],h=>by simp[uZ]at h
def E5(P:Program)(w:World){K:Vo}{fs:List (Str×List Str)}(xs:List (Str×Addr×Tok))(ep:Nat)(nd:(xs.map (·.1)).Nodup)(hk:uZ K xs fs=true) :
  ∃kvs vs,KV kvs vs/\Obj.IsDictOf (aW P w) { cls:=.type "dict",data:=.dict (xs.map (Hj w)).toArray ep } vs/\OI K kvs fs:=by
 refine⟨_,xs.map λx=>((Sum.inr x.1:bp),Value.ref x.2.1),?_,⟨(xs.map (Hj w)).toArray,ep,⟨rfl,rfl,rfl⟩,rfl,?_,?_,?_⟩,Cl hk⟩
 .clear hk nd
  induction xs with
  |nil=>exact .nil
  |cons x xs ih=>exact .cons ⟨rfl,rfl⟩ ih
 .intro e he
  have he':e∈xs.map (Hj w):=by simpa using he
  obtain⟨x,_,rfl⟩:=Vf.mp he'
  exact⟨Sum.inr x.1,iY x.1 x.2.2,vX w x.1⟩
 .have key:∀ys:List (Str×Addr×Tok),Pairs (aW P w) (ys.map (Hj w)) (ys.map λx=>((Sum.inr x.1:bp),Value.ref x.2.1)):=by
   intro ys
   induction ys with
   |nil=>exact .nil
   |cons y ys ih=>exact .cons (iY y.1 y.2.2) rfl ih
  exact key xs
 .rw[VF]
  have key:∀ys:List (Str×Addr×Tok),(ys.map (·.1)).Nodup->(ys.map λx=>(Sum.inr x.1:bp)).Nodup:=by
   intro ys
   induction ys with
   |nil=>intro _;exact List.nodup_nil
   |cons y ys ih=>
    intro h
    rw[UE,Vz]at h ⊢
    refine⟨λhm=>h.1 ?_,ih h.2⟩
    obtain⟨z,hz,e⟩:=Vf.mp hm
    have e':z.1=y.1:=Sum.inr.inj e
    exact Vf.mpr ⟨z,hz,e'⟩
  exact key xs nd
end L2
namespace L3
open PySem L2
section
variable {K:Vo}{h:Heap}{mg:Vr}{x:Str}{f:Addr}{o:Obj}{zs:Vs}{P:Program}{w:World}{fs:List (Str×List Str)}
def QZ(K:Vo)(x:Str)(zs:Vs):Prop:=∃a,PySem.W.nsIn K mainGlobals x=some (some (.ref a))/\DQ K a zs
def QZ.ts(X:K.In h)(G:h.Ns mainGlobals mg)(a:QZ K x zs):∃a,mg x=some (.ref a)/\DQ K a zs:=let ⟨a,n,k⟩:=a;⟨a,WT X G n,k⟩
def JF(n:PySem.W.nsIn K mainGlobals x=some (some (.ref f)))(l:K.lookup f=some o)(b:By o zs=true):QZ K x zs:=⟨f,n,Ck l b⟩
def Q0(P:Program)(w:World)(K:Vo)(x:Str)(fs:List (Str×List Str)):Prop:=∃a,PySem.W.nsIn K mainGlobals x=some (some (.ref a))/\KF P w K a fs
def Q0.kf(X:K.In h)(G:h.Ns mainGlobals mg)(a:Q0 P w K x fs):∃a,mg x=some (.ref a)/\KF P w K a fs:=let ⟨a,n,k⟩:=a;⟨a,WT X G n,k⟩
def JG(n:PySem.W.nsIn K mainGlobals x=some (some (.ref f)))(l:K.lookup f=some o)(s:(f == sysModules)=false)(v:∃kvs vs,KV kvs vs/\Obj.IsDictOf (aW P w) o vs/\OI K kvs fs):Q0 P w K x fs:=
 let ⟨kvs,vs,a,b,c⟩:=v
 ⟨f,n,kvs,⟨s,o,vs,l,a,b⟩,c⟩
end
end L3
namespace G08
open PySem L2 L3
def E6{l:PySem.W.OpenLaw}{w:World}{K:Vo}{h:Heap}{mg:Vr}{fa:Addr}(X:K.In h)(G:h.Ns mainGlobals mg)(hfa:mg "law" = some (.ref fa))
  (LD:KG K "common" (top 11))
  (Kg:KG K "read_figures" (top 12))
  (JU:KG K "read_from_nought_on" (top 13))
  (Lk:KG K "is_name" (top 17))
  (KH:KG K "read_name" (top 20))
  (Kp:KG K "read_things" (top 21))
  (KI:KG K "read_word" (top 22))
  (Kq:KG K "split_words" (top 23))
  (Ll:KG K "word_at" (top 24))
  (KJ:KG K "read_part" (top 25))
  (KK:KG K "read_body" (top 26))
  (KL:KG K "read_jars" (top 27))
  (KM:KG K "read_deed" (top 28))
  (Kv:KG K "read_house" (top 29))
  (KN:KG K "_law_deal" (top 31))
  (KO:KG K "_law_draw" (top 32))
  (Kw:KG K "_law_signs" (top 33))
  (K0:KG K "_law_low" (top 34))
  (KP:KG K "_law_kept" (top 35))
  (KQ:KG K "_law_name" (top 36))
  (J9:KG K "_law_any_leaf" (top 37))
  (J_:KG K "_law_any_body" (top 38))
  (J4:KG K "_law_cost_text" (top 39))
  (J5:KG K "_law_body_text" (top 40))
  (Kh:KG K "_law_is_name" (top 41))
  (KR:KG K "_law_tree" (top 42))
  (Ki:KG K "_law_cost_of" (top 43))
  (Ka:KG K "_law_thing_of" (top 44))
  (Kj:KG K "_law_body_of" (top 45))
  (Kb:KG K "_law_body_due" (top 46))
  (Kr:KG K "_law_spoilt" (top 47))
  (Kc:KG K "_law_any_text" (top 48))
  (Ke:KG K "_law_deed_due" (top 49))
  (K1:KG K "_law_due" (top 50))
  (Kx:KG K "_law_heard" (top 51))
  (KS:KG K "_law_read" (top 52))
  (Kk:KG K "_law_changed" (top 53))
  (Lm:∃t,PySem.W.nsIn K mainGlobals "FIGURES" = some (some (.str "0123456789" t)))
  (LW:Q0 l.prog w K "FORMS" [("pay",["cost"]),("put",["name","things"]),("then",["body","body"]),("either",["body","body"]),("take",["name","things","body","body"]),("often",["body"]),("use",["name"])])
  (Ky:QZ K "KEPT_WORDS" ["jars","deed","rest","pay","put","then","either","take","often","use"])
  (Ln:∃t,PySem.W.nsIn K mainGlobals "LETTERS" = some (some (.str "abcdefghijklmnopqrstuvwxyz" t)))
  (K3:∃C,PySem.W.nsIn K mainGlobals "DueError" = some (some (.ref C)))
  (Lo:∃C,PySem.W.nsIn K mainGlobals "BadText" = some (some (.ref C)))
  (Lp:∃C,PySem.W.nsIn K mainGlobals "NoHouse" = some (some (.ref C)))
  (LX:∃C,PySem.W.nsIn K mainGlobals "Stuck" = some (some (.ref C)))
  (Lq:∃C,PySem.W.nsIn K mainGlobals "TooLong" = some (some (.ref C)))
  (Lr:∃C,PySem.W.nsIn K mainGlobals "NoStory" = some (some (.ref C)))
  (Ls:∃C,PySem.W.nsIn K mainGlobals "TooMany" = some (some (.ref C)))
  (LY:∃C,PySem.W.nsIn K mainGlobals "NoRow" = some (some (.ref C)))
  (JQ:OY K "BadText" "BadText.__init__" (mt 2 0) ["row"])
  (Lu:QE K "BadText" ["BadText"])
  (K4:QE K "DueError" ["BadText"])
  (Oq:Bw K MP)
  (M5:((["ValueError","abs","all","bool","int","isinstance","len","list","max","range","repr","reversed","str","tuple","zip"]:Vs).all λx=>uY (PySem.W.nsIn K mainGlobals x))=true)
  (Os:KG K "law" (top 54))
  : ∃fd:FuncData,FL fd ["_law_script"]/\(∀(s:Shared) (v:Value),BindsTo s fd ⟨[v],[]⟩ [("_law_script",v)])/\∀base:Heap,K.In base->base.Ns mainGlobals mg->lQ l.prog w K mg base oP 78 fa fd ["_law_script"] (Ga K 1 pX):=by
 obtain⟨kV,doc,pm,an,cdv,ct,O⟩:=Os.law X G hfa (ps:=["_law_script"]) (λ_ _ _ _ _ _=>kn λ_=>rfl)
 exact⟨_,by rfl,λs v=>.of_eq rfl,λbase _ _=>(Ep (P:=l.prog) (w:=w) (base:=base) ⟨LD.own X G (λ_ _ _ _ _ _=>va λ_ _=>rfl),
  Kg.own X G (λ_ _ _ _ _ _=>kn λ_=>rfl),
  JU.own X G (λ_ _ _ _ _ _=>kn λ_=>rfl),
  Lk.own X G (λ_ _ _ _ _ _=>kn λ_=>rfl),
  KH.own X G (λ_ _ _ _ _ _=>kn λ_=>rfl),
  Kp.own X G (λ_ _ _ _ _ _=>kn λ_=>rfl),
  KI.own X G (λ_ _ _ _ _ _=>va λ_ _=>rfl),
  Kq.own X G (λ_ _ _ _ _ _=>kn λ_=>rfl),
  Ll.own X G (λ_ _ _ _ _ _=>va λ_ _=>rfl),
  KJ.own X G (λ_ _ _ _ _ _=>va λ_ _=>rfl),
  KK.own X G (λ_ _ _ _ _ _=>kn λ_=>rfl),
  KL.own X G (λ_ _ _ _ _ _=>kn λ_=>rfl),
  KM.own X G (λ_ _ _ _ _ _=>kn λ_=>rfl),
  Kv.own X G (λ_ _ _ _ _ _=>kn λ_=>rfl),
  KN.own X G (λ_ _ _ _ _ _=>va λ_ _=>rfl),
  KO.own X G (λ_ _ _ _ _ _=>va λ_ _=>rfl),
  Kw.own X G (λ_ _ _ _ _ _ us hl=>match us,hl with|[],_=>rfl),
  K0.own X G (λ_ _ _ _ _ _=>va λ_ _=>rfl),
  KP.own X G (λ_ _ _ _ _ _ us hl=>match us,hl with|[],_=>rfl),
  KQ.own X G (λ_ _ _ _ _ _=>kn λ_=>rfl),
  J9.own X G (λ_ _ _ _ _ _=>va λ_ _=>rfl),
  J_.own X G (λ_ _ _ _ _ _=>JB λ_ _ _ _=>rfl),
  J4.own X G (λ_ _ _ _ _ _=>kn λ_=>rfl),
  J5.own X G (λ_ _ _ _ _ _=>kn λ_=>rfl),
  Kh.own X G (λ_ _ _ _ _ _=>kn λ_=>rfl),
  KR.own X G (λ_ _ _ _ _ _=>kn λ_=>rfl),
  Ki.own X G (λ_ _ _ _ _ _=>kn λ_=>rfl),
  Ka.own X G (λ_ _ _ _ _ _=>va λ_ _=>rfl),
  Kj.own X G (λ_ _ _ _ _ _=>kn λ_=>rfl),
  Kb.own X G (λ_ _ _ _ _ _=>kn λ_=>rfl),
  Kr.own X G (λ_ _ _ _ _ _=>va λ_ _=>rfl),
  Kc.own X G (λ_ _ _ _ _ _=>kn λ_=>rfl),
  Ke.own X G (λ_ _ _ _ _ _=>kn λ_=>rfl),
  K1.own X G (λ_ _ _ _ _ _=>kn λ_=>rfl),
  Kx.own X G (λ_ _ _ _ _ _=>kn λ_=>rfl),
  KS.own X G (λ_ _ _ _ _ _=>kn λ_=>rfl),
  Kk.own X G (λ_ _ _ _ _ _=>va λ_ _=>rfl),
  h_ (x:="ValueError") X G M5,
  h_ (x:="abs") X G M5,
  h_ (x:="all") X G M5,
  h_ (x:="bool") X G M5,
  h_ (x:="int") X G M5,
  h_ (x:="isinstance") X G M5,
  h_ (x:="len") X G M5,
  h_ (x:="list") X G M5,
  h_ (x:="max") X G M5,
  h_ (x:="range") X G M5,
  h_ (x:="repr") X G M5,
  h_ (x:="reversed") X G M5,
  h_ (x:="str") X G M5,
  h_ (x:="tuple") X G M5,
  h_ (x:="zip") X G M5,
  Ci X G Lm,
  LW.kf X G,
  Ky.ts X G,
  Ci X G Ln,
  qk X G K3,
  qk X G Lo,
  qk X G Lp,
  qk X G LX,
  qk X G Lq,
  qk X G Lr,
  qk X G Ls,
  qk X G LY,
  JQ.xc X G (λ_ _ _ _ _ _=>va λ_ _=>rfl),
  Lu.xe X G,
  K4.xe X G,
  zg (by intro p hp;simp only[QS,UI,UW,Vy]at hp;rcases hp with rfl;exact⟨_,_,_,JQ,by decide⟩),
  Bx Oq (by intro p hp;simp only[MP,UI,UW,Vy]at hp;rcases hp with rfl|rfl|rfl|rfl|rfl|rfl|rfl;exact⟨_,_,_,JQ⟩;exact⟨_,_,_,JQ⟩;exact⟨_,_,_,JQ⟩;exact⟨_,_,_,JQ⟩;exact⟨_,_,_,JQ⟩;exact⟨_,_,_,JQ⟩;exact⟨_,_,_,JQ⟩)⟩ O).ok⟩
def IM{l:PySem.W.OpenLaw}{q:Program}{loose:Vs}{XP:(Vr)->Heap->Prop}{YP:World->Heap->Prop}{d:DefRec}{K:Params->PySem.W.Frag}(hn:l.most=some 63)(hdf:d.params.defaults=[])
  (hY:∀(w:World)(h:Heap),YP w h->(K w.params).In h)
  (F:∀(w:World)(mg:Vr)(fa:Addr)(h:Heap),(K w.params).In h->h.Ns mainGlobals mg->mg d.name=some (.ref fa)->
   ∃fd:FuncData,FL fd ["_law_script"]/\(∀(s:Shared) (u:Value),BindsTo s fd ⟨[u],[]⟩ [("_law_script",u)])/\∀base:Heap,(K w.params).In base->base.Ns mainGlobals mg->lQ l.prog w (K w.params) mg base oP 78 fa fd ["_law_script"] (Ga (K w.params) 1 pX)) :
  PySem.W.WalkO q loose XP YP l.row.toRowW d [] (λf vs=>PySem.call f vs):=
 L2.zR (n:=63) (k:=78) (x:="_law_script") (CX:=λ_=>oP) (sp:=λw=>Ga (K w.params) 1 pX) hn (by decide) hdf ⟨λ_=>rfl,by decide,by decide,rfl⟩ hY F (λ_ _ a ns hl hO hS=>H_ hO hS (ze ns hl)) λ_ _ _ _ _ z=>z
end G08
local macro_rules | `(tactic| walk_at "k")=>`(tactic| (apply L3.JC; k_is; k_is; k_is; k_is))
local macro_rules | `(tactic| walk_at "e")=>`(tactic| (apply L3.JD; k_is; k_is; k_is; k_is; k_is; k_is; k_is; k_is; k_is; k_is; k_is; k_is; k_is; k_is; k_is; kernel_rfl))
local macro_rules | `(tactic| walk_at "t")=>`(tactic| (apply L3.JE; k_is; k_is; k_is; k_is; kernel_rfl))
open PySem PySem.W PyProof.Rows
set_option maxRecDepth 100000 in
set_option maxHeartbeats 0 in
theorem PySem.Challenge.cw_dueworth_k08_the_first_wrong_row_holds : PySem.Challenge.rw_dueworth_k08_the_first_wrong_row.Holds := by
 w_on; refine holds_law E08.said λsaid => ?_
 refine holds_open (q := E08.vw) (loose := ["FORMS"]) (Xt := λs => (xlAt E08.vw [] s && recOk (RowW.records E08.rr) s)) (XP := XL E08.vw []) (N := 6458)
  (Yf := Hook.obs E08.hk) (Ya := Hook.val E08.hk) (YP := Hook.says (kHook E08.early.heap_1 E08.as E08.IN)) E08.left (Hook.of E08.hk) (Hook.keeps E08.hk) (λs e => xl_of s (Xe.mp e).1)
  XL.keeps rfl rfl rfl (λs e => recFacts_of (Xe.mp e).2) rfl (by assumption)
  (by decide +kernel) ⟨rfl, rfl, rfl, rfl, rfl, by decide +kernel⟩ ?hw ?hc
 (case hw => w_witness2)
 k_fill
 refine G08.IM (l := PySem.Challenge.rw_dueworth_k08_the_first_wrong_row) rfl rfl (λw h Y => PySem.W.kIn_of Y) ?F
 case F =>
  intro w mg fa h KX G hmg
  refine' G08.E6 KX G hmg ?LD ?Kg ?JU ?Lk ?KH ?Kp ?KI ?Kq ?Ll ?KJ ?KK ?KL ?KM ?Kv ?KN ?KO ?Kw ?K0 ?KP ?KQ ?J9 ?J_ ?J4 ?J5 ?Kh ?KR ?Ki ?Ka ?Kj ?Kb ?Kr ?Kc ?Ke ?K1 ?Kx ?KS ?Kk ?Lm ?LW ?Ky ?Ln ?K3 ?Lo ?Lp ?LX ?Lq ?Lr ?Ls ?LY ?JQ ?Lu ?K4 ?Oq ?M5 ?Os
  (case LD => walk_at "k")
  (case Kg => walk_at "k")
  (case JU => walk_at "k")
  (case Lk => walk_at "k")
  (case KH => walk_at "k")
  (case Kp => walk_at "k")
  (case KI => walk_at "k")
  (case Kq => walk_at "k")
  (case Ll => walk_at "k")
  (case KJ => walk_at "k")
  (case KK => walk_at "k")
  (case KL => walk_at "k")
  (case KM => walk_at "k")
  (case Kv => walk_at "k")
  (case KN => walk_at "k")
  (case KO => walk_at "k")
  (case Kw => walk_at "k")
  (case K0 => walk_at "k")
  (case KP => walk_at "k")
  (case KQ => walk_at "k")
  (case J9 => walk_at "k")
  (case J_ => walk_at "k")
  (case J4 => walk_at "k")
  (case J5 => walk_at "k")
  (case Kh => walk_at "k")
  (case KR => walk_at "k")
  (case Ki => walk_at "k")
  (case Ka => walk_at "k")
  (case Kj => walk_at "k")
  (case Kb => walk_at "k")
  (case Kr => walk_at "k")
  (case Kc => walk_at "k")
  (case Ke => walk_at "k")
  (case K1 => walk_at "k")
  (case Kx => walk_at "k")
  (case KS => walk_at "k")
  (case Kk => walk_at "k")
  (case Lm => apply L3.sk; k_is)
  (case LW => apply L3.JG; k_is; k_is; rfl; exact L2.E5 _ w [("pay", _, _), ("put", _, _), ("then", _, _), ("either", _, _), ("take", _, _), ("often", _, _), ("use", _, _)] _ (by decide +kernel) (by kernel_rfl))
  (case Ky => apply L3.JF; k_is; k_is; kernel_rfl)
  (case Ln => apply L3.sk; k_is)
  (case K3 => apply L3.Cj; k_is)
  (case Lo => apply L3.Cj; k_is)
  (case Lp => apply L3.Cj; k_is)
  (case LX => apply L3.Cj; k_is)
  (case Lq => apply L3.Cj; k_is)
  (case Lr => apply L3.Cj; k_is)
  (case Ls => apply L3.Cj; k_is)
  (case LY => apply L3.Cj; k_is)
  (case JQ => walk_at "e")
  (case Lu => walk_at "t")
  (case K4 => walk_at "t")
  (case Oq => unfold L3.Bw; kernel_rfl)
  (case M5 => kernel_rfl)
  (case Os => walk_at "k")
#print axioms PySem.Challenge.cw_dueworth_k08_the_first_wrong_row_holds
