import PyProof.Rows.All
import Wide.All
import OpenK.AllK
import Wide.FinOn
import Lean
import PyProof.EqAt
import PyProof.EqKinds
import PyProof.TupleCall
import PySem.Challenge.RW_dueworth_k07_whole_houses_written_and_re
import Open.Tree
import Open.Head
section
set_option Elab.async false
set_option linter.all false
set_option maxRecDepth 100000
set_option maxHeartbeats 0
abbrev EV:=@List.map_cons
abbrev EW:=@PySem.wpAny_bind
abbrev EX:=@List.length_append
abbrev EY:=@PySem.Heap.get?_push_of_some
abbrev EZ:=@Nat.le_refl
abbrev E1:=@List.mem_cons
abbrev E2:=@List.length_map
abbrev E4:=@List.size_toArray
abbrev E5:=@PySem.Heap.lt_size
abbrev E6:=@Nat.lt_of_lt_of_le
abbrev E7:=@PySem.wpAny_pure
abbrev E8:=@List.mem_singleton
abbrev E9:=@decide_eq_false
abbrev Fb:=@List.not_mem_nil
abbrev Fc:=@List.length_cons
abbrev Fd:=@Bool.false_eq_true
abbrev Fe:=@List.mem_append
abbrev Ff:=@PySem.Heap.get?_push_size
abbrev Fg:=@List.mem_cons_self
abbrev Fi:=@List.mem_cons_of_mem
abbrev Fj:=@PySem.wpAny_with_toks
abbrev Fl:=@Nat.le_trans
abbrev Fo:=@List.map_nil
abbrev Fp:=@Bool.false_ne_true
abbrev Fq:=@List.mem_map
abbrev Ft:=@Nat.ne_of_lt
abbrev Fv:=@List.getElem?_map
abbrev Fw:=@List.getElem?_eq_some_iff
abbrev Fx:=@Bool.false_bne
abbrev Fy:=@List.map_map
abbrev Fz:=@PyProof.Rows.callWith_type1
abbrev FA:=@congrArg
abbrev FD:=@PyProof.Rows.slot_tuple_getitem
abbrev FE:=@Nat.zero_le
abbrev FF:=@List.mem_append_right
abbrev FG:=@decide_eq_true_eq
abbrev FH:=@Option.map_eq_some_iff
abbrev FI:=@Option.some.inj
abbrev FJ:=@decide_eq_true
abbrev FN:=@PySem.PassesOwn.never
abbrev FO:=@Nat.lt_irrefl
abbrev FP:=@List.length_singleton
abbrev FQ:=@List.getElem?_eq_none
abbrev FT:=@PySem.Calls.spliced_cons
abbrev FU:=@or_false
abbrev FW:=@Nat.succ_le_succ
abbrev FY:=@List.getElem?_append_left
abbrev FZ:=@List.replicate_succ
abbrev F0:=@List.length_replicate
abbrev F1:=@if_false
abbrev F2:=@List.append_nil
abbrev F3:=@PySem.wpAny_Call_Name_kw
abbrev F4:=@List.getElem?_eq_getElem
abbrev F5:=@List.mem_of_getElem?
abbrev F6:=@true_and
abbrev F7:=@PySem.wpAny_newObj_type
abbrev F8:=@PySem.Calls.spliced_nil
abbrev F9:=@List.getElem?_replicate
abbrev Ga:=@PySem.mem_of_lookup
abbrev Gb:=@PySem.Calls.callWith_builtin
abbrev Gd:=@Bool.and_eq_true
abbrev Ge:=@List.all_eq_true
abbrev Gf:=@List.getElem?_append_right
abbrev Gg:=@if_true
abbrev Gh:=@PySem.wpAny_passesOwn
abbrev Gi:=@List.nodup_cons
abbrev Gj:=@List.flatten_cons
abbrev Gk:=@PySem.wpAny_mono
abbrev Gm:=@Int.mul_ediv_cancel_left
abbrev Gn:=@List.length_drop
abbrev Gp:=@Int.fdiv_eq_ediv_of_dvd
abbrev Gq:=@PySem.F.plainAttrs_str
abbrev Gr:=@Bool.eq_iff_iff
abbrev Gs:=@List.length_nil
abbrev Gu:=@PySem.wpAny_holding
abbrev Gv:=@List.cons.inj
abbrev Gw:=@Bool.true_bne
abbrev Gx:=@Bool.and_eq_true_iff
abbrev Gy:=@List.mem_append_left
abbrev Gz:=@PySem.Calls.evalArgs_plain
abbrev GA:=@decide_true
abbrev GB:=@Int.le_of_lt
abbrev GC:=@PySem.F.args_tuple_add_2
abbrev GD:=@PySem.StrLaws.split_free
abbrev GF:=@Bool.not_true
abbrev GG:=@PySem.W.mg_of
abbrev GH:=@PySem.wpAny_execs_nil
abbrev GI:=@List.nil_append
abbrev GJ:=@PySem.typeIs_str
abbrev GK:=@PySem.call_meets
abbrev GL:=@PySem.tupleKind_room_in1
abbrev GN:=@Int.emod_lt_of_pos
abbrev GO:=@PySem.F.entry_tuple_add
abbrev GP:=@PySem.StrLaws.found_one
abbrev GQ:=@Nat.le_of_lt
abbrev GR:=@Ne.symm
abbrev GS:=@PySem.wpAny_truthy_bool
abbrev GU:=@PySem.Heap.size_push
abbrev GV:=@PySem.F.slot_tuple_add
abbrev GW:=@PySem.wpAny_typeOf
abbrev GX:=@PySem.Heap.get?_update_other
abbrev GY:=@PySem.wpAny_Call_method_late
abbrev GZ:=@List.reverse_cons
abbrev G0:=@List.take_succ
abbrev G1:=@List.eraseIdxIfInBounds_toArray
abbrev G2:=@Nat.le_of_ble_eq_true
abbrev G3:=@List.length_take
abbrev G4:=@List.map_reverse
abbrev G5:=@List.take_length
abbrev G6:=@List.any_cons
abbrev G7:=@List.map_id
abbrev G8:=@Nat.pow_lt_pow_right
abbrev G9:=@PySem.wpAny_specialOf
abbrev Hf:=@Int.natCast_pos
abbrev Hg:=@Int.emod_nonneg
abbrev Hh:=@List.filterMap_cons
abbrev Hi:=@Array.length_toList
abbrev Hj:=@List.length_reverse
abbrev Hl:=@List.getElem?_range
abbrev Ho:=@ne_true_of_eq_false
abbrev Hq:=@List.map_congr_left
abbrev Hr:=@Nat.lt_trans
abbrev Hs:=@decide_eq_true_iff
abbrev Ht:=@Option.isSome_map
abbrev Hu:=@Bool.not_eq_true'
abbrev Hv:=@Bool.bne_true
abbrev Hw:=@Nat.le_max_right
abbrev Hx:=@Nat.ne_of_gt
abbrev Hy:=@Nat.zero_add
namespace ET
open PySem PySem.W PyProof.Rows
def eB(tb:String→Option Builtin)(p:Program)(w:World)(n₀:Nat)(ann:Option Value):Nat→SharedT→Thread→Option SharedT
 |0,_,_=>none
 |n+1,s,t=>match through t with
  |true=>some s
  |false=>match stepOk n₀ ann t with
   |false=>none
   |true=>match stepT (denote tb) p w s t with
    |some x=>eB tb p w n₀ ann n x.1 x.2
    |none=>none
theorem ig{tb:String→Option Builtin}{p:Program}{w:World}{n₀:Nat}{ann:Option Value}:∀{n:Nat} {s s':SharedT} {t:Thread},eB tb p w n₀ ann n s t=some s'→topRun tb p w n₀ ann n s.abs t=some s'.abs
 |0,_,_,_,h=>by cases h
 |n+1,s,s',t,h=>by
  unfold eB at h
  unfold topRun
  cases he:through t with
  |true=>rw[he]at h;cases h;rfl
  |false=>
   rw[he]at h
   cases hk:stepOk n₀ ann t with
   |false=>rw[hk]at h;cases h
   |true=>
    rw[hk]at h
    cases hs:stepT (denote tb) p w s t with
    |none=>rw[hs]at h;cases h
    |some r=>rw[hs]at h;rw[stepT_spec hs];exact ig h
def vd:List Obj→BT→Nat→Option (BT×Nat)
 |[],t,n=>some (t,n)
 |o::os,t,n=>match ((t.ins n o).get n).isSome with
  |true=>vd os (t.ins n o) (n+1)
  |false=>none
theorem lj{life:Life}:∀{os:List Obj} {t t':BT} {n n':Nat},vd os t n=some (t',n')→absHeap t' n' life=⟨(absHeap t n life).objs++os.toArray,life⟩
 |[],t,t',n,n',h=>by cases h;simp[absHeap]
 |o::os,t,t',n,n',h=>by
  unfold vd at h
  cases g:((t.ins n o).get n).isSome with
  |false=>rw[g]at h;cases h
  |true=>
   rw[g]at h
   rw[lj h,absHeap_ins g]
   simp[Heap.push]
def eC(tb:String→Option Builtin)(p:Program)(w:World)(N:Nat)(s₀:Shared):Option Shared:=
 match s₀.heap.isNs mainGlobals&&s₀.gens.size == 0 with
 |true=>match vd s₀.heap.objs.toList .nil 0 with
  |some x=>match eB tb p w x.2 (s₀.heap.nsMap mainGlobals "__annotations__") N ⟨x.1,x.2,s₀.heap.life,s₀.gens,s₀.drawn,s₀.toks,s₀.os⟩ (topStub p)with
   |some s=>match staticsOk (importedModules p.main.body) s₀.heap s.abs.heap&&namesBound p s.abs.heap&&gensDone s.abs&&laidKept s₀.heap s.abs.heap with
    |true=>some s.abs
    |false=>none
   |none=>none
  |none=>none
 |false=>none
theorem kz{tb:String→Option Builtin}{p:Program}{w:World}{N:Nat}{s₀ s:Shared}(h:eC tb p w N s₀=some s):topFrom tb p w N s₀=some s:=by
 unfold eC at h
 unfold topFrom
 cases h1:s₀.heap.isNs mainGlobals&&s₀.gens.size == 0 with
 |false=>rw[h1]at h;cases h
 |true=>
  rw[h1]at h
  dsimp only at h ⊢
  cases h2:vd s₀.heap.objs.toList .nil 0 with
  |none=>rw[h2]at h;cases h
  |some x=>
   rw[h2]at h
   dsimp only at h
   have e:=lj (life:=s₀.heap.life) h2
   have e':absHeap x.1 x.2 s₀.heap.life=s₀.heap:=by
    rw[e]
    simp[absHeap,BT.list]
   have n':x.2=s₀.heap.objs.size:=by rw[←e',absHeap_size]
   cases h3:eB tb p w x.2 (s₀.heap.nsMap mainGlobals "__annotations__") N ⟨x.1,x.2,s₀.heap.life,s₀.gens,s₀.drawn,s₀.toks,s₀.os⟩ (topStub p)with
   |none=>rw[h3]at h;cases h
   |some r=>
    rw[h3]at h
    dsimp only at h
    have ea:SharedT.abs ⟨x.1,x.2,s₀.heap.life,s₀.gens,s₀.drawn,s₀.toks,s₀.os⟩=s₀:=by
     unfold SharedT.abs
     rw[e']
    have:=ig h3
    rw[ea,n']at this
    rw[this]
    exact h
theorem kA{tb:String→Option Builtin}{p:Program}{w:World}{N:Nat}{s₀:Shared}{α:Type}{f:Shared→α}{a:α}(h:Option.map f (eC tb p w N s₀)=some a):Option.map f (topFrom tb p w N s₀)=some a:=by
 obtain⟨s,h1,h2⟩:=FH.mp h
 rw[kz h1]
 exact FA some h2
def seenT(p q:Program)(loose:List Str)(Xt:Shared→Bool){α:Type}(Yf:Shared→α)(N:Nat)(u u':World):=
 Option.map (fun c=>Option.map (fun s=>(openSeen q loose (importedModules p.main.body) Xt true s,Yf s)) (eC treeTable p u' N c)) (fencedOpening treeTable p u N)
lay_quick seenT
theorem ll{p q:Program}{loose:List Str}{Xt:Shared→Bool}{α:Type}{Yf:Shared→α}{N:Nat}{u u':World}{r}(h:PySem.W.Fast.tw2787559817927863336 p q loose Xt Yf N u u'=r):seenT p q loose Xt Yf N u u'=r:=by
 rw[PySem.W.Fast.te2787559817927863336]
 exact h
theorem wG{p q:Program}{loose:List Str}{Xt:Shared→Bool}{α:Type}{Yf:Shared→α}{Ya:World→α}{N:Nat}
  (h:∀u:World,seenT p q loose Xt Yf N u u=some (some (openGood q loose,Ya u))):LeftO p q loose Xt Yf Ya N:=fun u=>by
 obtain⟨c,a,b⟩:=FH.mp (h u)
 unfold openEnds
 rw[a]
 exact kA b
theorem na{p q:Program}{loose:List Str}{Xt:Shared→Bool}{α:Type}{Yf:Shared→α}{Ya:World→α}{N:Nat}(row:String)
  (h0:∀u:World,seenT p q loose Xt Yf N u (u.withFollow row false)=some (some (openGood q loose,Ya (u.withFollow row false))))
  (h1:∀u:World,seenT p q loose Xt Yf N u (u.withFollow row true)=some (some (openGood q loose,Ya (u.withFollow row true)))):LeftO p q loose Xt Yf Ya N:=fun u=>by
 obtain⟨c,a,b⟩:=FH.mp (h0 u)
 obtain⟨c',a',b'⟩:=FH.mp (h1 u)
 have hc:c'=c:=by rw[a]at a';cases a';rfl
 subst hc
 have b:=kA b
 have b':=kA b'
 have hu:=World.withFollow_self u row
 unfold openEnds
 rw[a]
 cases hb:u.params.followText row<;>rw[hb]at hu
 ·rw[hu]at b
  exact b
 ·rw[hu]at b'
  exact b'
end ET
namespace E07
open PySem PySem.W PyProof.Rows
abbrev tp(i:Nat):Stmt:=PySem.Challenge.pw_dueworth_k07_whole_houses_written_and_re.main.body.getD i (.Pass ⟨0,0,0,0⟩)
/-- the text without what says nothing -/
def vw:Program:={ PySem.Challenge.pw_dueworth_k07_whole_houses_written_and_re with main:={ PySem.Challenge.pw_dueworth_k07_whole_houses_written_and_re.main with body:=[tp 1,tp 2,tp 4,tp 5,tp 6,tp 7,tp 8,tp 9,tp 11,tp 12,tp 13,tp 15,tp 16,tp 17,tp 18,tp 19,tp 20,tp 21,tp 22,tp 23,tp 24,tp 25,tp 27,tp 28,tp 30,tp 31,tp 33,tp 34,tp 35,tp 36,tp 37,tp 38,tp 39,tp 40,tp 41,tp 42,tp 43,tp 44,tp 45] } }
abbrev rr:RowW:=OpenRow.toRowW (OpenLaw.row PySem.Challenge.rw_dueworth_k07_whole_houses_written_and_re)
local macro_rules | `(tactic| o_head $H)=>`(tactic|
 refine holds_open (q:=vw) (loose:=["FORMS","SIDES_FROM"]) (Xt:=fun s=>(xlAt vw [] s&&recOk (RowW.records rr) s)) (XP:=XL vw []) (N:=3506)
  (Yf:=Hook.obs $H) (Ya:=Hook.val $H) (YP:=Hook.says $H) ?hl (Hook.of $H) (Hook.keeps $H) (fun s e=>xl_of s (Gx.mp e).1)
  XL.keeps rfl rfl rfl (fun s e=>recFacts_of (Gx.mp e).2) rfl (by assumption)
  (by decide +kernel) ⟨rfl,rfl,rfl,rfl,rfl,by decide +kernel⟩ ?hw ?hc)
/-- the law is well said: by the quick twin of the look,with no twin of the program -/
theorem said:OpenLaw.wellSaid PySem.Challenge.rw_dueworth_k07_whole_houses_written_and_re=true:=(congrFun PySem.W.Fast.te9446332074065402090 _).trans (by kernel_rfl)
/-- says nothing; what lies in the heap is written down by the way -/
theorem early(h:∀P:Prop,P):PySem.Challenge.rw_dueworth_k07_whole_houses_written_and_re.Holds:=by
 w_on;refine holds_law said fun said=>?_;k_head
 all_goals exact h _
abbrev as:List Addr:=[2,3,15,22,23,24,25,28,35,37,38,40,41,42,43,44,47,49,50,52,53,54,56,57,59,60,61,64,65,66,68,69,71,72,73,75,76,78,79,80,81,84,85,86,87,88,89,90,91,92,93,94,96,97,99,100,101,103,104,106,107,108,110,111,113,114,115,117,118,120,121,122,124,125,127,128,129,131,132,134,135,136,138,139,141,142,143,146,147,148,150,151,153,154,155,157,158,160,161,162,163,165,166,168,169,170,173,174,175,177,178,180,181,182,185,186,187,189,190,192,193,194,196,197,199,200,201,203,204,206,207,208,211,212,213,215,216,218,219,220,222,223,225,226,227,229,230,232,233,234,236,237,239,240,241,244,245,246,249,250,251,253,254,256,257,258,260,261,263,264]
theorem yb(P:Params):as=(early.heap_1 P).map (·.1):=by kernel_rfl
noncomputable abbrev hk:Hook:=kHook early.heap_1 as yb
theorem ve(u:World):ET.seenT (OpenLaw.row PySem.Challenge.rw_dueworth_k07_whole_houses_written_and_re).prog vw ["FORMS","SIDES_FROM"] (fun s=>(xlAt vw [] s&&recOk (RowW.records rr) s)) (Hook.obs hk) 3506 u (u.withFollow "special-get-raises" false)=some (some (openGood vw ["FORMS","SIDES_FROM"],Hook.val hk (u.withFollow "special-get-raises" false))):=ET.ll (by kernel_rfl)
theorem vf(u:World):ET.seenT (OpenLaw.row PySem.Challenge.rw_dueworth_k07_whole_houses_written_and_re).prog vw ["FORMS","SIDES_FROM"] (fun s=>(xlAt vw [] s&&recOk (RowW.records rr) s)) (Hook.obs hk) 3506 u (u.withFollow "special-get-raises" true)=some (some (openGood vw ["FORMS","SIDES_FROM"],Hook.val hk (u.withFollow "special-get-raises" true))):=ET.ll (by kernel_rfl)
theorem left:LeftO (OpenLaw.row PySem.Challenge.rw_dueworth_k07_whole_houses_written_and_re).prog vw ["FORMS","SIDES_FROM"] (fun s=>(xlAt vw [] s&&recOk (RowW.records rr) s)) (Hook.obs hk) (Hook.val hk) 3506:=ET.na "special-get-raises" ve vf
end E07
end
open PySem in
abbrev Vq:=Value->Shared->Prop
open PySem in
abbrev Va:=List (Addr×Obj)
open PySem in
abbrev Vo:=PySem.W.Frag
open PySem in
abbrev Vr:=Str->Option Value
open PySem in
abbrev Vs:=List Str
open PySem in
abbrev Vu:=List Int
open PySem in
abbrev Vv:=List Value
open PySem in
abbrev Vw:=Array Value
set_option Elab.async false
set_option linter.all false
set_option maxRecDepth 100000
namespace L2
open PySem PySem.Spec PyProof.Rows
abbrev aL:=Sum Int Str
noncomputable def ij:aL->Value->Bool
 | .inl k,v=>Value.isInt k v
 | .inr x,v=>Value.isStrOf x v
noncomputable def wW(w:World):aL->Int
 | .inl k=>hashInt k
 | .inr x=>hashStr w x
theorem aN:∀{k:aL} {v:Value},ij k v=true->(∃i t,k=Sum.inl i/\v=Value.int i t)\/(∃x t,k=Sum.inr x/\v=Value.str x t)
 | .inl i,v,h=>by
  obtain⟨t,e⟩:=Value.isInt_shape (k:=i) (v:=v) h
  exact .inl ⟨i,t,rfl,e⟩
 | .inr x,v,h=>by
  obtain⟨t,e⟩:=Value.isStrOf_shape (x:=x) (v:=v) h
  exact .inr ⟨x,t,rfl,e⟩
def l5(i:Int)(t:Tok):ij (.inl i) (.int i t)=true:=by simp[ij,Value.isInt]
def cy(x:Str)(t:Tok):ij (.inr x) (.str x t)=true:=by simp[ij,Value.isStrOf]
def su(a b:Int):decide ((Sum.inl a:aL)=Sum.inl b)=(a == b):=by
 by_cases e:a=b
 ·subst e;simp
 ·have h:¬(Sum.inl a:aL)=Sum.inl b:=fun q=>e (Sum.inl.inj q)
  rw[E9 h]
  exact(beq_eq_false_iff_ne.mpr e).symm
def sv(a b:Str):decide ((Sum.inr a:aL)=Sum.inr b)=decide (a=b):=by
 by_cases e:a=b
 ·subst e;simp
 ·have h:¬(Sum.inr a:aL)=Sum.inr b:=fun q=>e (Sum.inr.inj q)
  rw[E9 h,E9 e]
def sw(a:Int)(b:Str):decide ((Sum.inl a:aL)=Sum.inr b)=false:=E9 (fun q=>nomatch q)
def sx(a:Str)(b:Int):decide ((Sum.inr a:aL)=Sum.inl b)=false:=E9 (fun q=>nomatch q)
noncomputable def aA(prog:Program)(w:World):PySem.KeyKind prog w aL where
 is:=ij
 hash:=wW w
 inj:=fun v a b ha hb=>by
  rcases aN ha with⟨i,t,rfl,rfl⟩|⟨x,t,rfl,rfl⟩
  ·rcases aN hb with⟨j,u,rfl,e⟩|⟨y,u,rfl,e⟩
   ·injection e with e1 _;rw[e1]
   ·exact nomatch e
  ·rcases aN hb with⟨j,u,rfl,e⟩|⟨y,u,rfl,e⟩
   ·exact nomatch e
   ·injection e with e1 _;rw[e1]
 byValue:=fun k v h=>by
  rcases aN h with⟨i,t,rfl,rfl⟩|⟨x,t,rfl,rfl⟩<;>rfl
 pyHash:=fun hv h=>by
  rcases aN hv with⟨i,t,rfl,rfl⟩|⟨x,t,rfl,rfl⟩
  ·exact wpAny_pyHash_int h
  ·exact wpAny_pyHash_str h
 eqBool:=fun hu hv h=>by
  rcases aN hu with⟨i,t,rfl,rfl⟩|⟨x,t,rfl,rfl⟩
  ·rcases aN hv with⟨j,u,rfl,rfl⟩|⟨y,u,rfl,rfl⟩
   ·rw[su]at h;exact wpAny_eqBool_int h
   ·rw[sw]at h;exact SeqAt.EqAt.int_str i t y u _ _ _ _ h
  ·rcases aN hv with⟨j,u,rfl,rfl⟩|⟨y,u,rfl,rfl⟩
   ·rw[sx]at h;exact SeqAt.EqAt.str_int x t j u _ _ _ _ h
   ·rw[sv]at h;exact wpAny_eqBool_str h
 «strs»:=fun k x t v h=>by
  rcases aN h with⟨i,u,rfl,e⟩|⟨y,u,rfl,e⟩
  ·exact nomatch e
  ·injection e with e1 _
   subst e1
   cases v<;>rfl
def jN(prog:Program)(w:World)(i:Int)(t:Tok):(aA prog w).is (.inl i) (.int i t)=true:=l5 i t
def jO(prog:Program)(w:World)(x:Str)(t:Tok):(aA prog w).is (.inr x) (.str x t)=true:=cy x t
inductive V where
 |non|bl (b:Bool)|int (i:Int)|str (x:Str)|Bu (b:Array UInt8)|C0 (b:UInt64)|ref (a:Addr)|ty (n:String)
 deriving DecidableEq
noncomputable def RelV:V->Value->Prop
 | .non,u=>u=Value.none
 | .bl b,u=>u=Value.bool b
 | .int i,u=>∃t,u=Value.int i t
 | .str x,u=>∃t,u=Value.str x t
 | .Bu b,u=>∃t,u=Value.bytes b t
 | .C0 b,u=>∃t,u=Value.float b t
 | .ref a,u=>u=Value.ref a
 | .ty n,u=>u=Value.type n
noncomputable abbrev Vals:List V->List Value->Prop:=Paired RelV
theorem Vals.length{xs:List V}{us:Vv}(r:Vals xs us):xs.length=us.length:=Paired.length r
theorem Vals.get:∀{xs:List V} {us:Vv} {i:Nat} {x:V},Vals xs us->xs[i]?=some x->∃u,us[i]?=some u/\RelV x u
 |_,_,_,_,.nil,e=>by simp at e
 |_,_,0,_,.cons r _,e=>by simp at e;subst e;exact⟨_,rfl,r⟩
 |_,_,i+1,x,.cons _ t,e=>by
  obtain⟨u,h1,h2⟩:=Vals.get (i:=i) (x:=x) t (by simpa using e)
  exact⟨u,by simpa using h1,h2⟩
theorem Vals.set{x:V}{u:Value}(r:RelV x u):∀{xs:List V} {us:Vv} (i:Nat),Vals xs us->Vals (xs.set i x) (us.set i u)
 |_,_,_,.nil=>.nil
 |_,_,0,.cons _ t=>.cons r t
 |_,_,i+1,.cons q t=>.cons q (Vals.set r i t)
theorem Vals.append:∀{xs ys:List V} {us ws:Vv},Vals xs us->Vals ys ws->Vals (xs++ys) (us++ws)
 |_,_,_,_,.nil,s=>s
 |_,_,_,_,.cons r t,s=>.cons r (Vals.append t s)
theorem Vals.take:∀{xs:List V} {us:Vv} (n:Nat),Vals xs us->Vals (xs.take n) (us.take n)
 |_,_,0,_=>.nil
 |_,_,_+1,.nil=>.nil
 |_,_,n+1,.cons r t=>.cons r (Vals.take n t)
theorem Vals.drop:∀{xs:List V} {us:Vv} (n:Nat),Vals xs us->Vals (xs.drop n) (us.drop n)
 |_,_,0,r=>r
 |_,_,_+1,.nil=>.nil
 |_,_,n+1,.cons _ t=>Vals.drop n t
noncomputable def RelO:Option V->Option Value->Prop
 |some v,some u=>RelV v u
 |none,none=>True
 |_,_=>False
noncomputable def KV{κ:Type}:List (κ×V)->List (κ×Value)->Prop:=Paired fun(p:κ×V) (q:κ×Value)=>p.1=q.1/\RelV p.2 q.2
noncomputable def kV:aL->V
 | .inl i=>.int i
 | .inr x=>.str x
inductive HO where
 /-- a list -/
 |lst (xs:List V)
 /-- a tuple (never changes) -/
 |tup (xs:List V)
 /-- a dict whose keys are ints and texts; one whose keys are tuples of ints and texts (the empty one is both) -/
 |dK (kvs:List (aL×V))|dT (kvs:List (List aL×V))
 /-- a set of ints: its members,its size -/
 |set (S:Int->Bool) (n:Nat)
 /-- an instance of the class at C,its dict at dx,its attributes -/
 |ins (C dx:Addr) (fs:List (Str×V))
 /-- the dict of the instance at x -/
 |own (x:Addr)
 /-- the dict of an exception -/
 |xd (fs:List (Str×V))
 /-- a bound method,f of x -/
 |met (f x:Addr)
 /-- a range object lo,lo + 1,.. below hi -/
 |C1 (lo hi:Int)
 /-- a thing that is known to the object (the script; a dict while a loop walks it): read,never written while it is so -/
 |frz (o:Obj) (u:HO)
 /-- a code object's table -/
 |B3 (ps:Vw)
 /-- any other thing,by what is true of its one object (a def of DJ own: Ei a S n:=HO.ext fun h=>..) -/
 |ext (φ:Heap->Prop)
abbrev Hp:=Addr->Option HO
noncomputable def upd(H:Hp)(a:Addr)(o:HO):Hp:=fun b=>if b=a then some o else H b
def az{H:Hp}{a:Addr}{o:HO}:upd H a o a=some o:=by unfold upd;rw[if_pos rfl]
def aB{H:Hp}{a b:Addr}{o:HO}(h:b≠a):upd H a o b=H b:=by unfold upd;rw[if_neg h]
def vg{H:Hp}{a b:Addr}{o u:HO}(h:H a=some o)(h':H b=some u)(d:o≠u):a≠b:=by
 intro e;subst e;rw[h]at h';exact d (FI h')
def aO{H:Hp}{a b:Addr}{o:HO}(h:H a=some o)(h':H b=none):a≠b:=by
 intro e;subst e;rw[h]at h';cases h'
def zR(h:Heap)(a:Addr)(its:Vw):Prop:=∃o,h.get? a=some o/\o.dict=none/\o.cls = .type "tuple"/\∃n,o.data = .seq its n
def zR.tup{h:Heap}{a:Addr}{its:Vw}(x:zR h a its):IsTup h a its:=let ⟨o,e,_,c,d⟩:=x;⟨o,e,c,d⟩
def zR.new(h:Heap)(its:Vw):zR (h.push { cls:=.type "tuple",data:=.seq its }) h.objs.size its:=⟨_,Ff _ rfl,rfl,rfl,_,rfl⟩
section
variable (P:Program) (w:World)
noncomputable def yZ(H:Hp)(h:Heap)(a:Addr):HO->Prop
 | .lst xs=>xs.length<=sizeLine/\∃(its:Vv) (n:Nat),Vals xs its/\h.get? a=some { cls:=.type "list",data:=.seq its.toArray n }
 | .tup xs=>xs.length<=sizeLine/\∃its:List Value,Vals xs its/\zR h a its.toArray
 | .dK kvs=>kvs.length<=sizeLine/\(a == sysModules)=false/\∃vs,KV kvs vs/\h.DictOf (aA P w) a vs
 | .dT kvs=>kvs.length<=sizeLine/\(a == sysModules)=false/\∃xs:List (List aL×Addr×Value),
   Paired (fun(p:List aL×V) (q:List aL×Addr×Value)=>p.1=q.1/\H q.2.1=some (.tup (p.1.map kV))/\RelV p.2 q.2.2) kvs xs/\
   ∃o es ep,h.get? a=some o/\o.ExactDict/\o.data = .dict es ep/\es.toList=xs.map (entryOfKey (tupleKind (aA P w)))/\(xs.map (·.1)).Nodup
 | .set S n=>h.SetOf (intKind P w) a S n
 | .ins C dx fs=>H dx=some (.own a)/\fs.length<=1000/\dx≠a/\h.get? a=some (PySem.W.instObj C dx)/\
   ∃mA,h.Ns1 dx mA/\(∀f,RelO (fs.lookup f) (mA f))/\PySem.Within mA (fs.map (·.1))
 | .own _=>∃o,h.get? a=some o
 | .xd fs=>∃mA,h.Ns1 a mA/\∀f,RelO (fs.lookup f) (mA f)
 | .C1 lo hi=>∃t u v,h.get? a=some { cls:=.type "range",data:=.fields #[.int lo t,.int hi u,.int 1 v] }
 | .frz o u=>h.get? a=some o/\yZ H h a u
 | .B3 ps=>h.get? a=some { cls:=.none,data:=.fields ps }
 | .met f x=>h.get? a=some (PySem.W.methodObj (.ref f) (.ref x))
 | .ext φ=>φ h/\(∃o,h.get? a=some o)/\∀h1 h2:Heap,φ h1->(∀o,h1.get? a=some o->h2.get? a=some o)->φ h2
def z9(H:Hp)(h:Heap):Prop:=∀a o,H a=some o->yZ P w H h a o
end
section
variable {P:Program} {w:World} {H H':Hp} {h h':Heap} {a:Addr} {o:HO}
theorem yZ.lt(x:yZ P w H h a o):a < h.objs.size:=by
 cases o with
 |lst xs=>obtain⟨_,_,_,_,e⟩:=x;exact E5 e
 |tup xs=>obtain⟨_,_,_,p⟩:=x;exact p.tup.lt
 |dK kvs=>obtain⟨_,_,_,_,o,_,_,e,_⟩:=x;exact E5 e
 |dT kvs=>obtain⟨_,_,_,_,o,_,_,e,_⟩:=x;exact E5 e
 |set S n=>obtain⟨o,_,_,_,e,_⟩:=x;exact E5 e
 |ins C dx fs=>obtain⟨_,_,_,e,_⟩:=x;exact E5 e
 |own y=>obtain⟨_,e⟩:=x;exact E5 e
 |xd fs=>obtain⟨_,⟨_,_,_,e,_⟩,_⟩:=x;exact E5 e
 |C1 lo hi=>obtain⟨_,_,_,e⟩:=x;exact E5 e
 |frz ob u=>obtain⟨e,_⟩:=x;exact E5 e
 |B3 ps=>exact E5 (show h.get? a=some _ from x)
 |met f y=>exact E5 (show h.get? a=some _ from x)
 |ext φ=>obtain⟨_,⟨_,e⟩,_⟩:=x;exact E5 e
theorem Paired.B4{α β:Type}{F G:α->β->Prop}:∀{l₁:List α} {l₂:List β},Paired F l₁ l₂->(∀a b,F a b->G a b)->Paired G l₁ l₂
 |_,_,.nil,_=>.nil
 |_,_,.cons r t,f=>.cons (f _ _ r) (Paired.B4 t f)
def yZ.stay(x:yZ P w H h a o)(k:∀b u,(b=a\/H b=some (.own a))->h.get? b=some u->h'.get? b=some u)
  (ho:∀b,H b=some (.own a)->H' b=some (.own a)) (ht:∀b xs,H b=some (.tup xs)->H' b=some (.tup xs)):yZ P w H' h' a o:=by
 induction o with
 |lst xs=>obtain⟨z,its,n,r,e⟩:=x;exact⟨z,its,n,r,k _ _ (.inl rfl) e⟩
 |tup xs=>obtain⟨z,its,r,ob,e,c⟩:=x;exact⟨z,its,r,ob,k _ _ (.inl rfl) e,c⟩
 |dK kvs=>obtain⟨z,y,vs,r,ob,es,ep,e,c⟩:=x;exact⟨z,y,vs,r,ob,es,ep,k _ _ (.inl rfl) e,c⟩
 |dT kvs=>
  obtain⟨z,y,xs,r,ob,es,ep,e,c⟩:=x
  exact⟨z,y,xs,Paired.B4 r fun p q z=>⟨z.1,ht _ _ z.2.1,z.2.2⟩,ob,es,ep,k _ _ (.inl rfl) e,c⟩
 |set S n=>obtain⟨ob,es,ep,t,e,c⟩:=x;exact⟨ob,es,ep,t,k _ _ (.inl rfl) e,c⟩
 |ins C dx fs=>
  obtain⟨d,z,ne,e,mA,⟨od,es,ep,e2,c⟩,r⟩:=x
  exact⟨ho _ d,z,ne,k _ _ (.inl rfl) e,mA,⟨od,es,ep,k _ _ (.inr d) e2,c⟩,r⟩
 |own y=>obtain⟨ob,e⟩:=x;exact⟨ob,k _ _ (.inl rfl) e⟩
 |xd fs=>obtain⟨mA,⟨od,es,ep,e,c⟩,r⟩:=x;exact⟨mA,⟨od,es,ep,k _ _ (.inl rfl) e,c⟩,r⟩
 |C1 lo hi=>obtain⟨t,u,v,e⟩:=x;exact⟨t,u,v,k _ _ (.inl rfl) e⟩
 |frz ob u ih=>obtain⟨e,q⟩:=x;exact⟨k _ _ (.inl rfl) e,ih q⟩
 |B3 ps=>
  have e:h.get? a=some { cls:=.none,data:=.fields ps }:=x
  show h'.get? a=some { cls:=.none,data:=.fields ps }
  exact k a _ (.inl rfl) e
 |met f y=>
  have e:h.get? a=some (PySem.W.methodObj (.ref f) (.ref y)):=x
  show h'.get? a=some (PySem.W.methodObj (.ref f) (.ref y))
  exact k a _ (.inl rfl) e
 |ext φ=>obtain⟨p,⟨o,e⟩,st⟩:=x;exact⟨st _ _ p fun o q=>k _ _ (.inl rfl) q,⟨o,k _ _ (.inl rfl) e⟩,st⟩
theorem z9.lt(x:z9 P w H h)(e:H a=some o):a < h.objs.size:=(x a o e).lt
def z9.fresh(x:z9 P w H h)(e:h.objs.size<=a):H a=none:=by
 cases q:H a with
 |none=>rfl
 |some u=>exact absurd (E6 (x.lt q) e) (FO _)
def z9.kept(x:z9 P w H h)(k:∀b u,h.get? b=some u->h'.get? b=some u):z9 P w H h':=fun a o e=>
 (x a o e).stay (fun b u _ q=>k b u q) (fun _ q=>q) fun _ _ q=>q
def z9.laid(x:z9 P w H h)(k:∀b u,h.get? b=some u->h'.get? b=some u)(hp:h.objs.size<=a)(new:yZ P w (upd H a o) h' a o):z9 P w (upd H a o) h':=fun b u e=>by
 have hn:=x.fresh hp
 by_cases hb:b=a
 ·subst hb;rw[az]at e;cases e;exact new
 ·rw[aB hb]at e
  exact(x b u e).stay (fun c v _ q=>k c v q) (fun c q=>by rw[aB (aO q hn)];exact q) fun c xs q=>by rw[aB (aO q hn)];exact q
end
def Rd(H:Hp)(a:Addr)(u:HO):Prop:=H a=some u\/∃o,H a=some (.frz o u)
def Rd.ok{P:Program}{w:World}{H:Hp}{h:Heap}{a:Addr}{u:HO}(r:Rd H a u)(x:z9 P w H h):yZ P w H h a u:=by
 rcases r with r|⟨o,r⟩
 ·exact x a u r
 ·obtain⟨_,q⟩:=x a _ r
  exact q
noncomputable def vh:Option HO->Prop
 |some (.lst _)=>True
 |some (.dK _)=>True
 |some (.dT _)=>True
 |some (.set _ _)=>True
 |some (.ins _ _ _)=>True
 |some (.ext _)=>True
 |_=>False
section
variable {P:Program} {w:World} {H:Hp} {h h':Heap} {x e:Addr} {o':HO}
def z9.write(ok:z9 P w H h)(mu:vh (H x))(he:e=x\/H e=some (.own x))(k:∀b u,b≠e->h.get? b=some u->h'.get? b=some u)(Cl:∃u,h'.get? e=some u)
  (new:yZ P w (upd H x o') h' x o'):z9 P w (upd H x o') h':=fun b u q=>by
 have Cp:∀c y,H c=some (.own y)->c≠x:=fun c y r z=>by subst z;rw[r]at mu;exact mu
 have C2:∀c xs,H c=some (.tup xs)->c≠x:=fun c xs r z=>by subst z;rw[r]at mu;exact mu
 by_cases hb:b=x
 ·subst hb;rw[az]at q;cases q;exact new
 ·rw[aB hb]at q
  by_cases B5:b=e
  ·have q':H b=some (.own x):=by
    rcases he with z|z
    ·exact absurd (B5.trans z) hb
    ·rw[B5];exact z
   rw[q]at q';cases q'
   obtain⟨v,hv⟩:=Cl
   exact⟨v,by rw[B5];exact hv⟩
  ·refine(ok b u q).stay (fun c v hc r=>k c v ?_ r) (fun c r=>by rw[aB (Cp c b r)];exact r) fun c xs r=>by rw[aB (C2 c xs r)];exact r
   rcases hc with rfl|hc
   ·exact B5
   ·rintro rfl
    rcases he with z|z
    ·exact Cp c b hc z
    ·rw[hc]at z;cases z;exact hb rfl
end
structure Un (fs ex:List Addr) (H H':Hp) (h h':Heap):Prop where
 keep:∀b o,h.get? b=some o->H b=none->b ∉ fs->b ∉ ex->h'.get? b=some o
 slot:∀b o,h.get? b=some o->H b=none->b∈fs->b ∉ ex->∃sl,h'.get? b=some { o with slots:=sl }
 free:∀b o,h.get? b=some o->H b=none->b ∉ ex->H' b=none
 there:∀b o,h.get? b=some o->b ∉ ex->∃o',h'.get? b=some o'
 tups:∀b xs,H b=some (.tup xs)->H' b=some (.tup xs)
 AD:∀b o u,H b=some (.frz o u)->H' b=some (.frz o u)
 AN:∀b ps,H b=some (.B3 ps)->∃more,H' b=some (.B3 (ps++more))
section
variable {fs fs' ex ex':List Addr} {H H1 H2:Hp} {h h1 h2 h':Heap} {a x e:Addr} {o:HO}
def Un.any(u:Un fs ex H H1 h h1){b:Addr}{ob:Obj}(q:h.get? b=some ob)(n:H b=none)(hx:b ∉ ex):∃sl,h1.get? b=some { ob with slots:=sl }:=by
 by_cases hb:b∈fs
 ·exact u.slot b ob q n hb hx
 ·exact⟨ob.slots,u.keep b ob q n hb hx⟩
def Un.kept(k:∀b u,h.get? b=some u->h'.get? b=some u):Un fs ex H H h h':=
 ⟨fun b ob q _ _ _=>k b ob q,fun b ob q _ _ _=>⟨ob.slots,k b ob q⟩,fun _ _ _ n _=>n,fun b ob q _=>⟨ob,k b ob q⟩,fun _ _ q=>q,fun _ _ _ q=>q,fun _ ps q=>⟨#[],by rw[q];simp⟩⟩
def Un.refl:Un fs ex H H h h:=Un.kept fun _ _ q=>q
def Un.laid(k:∀b u,h.get? b=some u->h'.get? b=some u)(hp:h.objs.size<=a)(hn:H a=none):Un fs ex H (upd H a o) h h' where
 keep:=fun b u q _ _ _=>k b u q
 slot:=fun b u q _ _ _=>⟨u.slots,k b u q⟩
 free:=fun b u q n _=>by rw[aB (Ft (E6 (E5 q) hp))];exact n
 there:=fun b u q _=>⟨u,k b u q⟩
 tups:=fun b xs q=>by rw[aB (aO q hn)];exact q
 AD:=fun b u xs q=>by rw[aB (aO q hn)];exact q
 AN:=fun b ps q=>⟨#[],by rw[aB (aO q hn),q];simp⟩
def Un.write(mu:vh (H x))(he:e=x\/H e=some (.own x))(k:∀b u,b≠e->h.get? b=some u->h'.get? b=some u)(Cl:∃u,h'.get? e=some u):Un fs ex H (upd H x o) h h':=by
 have hx:∀b,H b=none->b≠x:=fun b n z=>by subst z;rw[n]at mu;exact mu
 have hb:∀b,H b=none->b≠e:=fun b n z=>by
  subst z
  rcases he with r|r
  ·exact hx b n r
  ·rw[n]at r;cases r
 have hm:∀b u,H b=some u->¬vh (some u)->b≠x:=fun b u q nm z=>by subst z;rw[q]at mu;exact nm mu
 refine⟨fun b u q n _ _=>k b u (hb b n) q,fun b u q n _ _=>⟨u.slots,k b u (hb b n) q⟩,fun b u q n _=>by rw[aB (hx b n)];exact n,fun b u q _=>?_,
  fun b xs q=>by rw[aB (hm b _ q fun z=>z)];exact q,fun b u xs q=>by rw[aB (hm b _ q fun z=>z)];exact q,fun b ps q=>⟨#[],by rw[aB (hm b _ q fun z=>z),q];simp⟩⟩
 by_cases B5:b=e
 ·subst B5;exact Cl
 ·exact⟨u,k b u B5 q⟩
end
noncomputable def wH(h:Heap)(H:Hp):List Addr:=(List.range h.objs.size).filter fun a=>(H a).isSome
noncomputable def iU(h:Heap)(H:Hp):Heap:=PySem.W.hideAll h (wH h H)
def l6(h:Heap)(H:Hp):(iU h H).objs.size=h.objs.size:=PySem.W.hideAll_size _ _
def nb{h:Heap}{H:Hp}{b:Addr}{o:Obj}(e:h.get? b=some o)(n:H b=none):(iU h H).get? b=some o:=
 PySem.W.hideAll_get _ e fun hm=>by
  have q:(H b).isSome=true:=(List.mem_filter.mp hm).2
  rw[n]at q;simp at q
def pM{h:Heap}{H:Hp}{b:Addr}{o:Obj}(e:(iU h H).get? b=some o):h.get? b=some o/\H b=none:=by
 have e':h.get? b=some o:=PySem.W.of_hideAll (wH h H) e
 refine⟨e',?_⟩
 cases q:H b with
 |none=>rfl
 |some x=>
  have hm:b∈wH h H:=List.mem_filter.mpr ⟨List.mem_range.mpr (E5 e'),by simp[q]⟩
  have z:(iU h H).get? b=none:=PySem.W.hideAll_none (wH h H) hm
  rw[z]at e;cases e
structure Mod (K:Vo) (mg:Vr) (base:Heap):Prop where
 C3:K.In base
 glob:base.Ns mainGlobals mg
 blt:∃mb,base.Ns builtinsNs mb/\∀x:Str,x ≠ "__name__"->mb x=bootBuiltins x
 nolimit:base.NoLimit
structure Cx where
 prog:Program
 w:World
 K:Vo
 mg:Vr
 base:Heap
 A:Around
 N:List Str
 s₀:Shared
 H₀:Hp
 env:Env
 outer:List Env
 stack:List Env
 ex:List Addr
 fn:Str->Bool
 calm:Bool
 pn:Va
 xe:Value->Shared->Prop
noncomputable def frs(l:List Env):List Addr:=l.filterMap (·.frame)
noncomputable abbrev Cx.fs(X:Cx):List Addr:=frs X.outer
def wI(sc:Scope)(x:Str):Prop:=sc.names.lookup x=some .local\/sc.names.lookup x=some .cell\/sc.names.lookup x=some .free
def rA(sc:Scope)(x:Str):Prop:=sc.names.lookup x=some .local\/sc.names.lookup x=some .cell
def wX(env:Env)(h:Heap)(m:Vr)(x:Str)(u:Value):Prop:=
 (env.kindOf x=some .local/\m x=some u)\/((env.kindOf x=some .cell\/env.kindOf x=some .free)/\∃c,env.cells.lookup x=some c/\h.IsCell c (some u))
structure Cx.Ok (X:Cx):Prop where
 mod:Mod X.K X.mg X.base
 kind:X.env.scope.kind = .function
 glob:X.env.globals=mainGlobals
 blt:X.env.builtins=builtinsNs
 above:X.s₀.heap.objs.size<=X.env.locals
 inj:∀x y c,X.env.cells.lookup x=some c->X.env.cells.lookup y=some c->x=y
 has:∀x,(X.env.kindOf x=some .cell\/X.env.kindOf x=some .free)->∃c,X.env.cells.lookup x=some c
 BU:∀x c,X.fn x=true->X.env.cells.lookup x=some c->X.s₀.heap.objs.size<=c
 hd:X.calm=true->X.A.handled=none
 frames:X.A.frames=some X.stack
 stk:X.stack=X.outer\/(X.stack=X.env::X.outer/\X.env.frame=some X.env.locals)
 Cq:∀b∈X.ex,b≠X.env.locals/\∀x c,X.env.cells.lookup x=some c->c≠b
 bs:∀b o,X.base.get? b=some o->X.s₀.heap.get? b=some o/\X.H₀ b=none
 Bv:X.base.objs.size<=X.s₀.heap.objs.size
 AO:∀b o,X.base.get? b=some o->b ∉ X.ex
 A4:∀b∈X.ex,b ∉ X.fs
 Aa:X.s₀.heap.FunFrames X.base X.outer
 BG:∀b∈X.fs,X.H₀ b=none
structure Inv (X:Cx) (pins:Va) (σ:List (Option V)) (H:Hp) (s:Shared):Prop where
 ok:X.Ok
 os:s.os=X.s₀.os
 bare:AllBare s.gens
 base:Un X.fs X.ex X.H₀ H X.s₀.heap s.heap
 loc:∃m,s.heap.Ns X.env.locals m/\∀(i:Nat) (x:Str) (v:V),X.N[i]?=some x->σ[i]?=some (some v)->wI X.env.scope x->∃u,RelV v u/\wX X.env s.heap m x u
 cell:∀x c,X.env.cells.lookup x=some c->∃v,s.heap.IsCell c v
 free:H X.env.locals=none
 zE:∀x c,X.env.cells.lookup x=some c->H c=none
 pin:∀p∈X.pn++pins,s.heap.get? p.1=some p.2/\H p.1=none/\p.1≠X.env.locals/\p.1 ∉ X.fs/\∀v,p.2.data ≠ .cell v
 hok:z9 X.prog X.w H s.heap
 len:σ.length=X.N.length
 tk:1<=s.toks
end L2
local macro_rules | `(tactic| walk_at "t")=>`(tactic| first | omega | assumption | exact L2.Inv.tk ‹L2.Inv _ _ _ _ _› | (have:=L2.Inv.tk ‹L2.Inv _ _ _ _ _›; omega))
namespace L2
open PySem PySem.Spec PyProof.Rows
section
variable {X:Cx} {pins:Va} {σ:List (Option V)} {H H':Hp} {s:Shared} {h':Heap}
def Cx.Ok.C4(ok:X.Ok){b:Addr}{o:Obj}(e:X.base.get? b=some o):b ∉ X.fs:=fun hb=>by
 have:=(ok.Aa.mem hb).1
 rw[e]at this;cases this
theorem Inv.bs(I:Inv X pins σ H s):∀b o,X.base.get? b=some o->s.heap.get? b=some o/\H b=none:=fun b o e=>
 ⟨I.base.keep b o (I.ok.bs b o e).1 (I.ok.bs b o e).2 (I.ok.C4 e) (I.ok.AO b o e),I.base.free b o (I.ok.bs b o e).1 (I.ok.bs b o e).2 (I.ok.AO b o e)⟩
def Inv.bk(I:Inv X pins σ H s):∀b o,X.base.get? b=some o->s.heap.get? b=some o:=fun b o e=>(I.bs b o e).1
theorem Inv.mod(I:Inv X pins σ H s):Mod X.K X.mg X.base:=I.ok.mod
def Inv.Bw(I:Inv X pins σ H s):X.K.In s.heap:=I.ok.mod.C3.keeps I.bk
theorem Inv.lt(I:Inv X pins σ H s):X.env.locals < s.heap.objs.size:=let ⟨_,hn,_⟩:=I.loc;hn.lt
def Inv.sz(I:Inv X pins σ H s):X.s₀.heap.objs.size<=s.heap.objs.size:=Fl I.ok.above (GQ I.lt)
def Inv.Cr(I:Inv X pins σ H s){a:Addr}(h:s.heap.objs.size<=a):a ∉ X.fs:=fun hb=>by
 obtain⟨_,o,ho,_⟩:=I.ok.Aa.mem hb
 exact absurd (E6 (E5 ho) (Fl I.sz h)) (FO _)
def Inv.B6(I:Inv X pins σ H s):∀x c,X.env.cells.lookup x=some c->c≠X.env.locals:=fun x c e z=>by
 obtain⟨v,o,ho,hd⟩:=I.cell x c e
 obtain⟨m,⟨o',es,ep,ho',hd',_⟩,_⟩:=I.loc
 rw[z,ho']at ho;cases ho;rw[hd']at hd;cases hd
theorem Inv.Aa(I:Inv X pins σ H s):s.heap.FunFrames X.base X.outer:=by
 have all:∀(l:List Env),(∀b∈frs l,b∈X.fs)->X.s₀.heap.FunFrames X.base l->s.heap.FunFrames X.base l:=by
  intro l
  induction l with
  |nil=>intro _ _;trivial
  |cons env r ih=>
   intro hs hl
   obtain⟨hk,⟨L,o,hf,hn,ho,hd⟩,hr⟩:=hl
   have hL:L∈X.fs:=hs L (by unfold frs;rw[Hh,hf];exact Fg)
   obtain⟨sl,e⟩:=I.base.slot L o ho (I.ok.BG L hL) hL fun z=>I.ok.A4 L z hL
   exact⟨hk,⟨L,_,hf,hn,e,hd⟩,ih (fun b hb=>hs b (by unfold frs;rw[Hh,hf];exact Fi _ hb)) hr⟩
 exact all X.outer (fun _ hb=>hb) I.ok.Aa
theorem Inv.stack(I:Inv X pins σ H s):s.heap.FunFrames X.base X.stack:=by
 rcases I.ok.stk with e|⟨e,hf⟩
 ·rw[e];exact I.Aa
 ·rw[e]
  obtain⟨m,hn,_⟩:=I.loc
  refine .cons (by rw[I.ok.kind];decide) hf hn ?_ I.Aa
  exact Heap.get?_none_of_le (Fl I.ok.Bv I.ok.above)
def Inv.Ai(I:Inv X pins σ H s):∀b∈frs X.stack,b∈X.env.locals::X.fs:=fun b hb=>by
 rcases I.ok.stk with e|⟨e,hf⟩
 ·rw[e]at hb;exact Fi _ hb
 ·rw[e]at hb
  unfold frs at hb
  rw[Hh,hf]at hb
  exact hb
def Inv.Ba(I:Inv X pins σ H s):∀b∈frs X.stack,H b=none:=fun b hb=>by
 rcases E1.mp (I.Ai b hb)with e|hb
 ·rw[e];exact I.free
 ·obtain⟨_,o,ho,_⟩:=I.ok.Aa.mem hb
  exact I.base.free b o ho (I.ok.BG b hb) fun z=>I.ok.A4 b z hb
def Inv.step{g':Array GenState}{t':Nat}{d':Drawn}{ch:List Addr}(I:Inv X pins σ H s)
  (hch:∀b∈ch,(b∈X.ex\/X.s₀.heap.objs.size<=b)/\b≠X.env.locals/\(∀x c,X.env.cells.lookup x=some c->c≠b)/\∀p∈X.pn++pins,p.1≠b)
  (keep:∀b o,b≠X.env.locals->b ∉ X.fs->b ∉ ch->s.heap.get? b=some o->H b=none->h'.get? b=some o)
  (slot:∀b o,b≠X.env.locals->b∈X.fs->b ∉ ch->s.heap.get? b=some o->H b=none->∃sl,h'.get? b=some { o with slots:=sl }) (free:∀b o,b ∉ ch->s.heap.get? b=some o->H b=none->H' b=none)
  (there:∀b o,b ∉ ch->s.heap.get? b=some o->∃o',h'.get? b=some o')
  (tups:∀b xs,H b=some (.tup xs)->H' b=some (.tup xs)) (AD:∀b o u,H b=some (.frz o u)->H' b=some (.frz o u)) (AN:∀b ps,H b=some (.B3 ps)->∃more,H' b=some (.B3 (ps++more)))
  (ns:∀m,s.heap.Ns X.env.locals m->h'.Ns X.env.locals m) (hok:z9 X.prog X.w H' h') (hg:AllBare g') (ht:1<=t':=by walk_at "t") :
  Inv X pins σ H' { s with heap:=h',gens:=g',drawn:=d',toks:=t' }:=by
 have DK:∀b o,X.s₀.heap.get? b=some o->b≠X.env.locals:=fun b o e=>Ft (E6 (E5 e) I.ok.above)
 have CL:∀b o,X.s₀.heap.get? b=some o->b ∉ X.ex->b ∉ ch:=fun b o e hx hb=>by
  rcases(hch b hb).1 with z|z
  ·exact hx z
  ·exact absurd (E6 (E5 e) z) (FO _)
 have cellK:∀x c,X.env.cells.lookup x=some c->∀v,s.heap.IsCell c v->h'.IsCell c v:=fun x c e v ⟨o,ho,hd⟩=>by
  have Cs:c ∉ ch:=fun z=>(hch c z).2.2.1 x c e rfl
  by_cases hc:c∈X.fs
  ·obtain⟨sl,q⟩:=slot c o (I.B6 x c e) hc Cs ho (I.zE x c e)
   exact⟨_,q,hd⟩
  ·exact⟨o,keep c o (I.B6 x c e) hc Cs ho (I.zE x c e),hd⟩
 refine⟨I.ok,I.os,hg,⟨fun b o e n hb hx=>?_,fun b o e n hb hx=>?_,fun b o e n hx=>?_,fun b o e hx=>?_,fun b xs e=>tups b xs (I.base.tups b xs e),fun b o xs e=>AD b o xs (I.base.AD b o xs e),fun b ps e=>?_⟩,?_,fun x c e=>?_,?_,fun x c e=>?_,fun p hp=>?_,hok,I.len,ht⟩
 ·exact keep b o (DK b o e) hb (CL b o e hx) (I.base.keep b o e n hb hx) (I.base.free b o e n hx)
 ·obtain⟨sl,e1⟩:=I.base.slot b o e n hb hx
  obtain⟨sl',e2⟩:=slot b _ (DK b o e) hb (CL b o e hx) e1 (I.base.free b o e n hx)
  exact⟨sl',e2⟩
 ·obtain⟨o',e1⟩:=I.base.there b o e hx
  exact free b o' (CL b o e hx) e1 (I.base.free b o e n hx)
 ·obtain⟨o',e1⟩:=I.base.there b o e hx
  exact there b o' (CL b o e hx) e1
 ·obtain⟨m1,e1⟩:=I.base.AN b ps e
  obtain⟨m2,e2⟩:=AN b _ e1
  exact⟨m1++m2,by rw[e2,Array.append_assoc]⟩
 ·obtain⟨m,hn,hl⟩:=I.loc
  refine⟨m,ns m hn,fun i x v e1 e2 e3=>?_⟩
  obtain⟨u,r,l⟩:=hl i x v e1 e2 e3
  refine⟨u,r,?_⟩
  rcases l with l|⟨k,c,e,z⟩
  ·exact .inl l
  ·exact .inr ⟨k,c,e,cellK x c e _ z⟩
 ·obtain⟨v,z⟩:=I.cell x c e
  exact⟨v,cellK x c e v z⟩
 ·obtain⟨m,⟨o,_,_,ho,_⟩,_⟩:=I.loc
  exact free _ o (fun z=>(hch _ z).2.1 rfl) ho I.free
 ·obtain⟨v,o,ho,hd⟩:=I.cell x c e
  exact free c o (fun z=>(hch c z).2.2.1 x c e rfl) ho (I.zE x c e)
 ·obtain⟨e,n,ne,nf,d⟩:=I.pin p hp
  have Cs:p.1 ∉ ch:=fun z=>(hch p.1 z).2.2.2 p hp rfl
  exact⟨keep p.1 p.2 ne nf Cs e n,free p.1 p.2 Cs e n,ne,nf,d⟩
def Inv.un{t':Nat}(I:Inv X pins σ H s)(u:Un X.fs [] H H' s.heap h')(hok:z9 X.prog X.w H' h')(ht:1<=t':=by walk_at "t"):Inv X pins σ H' { s with heap:=h',toks:=t' }:=by
 obtain⟨m,⟨o,es,ep,ho,r⟩,_⟩:=id I.loc
 obtain⟨sl,hL⟩:=u.any ho I.free (by simp)
 exact I.step (g':=s.gens) (d':=s.drawn) (ch:=[]) (fun _ z=>nomatch z) (fun b o _ hb _ e n=>u.keep b o e n hb (by simp)) (fun b o _ hb _ e n=>u.slot b o e n hb (by simp)) (fun b o _ e n=>u.free b o e n (by simp)) (fun b o _ e=>u.there b o e (by simp)) u.tups u.AD u.AN (fun m' hm=>by
  obtain⟨o',es',C5,ho',r'⟩:=hm
  rw[ho]at ho';cases ho'
  exact⟨_,es',C5,hL,r'⟩) hok I.bare
def Inv.call{g':Array GenState}{t':Nat}{d':Drawn}{ch:List Addr}(I:Inv X pins σ H s)(u:Un (frs X.stack) ch H H' s.heap h')(hok:z9 X.prog X.w H' h')(hg:AllBare g')
  (hch:∀b∈ch,(b∈X.ex\/X.s₀.heap.objs.size<=b)/\b≠X.env.locals/\(∀x c,X.env.cells.lookup x=some c->c≠b)/\∀p∈X.pn++pins,p.1≠b) (ht:1<=t':=by walk_at "t") :
  Inv X pins σ H' { s with heap:=h',gens:=g',drawn:=d',toks:=t' }:=by
 obtain⟨m,⟨o,es,ep,ho,r⟩,_⟩:=id I.loc
 obtain⟨sl,hL⟩:=u.any ho I.free fun z=>(hch _ z).2.1 rfl
 exact I.step (ch:=ch) hch (fun b o hL hb hc e n=>u.keep b o e n (fun z=>(E1.mp (I.Ai b z)).elim hL hb) hc) (fun b o _ _ hc e n=>u.any e n hc) (fun b o hc e n=>u.free b o e n hc) (fun b o hc e=>u.there b o e hc) u.tups u.AD u.AN (fun m' hm=>by
  obtain⟨o',es',C5,ho',r'⟩:=hm
  rw[ho]at ho';cases ho'
  exact⟨_,es',C5,hL,r'⟩) hok hg
def Inv.turned{t':Nat}{it:Addr}(I:Inv X pins σ H s)(k:∀b o,b≠it->s.heap.get? b=some o->h'.get? b=some o)(hn:H it=none)(hL:it≠X.env.locals)
  (h1:it∈X.ex\/X.s₀.heap.objs.size<=it) (h2:∀x c,X.env.cells.lookup x=some c->c≠it) (h3:∀p∈X.pn++pins,p.1≠it) (ht:1<=t':=by walk_at "t"):Inv X pins σ H { s with heap:=h',toks:=t' }:=by
 have DL:∀b u,H b=some u->b≠it:=fun b u e z=>by rw[z,hn]at e;cases e
 refine I.step (g':=s.gens) (d':=s.drawn) (ch:=[it]) (fun b hb=>?_) (fun b o _ _ hc e _=>k b o (fun z=>hc (by simp[z])) e) (fun b o _ _ hc e _=>⟨o.slots,k b o (fun z=>hc (by simp[z])) e⟩) (fun _ _ _ _ n=>n)
  (fun b o hc e=>⟨o,k b o (fun z=>hc (by simp[z])) e⟩) (fun _ _ e=>e) (fun _ _ _ e=>e) (fun b ps e=>⟨#[],by rw[e];simp⟩) (fun m hm=>?_) (fun b u e=>?_) I.bare
 ·have e:b=it:=by simpa using hb
  subst e
  exact⟨h1,hL,h2,h3⟩
 ·obtain⟨o,es,ep,ho,r⟩:=hm
  exact⟨o,es,ep,k _ o (GR hL) ho,r⟩
 ·refine(I.hok b u e).stay (fun c v hc q=>k c v ?_ q) (fun _ q=>q) fun _ _ q=>q
  rcases hc with z|z
  ·rw[z];exact DL b u e
  ·exact DL c _ z
def Inv.tok(I:Inv X pins σ H s)(t:Nat)(ht:1<=t:=by walk_at "t"):Inv X pins σ H { s with toks:=t }:=I.un (h':=s.heap) (t':=t) Un.refl I.hok
theorem Inv.kept{t':Nat}(I:Inv X pins σ H s)(k:∀b u,s.heap.get? b=some u->h'.get? b=some u)(ht:1<=t':=by walk_at "t"):Inv X pins σ H { s with heap:=h',toks:=t' }:=I.un (Un.kept k) (I.hok.kept k)
theorem Inv.laid{a:Addr}{o:HO}{t':Nat}(I:Inv X pins σ H s)(k:∀b u,s.heap.get? b=some u->h'.get? b=some u)(hp:s.heap.objs.size<=a)(new:yZ X.prog X.w (upd H a o) h' a o)(ht:1<=t':=by walk_at "t") :
  Inv X pins σ (upd H a o) { s with heap:=h',toks:=t' }:=I.un (Un.laid k hp (I.hok.fresh hp)) (I.hok.laid k hp new)
theorem Inv.write{x e:Addr}{o:HO}{t':Nat}(I:Inv X pins σ H s)(mu:vh (H x))(he:e=x\/H e=some (.own x))(k:∀b u,b≠e->s.heap.get? b=some u->h'.get? b=some u)(Cl:∃u,h'.get? e=some u)
  (new:yZ X.prog X.w (upd H x o) h' x o) (ht:1<=t':=by walk_at "t"):Inv X pins σ (upd H x o) { s with heap:=h',toks:=t' }:=I.un (Un.write mu he k Cl) (I.hok.write mu he k Cl new)
def Inv.weak{σ':List (Option V)}(I:Inv X pins σ H s)(hl:σ'.length=σ.length)(w:∀(i:Nat) v,σ'[i]?=some (some v)->σ[i]?=some (some v)):Inv X pins σ' H s:=
 ⟨I.ok,I.os,I.bare,I.base,let ⟨m,hn,hl'⟩:=I.loc;⟨m,hn,fun i x v e1 e2 e3=>hl' i x v e1 (w i v e2) e3⟩,I.cell,I.free,I.zE,I.pin,I.hok,hl.trans I.len,I.tk⟩
def Inv.At{pins':Va}(I:Inv X pins σ H s)(h:∀p∈pins',s.heap.get? p.1=some p.2/\H p.1=none/\p.1≠X.env.locals/\p.1 ∉ X.fs/\∀v,p.2.data ≠ .cell v):Inv X pins' σ H s:=
 ⟨I.ok,I.os,I.bare,I.base,I.loc,I.cell,I.free,I.zE,fun p hp=>(Fe.mp hp).elim (fun z=>I.pin p (Gy _ z)) (h p),I.hok,I.len,I.tk⟩
def jP{N:Vs}(hN:N.Nodup){i j:Nat}{x:Str}(a:N[i]?=some x)(b:N[j]?=some x):i=j:=by
 obtain⟨h1,e1⟩:=Fw.mp a
 obtain⟨h2,e2⟩:=Fw.mp b
 exact(List.getElem_inj hN).mp (e1.trans e2.symm)
def ik {M : Model} {A : Around} {E : Value -> Shared -> Prop} {i : Nat} {x : Str} {v : V} {u : Value} {Q : Unit -> Shared -> Prop} (I : Inv X pins σ H s) (hN : X.N.Nodup) (hi : X.N[i]? = some x) (hx : rA X.env.scope x) (r : RelV v u)
  (h : ∀ s', Inv X pins (σ.set i (some v)) H s' -> (∃ a, Heap.SameBut a s.heap s'.heap /\ (a = X.env.locals \/ X.env.cells.lookup x = some a)) -> Q () s') (hf : X.fn x = true \/ X.env.scope.names.lookup x = some .local := by first | exact .inl rfl | exact .inr rfl | assumption) : wpAny M A (storeName X.env x u) Q E s := by
 obtain ⟨m, hn, hl⟩ := id I.loc
 have hcls : (X.env.scope.kind == .class || (X.env.scope.kind == .module && X.env.locals != X.env.globals)) = false := by rw [I.ok.kind]; rfl
 have DM : i < σ.length := by rw [I.len]; exact (Fw.mp hi).1
 have B6 := I.B6
 have tracked : ∀ {a : Addr} {h' : Heap}, (∃ o, s.heap.get? a = some o /\ H a = none) -> Heap.SameBut a s.heap h' -> z9 X.prog X.w H h' := fun {a h'} ha hs b ob e => by
  obtain ⟨_, _, hfree⟩ := ha
  refine (I.hok b ob e).stay (fun c w' hc q => (hs.2 c ?_).trans q) (fun _ q => q) fun _ _ q => q
  rintro rfl
  rcases hc with rfl | hc
  ·rw [hfree] at e; cases e
  ·rw [hfree] at hc; cases hc
 rcases hx with hk | hk
 ·refine wpAny_storeName_local hk hn (fun h' hn' hs => ?_) hcls
  obtain ⟨oL, _, _, Ej, _⟩ := id hn
  refine h _ ⟨I.ok, I.os, I.bare, ⟨fun b o e n hb hx => ?_, fun b o e n hb hx => ?_, I.base.free, fun b o e hx => ?_, I.base.tups, I.base.AD, I.base.AN⟩, ⟨_, hn', fun j y v' e1 e2 e3 => ?_⟩, fun y c e => ?_, I.free, I.zE, fun p hp => ?_, tracked ⟨oL, Ej, I.free⟩ hs, by simpa using I.len, FW (FE _)⟩ ⟨_, hs, .inl rfl⟩
  ·exact (hs.2 b (Ft (E6 (E5 e) I.ok.above))).trans (I.base.keep b o e n hb hx)
  ·obtain ⟨sl, e1⟩ := I.base.slot b o e n hb hx
   exact ⟨sl, (hs.2 b (Ft (E6 (E5 e) I.ok.above))).trans e1⟩
  ·obtain ⟨o', e1⟩ := I.base.there b o e hx
   exact ⟨o', (hs.2 b (Ft (E6 (E5 e) I.ok.above))).trans e1⟩
  ·by_cases hj : j = i
   ·subst hj
    rw [hi] at e1; cases e1
    rw [List.getElem?_set_self DM] at e2
    cases e2
    exact ⟨u, r, .inl ⟨hk, by simp⟩⟩
   ·rw [List.getElem?_set_ne (GR hj)] at e2
    obtain ⟨u', r', q⟩ := hl j y v' e1 e2 e3
    refine ⟨u', r', ?_⟩
    rcases q with ⟨k, e⟩ | ⟨k, c, e, z⟩
    ·refine .inl ⟨k, ?_⟩
     have : y ≠ x := fun e => hj (jP hN e1 (e ▸ hi))
     simp [this, e]
    ·exact .inr ⟨k, c, e, z.sameBut hs (B6 y c e)⟩
  ·obtain ⟨w', z⟩ := I.cell y c e
   exact ⟨w', z.sameBut hs (B6 y c e)⟩
  ·obtain ⟨e, n, ne, nf, d⟩ := I.pin p hp
   exact ⟨(hs.2 p.1 ne).trans e, n, ne, nf, d⟩
 ·have hfn : X.fn x = true := by
   rcases hf with z | z
   ·exact z
   ·rw [z] at hk; cases hk
  obtain ⟨c, hc⟩ := I.ok.has x (.inl hk)
  obtain ⟨w', z⟩ := I.cell x c hc
  refine wpAny_storeName_cell I.ok.kind hk hc z (fun h' hc' hs => ?_)
  obtain ⟨oc, hoc, C6⟩ := id z
  refine h { s with heap := h' } ⟨I.ok, I.os, I.bare, ⟨fun b o e n hb hx => ?_, fun b o e n hb hx => ?_, I.base.free, fun b o e hx => ?_, I.base.tups, I.base.AD, I.base.AN⟩, ⟨m, hn.sameBut hs (GR (B6 x c hc)), fun j y v' e1 e2 e3 => ?_⟩, fun y c' e => ?_, I.free, I.zE, fun p hp => ?_, tracked ⟨oc, hoc, I.zE x c hc⟩ hs, by simpa using I.len, I.tk⟩ ⟨c, hs, .inr hc⟩
  ·exact (hs.2 b (Ft (E6 (E5 e) (I.ok.BU x c hfn hc)))).trans (I.base.keep b o e n hb hx)
  ·obtain ⟨sl, e1⟩ := I.base.slot b o e n hb hx
   exact ⟨sl, (hs.2 b (Ft (E6 (E5 e) (I.ok.BU x c hfn hc)))).trans e1⟩
  ·obtain ⟨o', e1⟩ := I.base.there b o e hx
   exact ⟨o', (hs.2 b (Ft (E6 (E5 e) (I.ok.BU x c hfn hc)))).trans e1⟩
  ·by_cases hj : j = i
   ·subst hj
    rw [hi] at e1; cases e1
    rw [List.getElem?_set_self DM] at e2
    cases e2
    exact ⟨u, r, .inr ⟨.inl hk, c, hc, hc'⟩⟩
   ·rw [List.getElem?_set_ne (GR hj)] at e2
    obtain ⟨u', r', q⟩ := hl j y v' e1 e2 e3
    refine ⟨u', r', ?_⟩
    rcases q with q | ⟨k, c', e, z'⟩
    ·exact .inl q
    ·refine .inr ⟨k, c', e, z'.sameBut hs ?_⟩
     rintro rfl
     exact hj (jP hN e1 (I.ok.inj _ _ _ e hc ▸ hi))
  ·by_cases hcc : c' = c
   ·subst hcc; exact ⟨_, hc'⟩
   ·obtain ⟨w2, z2⟩ := I.cell y c' e
    exact ⟨w2, z2.sameBut hs hcc⟩
  ·obtain ⟨e, n, ne, nf, d⟩ := I.pin p hp
   refine ⟨(hs.2 p.1 ?_).trans e, n, ne, nf, d⟩
   intro q
   rw [q, hoc] at e
   have q' : oc = p.2 := FI e
   exact d w' (by rw [<- q']; exact C6)
def eE{M:Model}{A:Around}{E:Vq}{i:Nat}{x:Str}{v:V}{u:Value}{Q:Unit->Shared->Prop}(I:Inv X pins σ H s)(hN:X.N.Nodup)(hi:X.N[i]?=some x)(hx:rA X.env.scope x)(r:RelV v u)
  (h:∀s',Inv X pins (σ.set i (some v)) H s'->Q () s') (hf:X.fn x=true\/X.env.scope.names.lookup x=some .local:=by first|exact .inl rfl|exact .inr rfl|assumption):wpAny M A (storeName X.env x u) Q E s:=
 ik I hN hi hx r (fun s' I' _=>h s' I') hf
def Inv.Ct{s':Shared}{ch:List Addr}(I:Inv X pins σ H s)(ho:s'.os=s.os)(u:Un (frs X.stack) ch H H' s.heap s'.heap)(hok:z9 X.prog X.w H' s'.heap)(hg:AllBare s'.gens)(ht:1<=s'.toks)
  (hch:∀b∈ch,(b∈X.ex\/X.s₀.heap.objs.size<=b)/\b≠X.env.locals/\(∀x c,X.env.cells.lookup x=some c->c≠b)/\∀p∈X.pn++pins,p.1≠b):Inv X pins σ H' s':=by
 obtain⟨h',g',d',t',o'⟩:=s'
 have e:o'=s.os:=ho
 subst e
 exact I.call (g':=g') (t':=t') (d':=d') u hok hg hch
end
abbrev XK:=Value->Option Addr->Hp->Prop
abbrev St:=List (Option V)
abbrev VK:=V->Hp->Prop
abbrev TE:=St->Hp->VK->Prop
abbrev TT:=St->Hp->(Bool->Hp->Prop)->Prop
abbrev TA:=St->Hp->(List V->Hp->Prop)->Prop
structure hJ where
 nx:St->Hp->Prop
 rt:VK
 bk:St->Hp->Prop:=fun _ _=>False
 ct:St->Hp->Prop:=fun _ _=>False
abbrev TS:=hJ->St->Hp->Prop
def EP(X:Cx)(pins:Va)(σ:St)(Q:VK)(u:Value)(s':Shared):Prop:=∃v H',Inv X pins σ H' s'/\RelV v u/\Q v H'
def TP(X:Cx)(pins:Va)(σ:St)(Q:Bool->Hp->Prop)(b:Bool)(s':Shared):Prop:=∃H',Inv X pins σ H' s'/\Q b H'
def AP(X:Cx)(pins:Va)(σ:St)(Q:List V->Hp->Prop)(us:Vv)(s':Shared):Prop:=∃vs H',Inv X pins σ H' s'/\Vals vs us/\Q vs H'
def SP(X:Cx)(pins:Va)(D:hJ)(f:Flow)(s':Shared):Prop:=
 match f with
 | .next=>∃σ' H',Inv X pins σ' H' s'/\D.nx σ' H'
 | .brk=>∃σ' H',Inv X pins σ' H' s'/\D.bk σ' H'
 | .cont=>∃σ' H',Inv X pins σ' H' s'/\D.ct σ' H'
 | .ret u=>∃v σ' H',Inv X pins σ' H' s'/\RelV v u/\D.rt v H'
def PE(X:Cx)(e:Expr)(t:TE):Prop:=
 ∀(pins:Va) (s:Shared) (σ:St) (H:Hp) (Q:VK),Inv X pins σ H s->t σ H Q->wpAny (model X.prog X.w) X.A (eval e X.env) (EP X pins σ Q) X.xe s
def PT(X:Cx)(e:Expr)(t:TT):Prop:=
 ∀(pins:Va) (s:Shared) (σ:St) (H:Hp) (Q:Bool->Hp->Prop),Inv X pins σ H s->t σ H Q->wpAny (model X.prog X.w) X.A (isTrue e X.env (eval e X.env)) (TP X pins σ Q) X.xe s
def PW(X:Cx)(e:Expr)(t:TT):Prop:=
 ∀(whole:Sem Value) (pins:Va) (s:Shared) (σ:St) (H:Hp) (Q:Bool->Hp->Prop),Inv X pins σ H s->t σ H Q->wpAny (model X.prog X.w) X.A (isTrue e X.env whole) (TP X pins σ Q) X.xe s
def PW.pt{X:Cx}{e:Expr}{t:TT}(h:PW X e t):PT X e t:=h _
def PA(X:Cx)(es:List Expr)(t:TA):Prop:=
 ∀(pos:Pos) (pins:Va) (s:Shared) (σ:St) (H:Hp) (Q:List V->Hp->Prop),Inv X pins σ H s->t σ H Q->wpAny (model X.prog X.w) X.A (spliced (backTo pos (starEach es X.env))) (AP X pins σ Q) X.xe s
def PS(X:Cx)(st:Stmt)(t:TS):Prop:=
 ∀(pins:Va) (s:Shared) (σ:St) (H:Hp) (D:hJ),Inv X pins σ H s->t D σ H->wpAny (model X.prog X.w) X.A (exec st X.env) (SP X pins D) X.xe s
def AQ(X:Cx)(st:List Stmt)(t:TS):Prop:=
 ∀(pins:Va) (s:Shared) (σ:St) (H:Hp) (D:hJ),Inv X pins σ H s->t D σ H->wpAny (model X.prog X.w) X.A (execs st X.env) (SP X pins D) X.xe s
def yS{α:Type}{t:Sem α}{Q Q':α->Shared->Prop}{M:Model}{A:Around}{E:Vq}{s:Shared}(h:wpAny M A t Q E s)(hQ:∀a s,Q a s->Q' a s):wpAny M A t Q' E s:=Gk h hQ fun _ _ x=>x
section
variable {X:Cx}
def wY(i:Nat):TE:=fun σ H Q=>∃v,σ[i]?=some (some v)/\Q v H
def tC(v:V):TE:=fun _ H Q=>Q v H
def sy{i:Nat}{x:Str}{pos:Pos}(hN:X.N[i]?=some x)(hv:wI X.env.scope x)(hd:(x == ("__debug__":Str))=false:=by decide)(hcd:(x == ("__classdict__":Str))=false:=by decide):PE X (.Name x pos) (wY i):=by
 intro pins s σ H Q I h
 obtain⟨v,e,h⟩:=h
 obtain⟨m,hn,hl⟩:=I.loc
 obtain⟨u,r,l⟩:=hl i x v hN e hv
 have fin:EP X pins σ Q u s:=⟨v,H,I,r,h⟩
 rcases l with⟨hk,hm⟩|⟨hk,c,hc,hcell⟩
 ·exact wpAny_Name (wpAny_loadName_local I.ok.kind hk hn hm fin) hd
 ·rcases hk with hk|hk
  ·exact wpAny_Name (wpAny_loadName_cell I.ok.kind hk hc hcell fin) hd
  ·exact wpAny_Name (wpAny_loadName_free I.ok.kind hk hc hcell fin hcd) hd
def sA{i j pos}:PE X (.Constant (.int i) j pos) (tC (.int i)):=fun _ _ _ H _ I h=>wpAny_Constant_int ⟨.int i,H,I.tok _,⟨_,rfl⟩,h⟩
def vi{b j pos}:PE X (.Constant (.bool b) j pos) (tC (.bl b)):=fun _ _ _ H _ I h=>Constant_bool ⟨.bl b,H,I,rfl,h⟩
def sB{x j pos}:PE X (.Constant (.str x) j pos) (tC (.str x)):=fun _ _ _ H _ I h=>Calls.Constant_str ⟨.str x,H,I.tok _,⟨_,rfl⟩,h⟩
def Gl(X:Cx)(x:Str):Prop:=X.env.kindOf x=some .globalImplicit
def fX{E:Vq}{pins:Va}{s:Shared}{σ:St}{H:Hp}{x:Str}{u:Value}{pos:Pos}{Q:Vq}(I:Inv X pins σ H s)(hg:Gl X x)(hm:X.mg x=some u)(h:Q u s)
  (hd:(x == ("__debug__":Str))=false:=by decide):wpAny (model X.prog X.w) X.A (eval (.Name x pos) X.env) Q E s:=
 Calls.Name_function_global I.ok.kind hg (Calls.loadGlobal_global (by rw[I.ok.glob];exact I.mod.glob.keeps I.bk) hm h) hd
def cK{E:Vq}{pins:Va}{s:Shared}{σ:St}{H:Hp}{x:Str}{u:Value}{pos:Pos}{Q:Vq}(I:Inv X pins σ H s)(hg:Gl X x)(hm:X.mg x=none)(hv:bootBuiltins x=some u)(h:Q u s)
  (hn:x ≠ "__name__":=by decide) (hd:(x == ("__debug__":Str))=false:=by decide):wpAny (model X.prog X.w) X.A (eval (.Name x pos) X.env) Q E s:=by
 obtain⟨mb,h1,h2⟩:=I.mod.blt
 exact Calls.Name_function_global I.ok.kind hg (Calls.loadGlobal_builtin (by rw[I.ok.glob];exact I.mod.glob.keeps I.bk) hm (by rw[I.ok.blt];exact h1.keeps I.bk) ((h2 x hn).trans hv) h) hd
def fY{x:Str}{v:V}{u:Value}{pos:Pos}(hg:Gl X x)(hm:X.mg x=some u)(r:RelV v u)(hd:(x == ("__debug__":Str))=false:=by decide):PE X (.Name x pos) (tC v):=
 fun _ _ _ H _ I h=>fX I hg hm ⟨v,H,I,r,h⟩ hd
def pN{x:Str}{v:V}{u:Value}{pos:Pos}(hg:Gl X x)(hm:X.mg x=none)(hv:bootBuiltins x=some u)(r:RelV v u)(hn:x ≠ "__name__":=by decide)(hd:(x == ("__debug__":Str))=false:=by decide):PE X (.Name x pos) (tC v):=
 fun _ _ _ H _ I h=>cK I hg hm hv ⟨v,H,I,r,h⟩ hn hd
variable {a b:Expr} {ta tb:TE} {pos:Pos}
def tB(t:TE):TT:=fun σ H Q=>t σ H fun x H1=>∃c,x = .bl c/\Q c H1
def sC{e:Expr}{t:TE}(h:PE X e t)(he:∀whole,isTrue e X.env whole=(do let v <-whole;standAt e.pos;holding [v] (truthy v)):=by intro _;rfl):PT X e (tB t):=by
 intro pins s σ H Q I hw
 refine isTrue_plain (yS (h pins s σ H _ I hw) fun v s1 ⟨x,H1,I1,r1,q1⟩=>?_) (he _)
 obtain⟨d,rfl,q⟩:=q1
 cases r1
 exact GS ⟨H1,I1,q⟩
variable {tA CM:TT} {rest:List Expr}
def wZ(t u:TT):TT:=fun σ H Q=>t σ H fun c H1=>if c=true then u σ H1 Q else Q false H1
def yn(t u:TT):TT:=fun σ H Q=>t σ H fun c H1=>if c=true then Q true H1 else u σ H1 Q
def w_(t:TT):TT:=fun σ H Q=>t σ H fun c H1=>Q (!c) H1
def pO(ha:PT X a tA):PW X (.BoolOp .And [a] pos) tA:=by
 intro wh pins s σ H Q I h
 refine isTrue_and (yS (ha pins s σ H Q I h) fun c s1 e=>?_)
 cases c with
 |true=>exact isTrue_and_nil e
 |false=>exact e
def sD(ha:PT X a tA):PW X (.BoolOp .Or [a] pos) tA:=by
 intro wh pins s σ H Q I h
 refine isTrue_or (yS (ha pins s σ H Q I h) fun c s1 e=>?_)
 cases c with
 |false=>exact isTrue_or_nil e
 |true=>exact e
def sE(ha:PT X a tA)(hb:PW X (.BoolOp .And (b::rest) pos) CM):PW X (.BoolOp .And (a::b::rest) pos) (wZ tA CM):=by
 intro wh pins s σ H Q I h
 refine isTrue_and (yS (ha pins s σ H _ I h) fun c s1 ⟨H1,I1,q1⟩=>?_)
 cases c with
 |true=>exact hb wh pins s1 σ H1 Q I1 q1
 |false=>exact⟨H1,I1,q1⟩
def vj(ha:PT X a tA)(hb:PW X (.BoolOp .Or (b::rest) pos) CM):PW X (.BoolOp .Or (a::b::rest) pos) (yn tA CM):=by
 intro wh pins s σ H Q I h
 refine isTrue_or (yS (ha pins s σ H _ I h) fun c s1 ⟨H1,I1,q1⟩=>?_)
 cases c with
 |true=>exact⟨H1,I1,q1⟩
 |false=>exact hb wh pins s1 σ H1 Q I1 q1
def sF(ha:PT X a tA):PT X (.UnaryOp .Not a pos) (w_ tA):=by
 intro pins s σ H Q I h
 exact isTrue_not (ha pins s σ H (fun c H1=>Q (!c) H1) I h)
def vk(ta tb:TE):TE:=fun σ H Q=>ta σ H fun x H1=>∃c,x = .bl c/\if c=true then tb σ H1 Q else Q (.bl false) H1
def sG{op}{t:TE}(h:PE X a t):PE X (.BoolOp op [a] pos) t:=fun pins s σ H Q I hw=>BoolOp_one (h pins s σ H Q I hw)
def sH(ha:PE X a ta)(hb:PE X (.BoolOp .And (b::rest) pos) tb):PE X (.BoolOp .And (a::b::rest) pos) (vk ta tb):=by
 intro pins s σ H Q I h
 refine BoolOp_and (yS (ha pins s σ H _ I h) fun v s1 ⟨x,H1,I1,r1,q1⟩=>?_)
 obtain⟨c,rfl,q1⟩:=q1
 cases r1
 refine GS ?_
 cases c with
 |true=>exact hb pins s1 σ H1 Q I1 q1
 |false=>exact⟨.bl false,H1,I1,rfl,q1⟩
end
def SqL(K:Vo)(H:Hp)(a:Addr)(xs:List V):Prop:=
 Rd H a (.lst xs) \/
  ∃(o:Obj) (its:Vw) (n:Nat),K.lookup a=some o/\o.cls = .type "list"/\o.dict=none/\o.data = .seq its n/\its.size<=sizeLine/\Vals xs its.toList
def z7(K:Vo)(H:Hp)(a:Addr)(xs:List V):Prop:=
 Rd H a (.tup xs) \/
  ∃(o:Obj) (its:Vw) (n:Nat),K.lookup a=some o/\o.cls = .type "tuple"/\o.dict=none/\o.data = .seq its n/\its.size<=sizeLine/\Vals xs its.toList
noncomputable def xg:Value->Option V
 | .none=>some .non
 | .bool b=>some (.bl b)
 | .int i _=>some (.int i)
 | .str x _=>some (.str x)
 | .bytes b _=>some (.Bu b)
 | .float b _=>some (.C0 b)
 | .ref a=>some (.ref a)
 | .type n=>some (.ty n)
 |_=>none
def RelV.abs{x:V}{u:Value}(r:RelV x u):xg u=some x:=by
 cases x with
 |non=>cases r;rfl
 |bl _=>cases r;rfl
 |int _=>obtain⟨t,rfl⟩:=r;rfl
 |str _=>obtain⟨t,rfl⟩:=r;rfl
 |Bu _=>obtain⟨t,rfl⟩:=r;rfl
 |C0 _=>obtain⟨t,rfl⟩:=r;rfl
 |ref _=>cases r;rfl
 |ty _=>cases r;rfl
theorem RelV.inj{x y:V}{u:Value}(r:RelV x u)(q:RelV y u):x=y:=FI (r.abs.symm.trans q.abs)
theorem Vals.inj:∀{xs ys:List V} {us:Vv},Vals xs us->Vals ys us->xs=ys
 |_,_,_,.nil,.nil=>rfl
 |_,_,_,.cons r t,.cons r' t'=>by rw[r.inj r',Vals.inj t t']
section
variable {X:Cx} {pins:Va} {σ:St} {H:Hp} {s:Shared} {a:Addr} {xs ys:List V}
def SqL.of{K:Vo}(h:H a=some (.lst xs)):SqL K H a xs:=.inl (.inl h)
def z7.of{K:Vo}(h:H a=some (.tup xs)):z7 K H a xs:=.inl (.inl h)
def Inv.list(I:Inv X pins σ H s)(h:SqL X.K H a xs):∃its:List Value,Vals xs its/\PlainL s.heap a its.toArray/\xs.length<=sizeLine:=by
 rcases h with h|⟨o,its,n,hk,hc,hd,hs,hz,r⟩
 ·obtain⟨z,its,n,r,e⟩:=h.ok I.hok
  exact⟨its,r,⟨_,n,e,rfl,rfl,rfl⟩,z⟩
 ·refine⟨its.toList,r,⟨o,n,I.Bw a o hk,hc,hd,by simpa using hs⟩,?_⟩
  have e:=r.length
  simp only[Array.length_toList]at e
  omega
def Inv.tuple(I:Inv X pins σ H s)(h:z7 X.K H a xs):∃its:List Value,Vals xs its/\IsTup s.heap a its.toArray/\xs.length<=sizeLine:=by
 rcases h with h|⟨o,its,n,hk,hc,_,hs,hz,r⟩
 ·obtain⟨z,its,r,p⟩:=h.ok I.hok
  exact⟨its,r,p.tup,z⟩
 ·refine⟨its.toList,r,⟨o,I.Bw a o hk,hc,n,by simpa using hs⟩,?_⟩
  have e:=r.length
  simp only[Array.length_toList]at e
  omega
def Inv.Bx(I:Inv X pins σ H s)(h:SqL X.K H a xs)(h':SqL X.K H a ys):xs=ys:=by
 obtain⟨its,r,⟨o,n,e,_,_,d⟩,_⟩:=I.list h
 obtain⟨its',r',⟨o',n',e',_,_,d'⟩,_⟩:=I.list h'
 rw[e]at e';cases e'
 rw[d]at d'
 injection d' with d1 _
 have:its=its':=by simpa using FA Array.toList d1
 subst this
 exact r.inj r'
def Inv.Bm(I:Inv X pins σ H s)(h:z7 X.K H a xs)(h':z7 X.K H a ys):xs=ys:=by
 obtain⟨its,r,⟨o,e,_,n,d⟩,_⟩:=I.tuple h
 obtain⟨its',r',⟨o',e',_,n',d'⟩,_⟩:=I.tuple h'
 rw[e]at e';cases e'
 rw[d]at d'
 injection d' with d1 _
 have:its=its':=by simpa using FA Array.toList d1
 subst this
 exact r.inj r'
end
noncomputable abbrev Cx.wish(X:Cx)(E:Vq):Cx:={ X with xe:=E }
noncomputable abbrev Cx.Cu(X:Cx):Cx:=X.wish fun _ _=>False
theorem Cx.Ok.wish{X:Cx}(ok:X.Ok)(E:Vq):(X.wish E).Ok:=
 ⟨ok.mod,ok.kind,ok.glob,ok.blt,ok.above,ok.inj,ok.has,ok.BU,ok.hd,ok.frames,ok.stk,ok.Cq,ok.bs,ok.Bv,ok.AO,ok.A4,ok.Aa,ok.BG⟩
def Cx.Ok.zS{X:Cx}{E:Vq}(ok:(X.wish E).Ok):X.Ok:=
 ⟨ok.mod,ok.kind,ok.glob,ok.blt,ok.above,ok.inj,ok.has,ok.BU,ok.hd,ok.frames,ok.stk,ok.Cq,ok.bs,ok.Bv,ok.AO,ok.A4,ok.Aa,ok.BG⟩
section
variable {X:Cx} {pins:Va} {σ:St} {H:Hp} {s:Shared} {E:Vq}
theorem Inv.wish(I:Inv X pins σ H s)(E:Vq):Inv (X.wish E) pins σ H s:=⟨I.ok.wish E,I.os,I.bare,I.base,I.loc,I.cell,I.free,I.zE,I.pin,I.hok,I.len,I.tk⟩
theorem Inv.zS(I:Inv (X.wish E) pins σ H s):Inv X pins σ H s:=⟨I.ok.zS,I.os,I.bare,I.base,I.loc,I.cell,I.free,I.zE,I.pin,I.hok,I.len,I.tk⟩
theorem SP.zS{D:hJ}{f:Flow}{s':Shared}(h:SP (X.wish E) pins D f s'):SP X pins D f s':=by
 cases f with
 |next=>obtain⟨σ',H',I,q⟩:=h;exact⟨σ',H',I.zS,q⟩
 |brk=>obtain⟨σ',H',I,q⟩:=h;exact⟨σ',H',I.zS,q⟩
 |cont=>obtain⟨σ',H',I,q⟩:=h;exact⟨σ',H',I.zS,q⟩
 |ret u=>obtain⟨v,σ',H',I,r,q⟩:=h;exact⟨v,σ',H',I.zS,r,q⟩
theorem AQ.Cu{st:List Stmt}{t:TS}(h:AQ X.Cu st t):AQ X st t:=fun pins s σ H D I hw=>
 Gk (h pins s σ H D (I.wish _) hw) (fun _ _ q=>q.zS) fun _ _ z=>False.elim z
end
section
variable {X:Cx} {st:Stmt} {rest:List Stmt} {t u:TS} {e:Expr} {te:TE} {pos:Pos}
def vm:TS:=fun D σ H=>D.nx σ H
def xh(t u:TS):TS:=fun D σ H=>t { D with nx:=u D } σ H
def pP:AQ X [] vm:=fun _ _ σ H _ I h=>GH ⟨σ,H,I,h⟩
def nc(h1:PS X st t)(h2:AQ X rest u):AQ X (st::rest) (xh t u):=by
 intro pins s σ H D I h
 refine wpAny_execs_cons (yS (h1 pins s σ H { D with nx:=u D } I h) fun f s1 q=>?_)
 cases f with
 |next=>
  obtain⟨σ',H',I',q⟩:=q
  exact h2 pins s1 σ' H' D I' q
 |ret v=>exact q
 |brk=>exact q
 |cont=>exact q
def pQ(h1:PS X st t):AQ X [st] t:=by
 intro pins s σ H D I h
 refine wpAny_execs_cons (yS (h1 pins s σ H D I h) fun f s1 q=>?_)
 cases f with
 |next=>exact GH q
 |ret v=>exact q
 |brk=>exact q
 |cont=>exact q
def Inv.quiet{pins:Va}{σ:St}{H:Hp}{s:Shared}(I:Inv X pins σ H s):interactive X.env=false:=by simp[interactive,I.ok.kind]
def vn(te:TE):TS:=fun D σ H=>te σ H fun _ H1=>D.nx σ H1
def pR(he:PE X e te)(hs:swapsWith e none pos.line X.env=pure false:=by rfl):PS X (.Expr e pos) (vn te):=by
 intro pins s σ H D I h
 exact wpAny_Expr_any (yS (he pins s σ H _ I h) fun v s1 ⟨x,H1,I1,r1,q1⟩=>⟨σ,H1,I1,q1⟩) I.quiet hs
def xi(te:TE):TS:=fun D σ H=>te σ H D.rt
def sI(he:PE X e te):PS X (.Return (some e) pos) (xi te):=by
 intro pins s σ H D I h
 exact wpAny_Return_some (yS (he pins s σ H _ I h) fun v s1 ⟨x,H1,I1,r1,q1⟩=>⟨x,σ,H1,I1,r1,q1⟩)
def xj(c:TT)(t u:TS):TS:=fun D σ H=>c σ H fun b H1=>if b=true then t D σ H1 else u D σ H1
def vo{c:Expr}{a b:List Stmt}{tc:TT}(hc:PT X c tc)(ha:AQ X a t)(hb:AQ X b u):PS X (.If c a b pos) (xj tc t u):=by
 intro pins s σ H D I h
 refine wpAny_If (yS (hc pins s σ H _ I h) fun d s1 ⟨H1,I1,q1⟩=>?_)
 cases d with
 |true=>exact ha pins s1 σ H1 D I1 q1
 |false=>exact hb pins s1 σ H1 D I1 q1
def sJ:TS:=fun _ _ _=>False
def ng:PS X st sJ:=fun _ _ _ _ _ _ h=>h.elim
end
abbrev TG:=V->St->Hp->(St->Hp->Prop)->Prop
abbrev rB:=List V->St->Hp->(St->Hp->Prop)->Prop
def PG(X:Cx)(target:Expr)(t:TG):Prop:=
 ∀(pins:Va) (s:Shared) (σ:St) (H:Hp) (v:V) (u:Value) (Q:St->Hp->Prop),Inv X pins σ H s->RelV v u->t v σ H Q->
  wpAny (model X.prog X.w) X.A (assign target X.env u) (fun _ s'=>∃σ' H',Inv X pins σ' H' s'/\Q σ' H') X.xe s
def vp(X:Cx)(ts:List Expr)(t:rB):Prop:=
 ∀(pins:Va) (s:Shared) (σ:St) (H:Hp) (vs:List V) (us:Vv) (Q:St->Hp->Prop),Inv X pins σ H s->Vals vs us->t vs σ H Q->
  wpAny (model X.prog X.w) X.A (assignInOrder ((assignEach ts X.env).map (·.2)) us) (fun _ s'=>∃σ' H',Inv X pins σ' H' s'/\Q σ' H') X.xe s
abbrev sK:=V->V->V->Hp->(Hp->Prop)->Prop
def pS(X:Cx)(t:sK):Prop:=
 ∀(pins:Va) (s:Shared) (σ:St) (H:Hp) (o i v:V) (ov iv u:Value) (Q:Hp->Prop),Inv X pins σ H s->RelV o ov->RelV i iv->RelV v u->t o i v H Q->
  wpAny (model X.prog X.w) X.A (setItem ov iv u) (fun _ s'=>∃H',Inv X pins σ H' s'/\Q H') X.xe s
section
variable {X:Cx} {pos:Pos}
def jQ(i:Nat):TG:=fun v σ H Q=>Q (σ.set i (some v)) H
def pT{i:Nat}{x:Str}(hN:X.N.Nodup)(hi:X.N[i]?=some x)(hx:rA X.env.scope x)(hf:X.fn x=true\/X.env.scope.names.lookup x=some .local:=by first|exact .inl rfl|exact .inr rfl|assumption):PG X (.Name x pos) (jQ i):=by
 intro pins s σ H v u Q I r h
 exact wpAny_assign_Name (eE I hN hi hx r (fun s' I'=>⟨_,H,I',h⟩) hf)
noncomputable def vq:rB:=fun vs σ H Q=>vs=[]/\Q σ H
noncomputable def rC(t:TG)(u:rB):rB:=fun vs σ H Q=>∃v r,vs=v::r/\t v σ H fun σ' H'=>u r σ' H' Q
def pU:vp X [] vq:=by
 intro pins s σ H vs us Q I r h
 obtain⟨e,h⟩:=h
 subst e
 cases r
 exact assignInOrder_nil ⟨σ,H,I,h⟩
def nh{e:Expr}{es:List Expr}{t:TG}{u:rB}(h1:PG X e t)(h2:vp X es u)
  (hs:(assignEach (e::es) X.env).map (·.2)=assign e X.env::(assignEach es X.env).map (·.2):=by rfl):vp X (e::es) (rC t u):=by
 intro pins s σ H vs us Q I r h
 obtain⟨v,vr,e1,h⟩:=h
 subst e1
 cases r with
 |cons r rr=>
  rw[hs]
  refine assignInOrder_cons (yS (h1 pins s σ H _ _ _ I r h) fun _ s1 ⟨σ1,H1,I1,q1⟩=>?_)
  exact h2 pins s1 σ1 H1 _ _ Q I1 rr q1
def vt(K:Vo)(n:Nat)(t:rB):TG:=fun v σ H Q=>∃a xs,v = .ref a/\z7 K H a xs/\xs.length=n/\t xs σ H Q
def sL{es:List Expr}{k:Nat}{t:rB}{n:Nat}(hc:X.calm=true)(h:vp X es t)
  (hn:(assignEach es X.env).length=n:=by rfl) (hst:(assignEach es X.env).findIdx? (·.1)=none:=by rfl):PG X (.Tuple es k pos) (vt X.K n t):=by
 intro pins s σ H v u Q I r hw
 obtain⟨a,xs,e1,hq,hl,hw⟩:=hw
 subst e1
 cases r
 obtain⟨its,rv,ht,hz⟩:=I.tuple hq
 refine assign_Tuple_tuple (I.ok.hd hc) ht (by simp[hn,<-hl,rv.length]) hst fun h' hx=>?_
 have I1:Inv X pins σ H { s with heap:=h' }:=I.kept (t':=s.toks) fun b o e=>hx b o (Ft (E5 e)) e
 exact h pins _ σ H xs _ Q I1 (by simpa using rv) hw
def xk(to ti:TE)(t:sK):TG:=fun v σ H Q=>to σ H fun o H1=>ti σ H1 fun i H2=>t o i v H2 fun H3=>Q σ H3
def sM{o i:Expr}{to ti:TE}{t:sK}(ho:PE X o to)(hi:PE X i ti)(hs:pS X t)
  (ha:∀v,assign (.Subscript o i pos) X.env v=(do
   let ov <-holding [v] (eval o X.env)
   let iv <-holding [v,ov] (eval i X.env)
   standAt pos
   holding [v,ov,iv] (setItem ov iv v)
   release [v,ov,iv] []):=by intro _;rfl):PG X (.Subscript o i pos) (xk to ti t):=by
 intro pins s σ H v u Q I r h
 rw[ha]
 refine EW (Gu (yS (ho pins s σ H _ I h) fun ov s1 ⟨x,H1,I1,r1,q1⟩=>?_))
 refine EW (Gu (yS (hi pins s1 σ H1 _ I1 q1) fun iv s2 ⟨y,H2,I2,r2,q2⟩=>?_))
 refine EW (wpAny_standAt (EW (Gu (yS (hs pins s2 σ H2 x y v ov iv u _ I2 r1 r2 r q2) fun _ s3 ⟨H3,I3,q3⟩=>?_))))
 exact wpAny_release ⟨σ,H3,I3,q3⟩
def pV(te:TE)(g:TG):TS:=fun D σ H=>te σ H fun x H1=>g x σ H1 D.nx
def sN{tg e:Expr}{te:TE}{g:TG}(he:PE X e te)(hg:PG X tg g)(hs:swapsWithSole [tg] e pos.line X.env=pure false:=by rfl)(hw:swappedStores [tg] e X.env=pure none:=by rfl)
  (h1:(assignEach [tg] X.env).map (·.2)=[assign tg X.env]:=by rfl):PS X (.Assign [tg] e pos) (pV te g):=by
 intro pins s σ H D I h
 refine wpAny_Assign_stores (yS (he pins s σ H _ I h) fun v s1 ⟨x,H1,I1,r1,q1⟩=>?_) hs hw
 rw[h1]
 exact yS (hg pins s1 σ H1 x v _ I1 r1 q1) fun _ s2 q=>q
def sO{i:Nat}{x:Str}{e:Expr}{te:TE}{pos':Pos}(hN:X.N.Nodup)(hi:X.N[i]?=some x)(hx:rA X.env.scope x)(he:PE X e te)(hs:swapsWith e (some (.Name x pos')) pos.line X.env=pure false:=by rfl)(hf:X.fn x=true\/X.env.scope.names.lookup x=some .local:=by first|exact .inl rfl|exact .inr rfl|assumption) :
  PS X (.Assign [.Name x pos'] e pos) (pV te (jQ i)):=by
 intro pins s σ H D I h
 refine wpAny_Assign_Name (yS (he pins s σ H _ I h) fun v s1 ⟨y,H1,I1,r1,q1⟩=>?_) hs
 exact eE I1 hN hi hx r1 (fun s2 I2=>⟨_,H1,I2,q1⟩) hf
def xl(i j:Nat)(ta:TA):TS:=fun D σ H=>ta σ H fun vs H1=>∃v w,vs=[v,w]/\D.nx ((σ.set i (some v)).set j (some w)) H1
def sP{i j:Nat}{x y:Str}{a b:Expr}{ta:TA}{px py pt:Pos}{kt k2 B7}(hc:X.calm=true)(hN:X.N.Nodup)(hi:X.N[i]?=some x)(hj:X.N[j]?=some y)(hij:i≠j)
  (hx:X.env.scope.names.lookup x=some .local) (hy:X.env.scope.names.lookup y=some .local) (ha:PA X [a,b] ta)
  (hw:swappedStores [.Tuple [.Name x px,.Name y py] kt pt] (.Tuple [a,b] k2 B7) X.env=pure (some [x,y]))
  (hs:swapsWithSole [.Tuple [.Name x px,.Name y py] kt pt] (.Tuple [a,b] k2 B7) pos.line X.env=pure false:=by rfl) :
  PS X (.Assign [.Tuple [.Name x px,.Name y py] kt pt] (.Tuple [a,b] k2 B7) pos) (xl i j ta):=by
 intro pins s σ H D I h
 rw[exec_Assign_arm]
 refine EW (wpAny_standAt ?_)
 rw[hs]
 refine EW (E7 ?_)
 rw[if_neg (by decide)]
 refine EW (Tuple_ (yS (ha _ pins s σ H _ I h) fun us s1 ⟨vs,H1,I1,r1,q1⟩=>?_))
 obtain⟨v,w,e1,q1⟩:=q1
 subst e1
 obtain⟨u1,u2,rfl,rv,rw'⟩:∃u1 u2,us=[u1,u2]/\RelV v u1/\RelV w u2:=by
  cases r1 with
  |cons p q=>
   cases q with
   |cons p' q'=>
    cases q'
    exact⟨_,_,rfl,p,p'⟩
 refine F7 ?_ (by show 2<=sizeLine;decide)
 have I2:Inv X pins σ H1 { s1 with heap:=s1.heap.push { cls:=.type "tuple",data:=.seq [u1,u2].toArray } }:=I1.kept (t':=s1.toks) fun b o e=>EY _ e
 rw[hw]
 refine EW (E7 ?_)
 show wpAny (model X.prog X.w) X.A (do rule "assign.swapped-stores"; let items <-unpackItems (.ref s1.heap.objs.size) 2 none;assignInOrder [fun v=>bindName X.env y v,fun v=>bindName X.env x v] items.reverse;pure Flow.next) _ _ _
 refine EW (wpAny_rule (EW (unpackItems_tuple (items:=#[u1,u2]) (I.ok.hd hc) (IsTup.new s1.heap _) fun h' hx'=>?_)))
 have I3:=I2.kept (h':=h') (t':=s1.toks) fun b o e=>hx' b o (Ft (E5 e)) e
 show wpAny _ _ (assignInOrder [fun v=>bindName X.env y v,fun v=>bindName X.env x v] [u2,u1] >>= fun _=>pure Flow.next) _ _ _
 refine EW (assignInOrder_cons (wpAny_bindName (eE I3 hN hj (.inl hy) rw' (fun s2 I4=>?_) (.inr hy))))
 refine assignInOrder_cons (wpAny_bindName (eE I4 hN hi (.inl hx) rv (fun s3 I5=>assignInOrder_nil (E7 ?_)) (.inr hx)))
 rw[List.set_comm _ _ (GR hij)]at I5
 exact⟨_,H1,I5,q1⟩
end
section
variable {X:Cx} {pos:Pos}
def sQ(c:TT)(tb:TS):TS:=fun D σ H=>∃W:Nat->St->Hp->Prop,(∃m,W m σ H)/\∀m σ H,W m σ H->
 c σ H fun b H1=>if b=true then ∃N:St->Hp->Prop,(∀σ' H',N σ' H'->∃m',m' < m/\W m' σ' H')/\tb { D with nx:=N,ct:=N,bk:=D.nx } σ H1 else D.nx σ H1
def ni{c:Expr}{body:List Stmt}{tc:TT}{tb:TS}(hp:PassesOwn (model X.prog X.w) X.A X.env X.xe)(hc:PT X c tc)(hb:AQ X body tb):PS X (.While c body [] pos) (sQ tc tb):=by
 intro pins s σ H D I h
 obtain⟨W,⟨m0,w0⟩,turn⟩:=h
 refine wpAny_While (codeAny_whileLoop (fun n s'=>∃σ' H',Inv X pins σ' H' s'/\W n σ' H') ?_ m0 ⟨σ,H,I,w0⟩)
 rintro n s1 ⟨σ1,H1,I1,w1⟩
 refine Gh hp (yS (hc pins s1 σ1 H1 _ I1 (turn n σ1 H1 w1)) fun b s2 ⟨H2,I2,q2⟩=>?_)
 cases b with
 |true=>
  obtain⟨N,hN,q2⟩:=q2
  rw[if_pos rfl]
  refine Gh hp (yS (hb pins s2 σ1 H2 _ I2 q2) fun f s3 q3=>?_)
  cases f with
  |next=>
   obtain⟨σ3,H3,I3,n3⟩:=q3
   obtain⟨m',hm,w3⟩:=hN σ3 H3 n3
   exact⟨m',hm,σ3,H3,I3,w3⟩
  |cont=>
   obtain⟨σ3,H3,I3,n3⟩:=q3
   obtain⟨m',hm,w3⟩:=hN σ3 H3 n3
   exact⟨m',hm,σ3,H3,I3,w3⟩
  |brk=>exact q3
  |ret v=>exact q3
 |false=>
  rw[if_neg Fp]
  exact GH ⟨σ1,H2,I2,q2⟩
end
structure It where
 go:Nat->Hp->Prop
 CN:Nat->Hp->V->Hp->Prop
 stop:Nat->Hp->Prop
def e7(X:Cx)(pins:Va)(H:Hp)(b:Addr):Prop:=
 H b=none/\b≠X.env.locals/\b ∉ X.fs/\(b∈X.ex\/X.s₀.heap.objs.size<=b)/\(∀x c,X.env.cells.lookup x=some c->c≠b)/\∀p∈X.pn++pins,p.1≠b
def Inv.A5{X:Cx}{pins:Va}{σ:St}{H H':Hp}{s:Shared}{b:Addr}(I:Inv X pins σ H s)(hb:s.heap.objs.size<=b)(hn:H' b=none):e7 X pins H' b:=by
 refine⟨hn,Hx (E6 I.lt hb),I.Cr hb,.inr (Fl I.sz hb),fun x c e z=>?_,fun p hp z=>?_⟩
 ·obtain⟨v,q⟩:=I.cell x c e
  exact absurd (E6 q.lt (by rw[z];exact hb)) (FO _)
 ·exact absurd (E6 (E5 (I.pin p hp).1) (by rw[z];exact hb)) (FO _)
structure kB (P:Program) (w:World) (K:Vo) (tg:Expr) (J:It) (fp:List Addr) (it:Addr) (tn:Nat->Heap->Prop):Prop where
 mem:it∈fp
 obj:∀i h,tn i h->∀b∈fp,∃o,h.get? b=some o/\∀v,o.data ≠ .cell v
 keep:∀i h h',tn i h->(∀b∈fp,∀o,h.get? b=some o->h'.get? b=some o)->tn i h'
 item:∀(X:Cx),X.prog=P->X.w=w->X.K=K->X.calm=true->∀(i:Nat) (pins:Va) (s:Shared) (σ:St) (H:Hp) (E:Vq),Inv X pins σ H s->(∀b∈fp,e7 X pins H b)->tn i s.heap->J.go i H->
  wpAny (model P w) X.A (pyNext (.ref it)) (fun r s1=>∃u,r=some u/\
   wpAny (model P w) X.A (letOwnedTupleGo tg (.ref it) u) (fun _ s2=>∃x H',Inv X pins σ H' s2/\RelV x u/\J.CN i H x H'/\tn (i+1) s2.heap/\∀b∈fp,H' b=none) E s1) E s
 done:∀(X:Cx),X.prog=P->X.w=w->X.K=K->X.calm=true->∀(i:Nat) (pins:Va) (s:Shared) (σ:St) (H:Hp) (E:Vq),Inv X pins σ H s->(∀b∈fp,e7 X pins H b)->tn i s.heap->J.stop i H->
  wpAny (model P w) X.A (pyNext (.ref it)) (fun r s1=>r=none/\Inv X pins σ H s1) E s
 self:∀(A:Around) (i:Nat) (s:Shared) (Q:Vq) (E:Vq),tn i s.heap->Q (.ref it) s->wpAny (model P w) A (pyIter (.ref it)) Q E s
abbrev TI:=St->Hp->(It->Hp->Prop)->Prop
def wJ(X:Cx)(pins:Va)(σ:St)(tg:Expr)(R:It->Hp->Prop)(itv:Value)(s2:Shared):Prop:=
 ∃(it:Addr) (fp:List Addr) (tn:Nat->Heap->Prop) (J:It) (H':Hp),itv = .ref it/\Inv X pins σ H' s2/\kB X.prog X.w X.K tg J fp it tn/\tn 0 s2.heap/\(∀b∈fp,e7 X pins H' b)/\R J H'
def PI(X:Cx)(tg iter:Expr)(wi:TI):Prop:=
 ∀(pins:Va) (s:Shared) (σ:St) (H:Hp) (R:It->Hp->Prop),Inv X pins σ H s->wi σ H R->
  wpAny (model X.prog X.w) X.A (eval iter X.env) (fun v s1=>wpAny (model X.prog X.w) X.A (pyIter v) (wJ X pins σ tg R) X.xe s1) X.xe s
def jR {M : Model} {A : Around} {E : Value -> Shared -> Prop} {s : Shared} {tg : Expr} {it : Addr} {u : Value} {o : Obj} {n : String} {vs : Array Value} {Q : Unit -> Shared -> Prop} (ho : s.heap.get? it = some o) (hc : o.cls = .type n) (hd : o.data = .fields vs)
    (hn : ["enumerate", "zip", "dict_itemiterator", "dict_reverseitemiterator", "odict_iterator", "itertools.zip_longest", "itertools.pairwise"].contains n = false) (hQ : Q () s) : wpAny M A (letOwnedTupleGo tg (.ref it) u) Q E s := by
  unfold letOwnedTupleGo
  cases tg <;> first
    | exact E7 hQ
    | (cases u <;> first
        | exact E7 hQ
        | (refine EW (wpAny_load ho ?_)
           rw [hc, hd]
           show wpAny M A (if (["enumerate", "zip", "dict_itemiterator", "dict_reverseitemiterator", "odict_iterator", "itertools.zip_longest", "itertools.pairwise"].contains n && vs[0]? == some (rawInt _)) = true then _ else _) Q E s
           rw [if_neg (by intro h; rw [hn, Bool.false_and] at h; cases h)]
           exact E7 hQ))
noncomputable def wK(K:Vo)(a:Addr):It:=
 ⟨fun i H=>∃xs x,SqL K H a xs/\xs[i]?=some x,fun i H x H'=>H'=H/\∀xs,SqL K H a xs->xs[i]?=some x,fun i H=>∃xs,SqL K H a xs/\xs.length<=i⟩
noncomputable def xm(K:Vo)(a:Addr):It:=
 ⟨fun i H=>∃xs x,z7 K H a xs/\xs[i]?=some x,fun i H x H'=>H'=H/\∀xs,z7 K H a xs->xs[i]?=some x,fun i H=>∃xs,z7 K H a xs/\xs.length<=i⟩
noncomputable def vv(lo:Int)(n:Nat):It:=⟨fun i _=>i < n,fun i H x H'=>H'=H/\x = .int (lo+i),fun i _=>n<=i⟩
def l7{P:Program}{w:World}{K:Vo}{tg:Expr}(a it:Addr):kB P w K tg (wK K a) [it] it (fun i h=>h.IsListIter it a i) where
 mem:=by simp
 obj:=fun i h st b hb=>by
  have e:b=it:=by simpa using hb
  subst e
  obtain⟨o,e,c,d⟩:=st
  exact⟨o,e,fun v z=>by rw[d]at z;cases z⟩
 keep:=fun i h h' st k=>st.at fun o e=>k it (by simp) o e
 item:=by
  intro X hP hw hK hc i pins s σ H E I hf st hg
  subst hP hw hK
  obtain⟨xs,x,hq,hx⟩:=hg
  obtain⟨its,rv,p,hz⟩:=I.list hq
  obtain⟨u,hu,ru⟩:=rv.get hx
  obtain⟨f0,f1,f2,f3,f4,f5⟩:=hf it (by simp)
  refine wpAny_pyNext_list_item st p.isList (x:=u) (by simpa using hu) fun h' st' sb=>?_
  have I1:Inv X pins σ H { s with heap:=h' }:=I.turned (t':=s.toks) (fun b o hb e=>(sb.2 b hb).trans e) f0 f1 f3 f4 f5
  obtain⟨o,e,c,d⟩:=id st'
  exact⟨u,rfl,jR (s:={ s with heap:=h' }) e c d (by decide) ⟨x,H,I1,ru,⟨rfl,fun ys hy=>by rw[I.Bx hy hq];exact hx⟩,st',fun b hb=>(hf b hb).1⟩⟩
 done:=by
  intro X hP hw hK hc i pins s σ H E I hf st hg
  subst hP hw hK
  obtain⟨xs,hq,hx⟩:=hg
  obtain⟨its,rv,p,hz⟩:=I.list hq
  obtain⟨f0,f1,f2,f3,f4,f5⟩:=hf it (by simp)
  have hl:=rv.length
  exact wpAny_pyNext_list_end (I.ok.hd hc) st p.isList (by simp;omega) fun h' eb=>⟨rfl,I.turned (t':=s.toks) (fun b o hb e=>eb b o hb e) f0 f1 f3 f4 f5⟩
 self:=fun _ _ _ _ _ st h=>wpAny_pyIter_listiter st h
def kC{P:Program}{w:World}{K:Vo}{tg:Expr}(a it:Addr):kB P w K tg (xm K a) [it] it (fun i h=>h.IsTupleIter it a i) where
 mem:=by simp
 obj:=fun i h st b hb=>by
  have e:b=it:=by simpa using hb
  subst e
  obtain⟨o,e,c,d⟩:=st
  exact⟨o,e,fun v z=>by rw[d]at z;cases z⟩
 keep:=fun i h h' st k=>st.at fun o e=>k it (by simp) o e
 item:=by
  intro X hP hw hK hc i pins s σ H E I hf st hg
  subst hP hw hK
  obtain⟨xs,x,hq,hx⟩:=hg
  obtain⟨its,rv,p,hz⟩:=I.tuple hq
  obtain⟨u,hu,ru⟩:=rv.get hx
  obtain⟨f0,f1,f2,f3,f4,f5⟩:=hf it (by simp)
  refine wpAny_pyNext_tuple_item st (show s.heap.IsTuple a its.toArray from p) (x:=u) (by simpa using hu) fun h' st' sb=>?_
  have I1:Inv X pins σ H { s with heap:=h' }:=I.turned (t':=s.toks) (fun b o hb e=>(sb.2 b hb).trans e) f0 f1 f3 f4 f5
  obtain⟨o,e,c,d⟩:=id st'
  exact⟨u,rfl,jR (s:={ s with heap:=h' }) e c d (by decide) ⟨x,H,I1,ru,⟨rfl,fun ys hy=>by rw[I.Bm hy hq];exact hx⟩,st',fun b hb=>(hf b hb).1⟩⟩
 done:=by
  intro X hP hw hK hc i pins s σ H E I hf st hg
  subst hP hw hK
  obtain⟨xs,hq,hx⟩:=hg
  obtain⟨its,rv,p,hz⟩:=I.tuple hq
  obtain⟨f0,f1,f2,f3,f4,f5⟩:=hf it (by simp)
  have hl:=rv.length
  exact wpAny_pyNext_tuple_end (I.ok.hd hc) st (show s.heap.IsTuple a its.toArray from p) (by simp;omega) fun h' eb=>⟨rfl,I.turned (t':=s.toks) (fun b o hb e=>eb b o hb e) f0 f1 f3 f4 f5⟩
 self:=fun _ _ _ _ _ st h=>wpAny_pyIter_tupleiter st h
def kD{P:Program}{w:World}{K:Vo}{tg:Expr}(it:Addr)(lo:Int)(n:Nat):kB P w K tg (vv lo n) [it] it (fun i h=>IsRangeIter h it (lo+(i:Nat) * 1) ((n:Int) - (i:Nat)) 1) where
 mem:=by simp
 obj:=fun i h st b hb=>by
  have e:b=it:=by simpa using hb
  subst e
  exact⟨_,st,fun v z=>by
   have z':Data.fields _=Data.cell v:=z
   cases z'⟩
 keep:=fun i h h' st k=>k it (by simp) _ st
 item:=by
  intro X hP hw hK hc i pins s σ H E I hf st hg
  subst hP hw hK
  obtain⟨f0,f1,f2,f3,f4,f5⟩:=hf it (by simp)
  have W:=Walks.range (prog:=X.prog) (w:=X.w) (I.ok.hd hc) it lo 1 n
  refine Fj I.tk (W.item i s _ _ hg st fun v h' tk hv st' kk ht=>?_)
  obtain⟨t,rfl⟩:=hv
  have I1:Inv X pins σ H { s with heap:=h',toks:=tk }:=I.turned (fun b o hb e=>kk b o (by simpa using hb) e) f0 f1 f3 f4 f5
  refine⟨_,rfl,jR (s:={ s with heap:=h',toks:=tk }) (n:="range_iterator") st' rfl rfl (by decide) ⟨.int (lo+i),H,I1,⟨t,?_⟩,⟨rfl,rfl⟩,st',fun b hb=>(hf b hb).1⟩⟩
  rw[Int.mul_one]
 done:=by
  intro X hP hw hK hc i pins s σ H E I hf st hg
  subst hP hw hK
  obtain⟨f0,f1,f2,f3,f4,f5⟩:=hf it (by simp)
  exact wpAny_pyNext_range_end (I.ok.hd hc) st (by have:n<=i:=hg;omega) fun h' eb=>⟨rfl,I.turned (t':=s.toks) (fun b o hb e=>eb b o hb e) f0 f1 f3 f4 f5⟩
 self:=fun _ _ _ _ _ st h=>wpAny_pyIter_rangeiter st h
section
variable {X:Cx} {tg:Expr}
def jS{pins:Va}{σ:St}{H:Hp}{s:Shared}{R:It->Hp->Prop}{E:Vq}{lo hi:Int}{t u v:Tok}{tk:Nat}(I:Inv X pins σ H s)(ht:1<=tk)(h1:-(2 ^ 62)<=lo)(h2:lo < 2 ^ 62)(h3:-(2 ^ 62)<=hi)(h4:hi < 2 ^ 62)
  (q:R (vv lo (hi - lo).toNat) H):wpAny (model X.prog X.w) X.A (pyIter (.ref s.heap.objs.size)) (wJ X pins σ tg R) E { s with heap:=s.heap.push { cls:=.type "range",data:=.fields #[.int lo t,.int hi u,.int 1 v] },toks:=tk }:=by
 refine wpAny_pyIter_range (IsRange.new ..) (small_one h1 h2 h3 h4) ?_
 have I1:Inv X pins σ H { s with heap:=s.heap.push { cls:=.type "range",data:=.fields #[.int lo t,.int hi u,.int 1 v] },toks:=tk }:=I.kept fun b o e=>EY _ e
 refine⟨(s.heap.push { cls:=.type "range",data:=.fields #[.int lo t,.int hi u,.int 1 v] }).objs.size,[(s.heap.push { cls:=.type "range",data:=.fields #[.int lo t,.int hi u,.int 1 v] }).objs.size],_,_,H,rfl,
  I1.kept (t':=tk) fun b o e=>EY _ e,kD _ lo (hi - lo).toNat,?_,fun b hb=>?_,q⟩
 ·have e1:lo+((0:Nat):Int) * 1=lo:=by simp
  have e2:(((hi - lo).toNat:Nat):Int) - ((0:Nat):Int)=Builtin.Range.rangeSize lo hi 1:=by rw[rangeSize_one];split<;>omega
  show IsRangeIter _ _ (lo+((0:Nat):Int) * 1) ((((hi - lo).toNat:Nat):Int) - ((0:Nat):Int)) 1
  rw[e1,e2]
  exact Ff _ rfl
 ·have e:b=(s.heap.push { cls:=.type "range",data:=.fields #[.int lo t,.int hi u,.int 1 v] }).objs.size:=by simpa using hb
  subst e
  exact I1.A5 (EZ _) (I1.hok.fresh (EZ _))
def vx(ta:TA):TI:=fun σ H R=>ta σ H fun vs H1=>∃j:Int,vs=[.int j]/\-(2 ^ 62)<=j/\j < 2 ^ 62/\R (vv 0 j.toNat) H1
def vy(ta:TA):TI:=fun σ H R=>ta σ H fun vs H1=>∃i j:Int,vs=[.int i,.int j]/\(-(2 ^ 62)<=i/\i < 2 ^ 62/\-(2 ^ 62)<=j/\j < 2 ^ 62)/\R (vv i (j - i).toNat) H1
def l8{a:Expr}{ta:TA}{p pos:Pos}(hg:Gl X "range")(hm:X.mg "range" = none)(ha:PA X [a] ta)(hs:starEach [a] X.env=[(false,eval a X.env)]:=by rfl):PI X tg (.Call (.Name "range" p) [a] [] pos) (vx ta):=by
 intro pins s σ H R I h
 refine Call_ (cK I hg hm boot_range (Fz (yS (ha pos pins s σ H _ I h) fun us s1 ⟨vs,H1,I1,r1,q1⟩=>?_) hs rfl))
 obtain⟨j,e,q1,q2,q⟩:=q1
 subst e
 cases r1 with
 |cons r rr=>
  cases rr
  obtain⟨t,rfl⟩:=r
  exact call_range_1 (jS I1 (by walk_at "t") (by omega) (by omega) q1 q2 (by simpa using q))
def l9{a b:Expr}{ta:TA}{p pos:Pos}(hg:Gl X "range")(hm:X.mg "range" = none)(ha:PA X [a,b] ta)(hs:starEach [a,b] X.env=[(false,eval a X.env),(false,eval b X.env)]:=by rfl)(hs2:starEach [b] X.env=[(false,eval b X.env)]:=by rfl) :
  PI X tg (.Call (.Name "range" p) [a,b] [] pos) (vy ta):=by
 intro pins s σ H R I h
 refine Call_ (cK I hg hm boot_range (Fz (yS (ha pos pins s σ H _ I h) fun us s1 ⟨vs,H1,I1,r1,q1⟩=>?_) (by rw[hs,hs2]) (by rw[hs2];rfl)))
 obtain⟨i,j,e,⟨q1,q2,q3,q4⟩,q⟩:=q1
 subst e
 cases r1 with
 |cons r rr=>
  cases rr with
  |cons r' rr=>
   cases rr
   obtain⟨t,rfl⟩:=r
   obtain⟨t',rfl⟩:=r'
   exact call_range_2 (jS I1 (by walk_at "t") q1 q2 q3 q4 q)
def xn(wi:TI)(g:TG)(tb:TS):TS:=fun D σ H=>wi σ H fun J H1=>∃W:Nat->Nat->St->Hp->Prop,(∃m,W 0 m σ H1)/\∀i m σ H,W i m σ H->
 (J.stop i H/\D.nx σ H)\/(J.go i H/\∃N:St->Hp->Prop,(∀σ' H',N σ' H'->∃m',m' < m/\W (i+1) m' σ' H')/\∀x H',J.CN i H x H'->g x σ H' fun σ2 H2=>tb { D with nx:=N,ct:=N,bk:=D.nx } σ2 H2)
noncomputable def gh(fp:List Addr)(h:Heap):List (Addr×Obj):=fp.filterMap fun b=>(h.get? b).map fun o=>(b,o)
def eh{fp:List Addr}{h:Heap}{b:Addr}{o:Obj}(hb:b∈fp)(e:h.get? b=some o):(b,o)∈gh fp h:=List.mem_filterMap.mpr ⟨b,hb,by rw[e];rfl⟩
def l_{fp:List Addr}{h:Heap}{p:Addr×Obj}(hp:p∈gh fp h):p.1∈fp/\h.get? p.1=some p.2:=by
 obtain⟨b,hb,e⟩:=List.mem_filterMap.mp hp
 cases q:h.get? b with
 |none=>rw[q]at e;cases e
 |some o=>
  rw[q]at e
  have e':(b,o)=p:=FI e
  subst e'
  exact⟨hb,q⟩
def Inv.pinned{pins:Va}{σ:St}{H:Hp}{s:Shared}{fp:List Addr}(I:Inv X pins σ H s)(hf:∀b∈fp,e7 X pins H b)(ho:∀b∈fp,∃o,s.heap.get? b=some o/\∀v,o.data ≠ .cell v):Inv X (pins++gh fp s.heap) σ H s:=
 I.At fun p hp=>(Fe.mp hp).elim (fun z=>I.pin p (FF _ z)) fun z=>by
  obtain⟨hb,e⟩:=l_ z
  obtain⟨f0,f1,f2,_⟩:=hf p.1 hb
  obtain⟨o,e',d⟩:=ho p.1 hb
  rw[e]at e';cases e'
  exact⟨e,f0,f1,f2,d⟩
def Inv.Ab{pins pl:Va}{σ:St}{H:Hp}{s:Shared}(I:Inv X (pins++pl) σ H s):Inv X pins σ H s:=I.At fun p hp=>I.pin p (FF _ (Gy _ hp))
def sR{iter:Expr}{body:List Stmt}{wi:TI}{g:TG}{tb:TS}{pos:Pos}(hp:PassesOwn (model X.prog X.w) X.A X.env X.xe)(hc:X.calm=true)(hi:PI X tg iter wi)(hg:PG X tg g)(hb:AQ X body tb)
  (hs:∀x,foldedSetIterable iter X.env x=pure x:=by intro _;rfl):PS X (.For tg iter body [] pos) (xn wi g tb):=by
 intro pins s σ H D I h
 refine wpAny_For (yS (hi pins s σ H _ I h) fun v s1 h1=>yS h1 fun itv s2 h2=>?_) hs
 obtain⟨it,fp,tn,J,H2,e,I2,T,st2,f2,W,⟨m0,w0⟩,turn⟩:=h2
 subst e
 -- what stays true of the iterator's objects through the loop
 have stat:∀{H':Hp},(∀b∈fp,H' b=none)->∀b∈fp,e7 X pins H' b:=fun hn b hb=>⟨hn b hb,(f2 b hb).2⟩
 refine codeAny_forLoop_any (fun n s'=>∃i σ' H',Inv X pins σ' H' s'/\tn i s'.heap/\(∀b∈fp,H' b=none)/\W i n σ' H') ?_ m0 ⟨0,σ,H2,I2,st2,fun b hb=>(f2 b hb).1,w0⟩
 rintro n s3 ⟨i,σ3,H3,I3,st3,DN,w3⟩
 rcases turn i n σ3 H3 w3 with⟨stop,qn⟩|⟨go,N,hN,step⟩
 ·refine Gh hp (yS (T.done X rfl rfl rfl hc i pins s3 σ3 H3 X.xe I3 (stat DN) st3 stop) fun r s4 ⟨hr,I4⟩=>?_)
  subst hr
  exact GH ⟨σ3,H3,I4,qn⟩
 ·refine Gh hp (yS (T.item X rfl rfl rfl hc i pins s3 σ3 H3 X.xe I3 (stat DN) st3 go) fun r s4 ⟨u,hr,h4⟩=>?_)
  subst hr
  refine Gh hp (yS h4 fun _ s5 ⟨x,H5,I5,r5,y5,BH,C7⟩=>?_)
  have C8:=I5.pinned (stat C7) (T.obj _ _ BH)
  refine Gh hp (yS (hg _ s5 σ3 H5 x u _ C8 r5 (step x H5 y5)) fun _ s6 ⟨σ6,H6,I6,q6⟩=>?_)
  refine Gh hp (yS (hb _ s6 σ6 H6 _ I6 q6) fun f s7 q7=>?_)
  have again:∀{σ7:St} {H7:Hp},Inv X (pins++gh fp s5.heap) σ7 H7 s7->N σ7 H7->∃m,m < n/\∃i σ' H',Inv X pins σ' H' s7/\tn i s7.heap/\(∀b∈fp,H' b=none)/\W i m σ' H':=fun{σ7 H7} I7 n7=>by
   obtain⟨m',hm,w7⟩:=hN σ7 H7 n7
   refine⟨m',hm,i+1,σ7,H7,I7.Ab,T.keep _ _ _ BH fun b hb o e=>(I7.pin (b,o) (FF _ (FF _ (eh hb e)))).1,fun b hb=>?_,w7⟩
   obtain⟨o,e,d⟩:=T.obj _ _ BH b hb
   exact(I7.pin (b,o) (FF _ (FF _ (eh hb e)))).2.1
  cases f with
  |next=>obtain⟨σ7,H7,I7,n7⟩:=q7;exact again I7 n7
  |cont=>obtain⟨σ7,H7,I7,n7⟩:=q7;exact again I7 n7
  |brk=>obtain⟨σ7,H7,I7,q7⟩:=q7;exact⟨σ7,H7,I7.Ab,q7⟩
  |ret v=>obtain⟨x7,σ7,H7,I7,r7,q7⟩:=q7;exact⟨x7,σ7,H7,I7.Ab,r7,q7⟩
end
abbrev R2:=V->V->Hp->VK->Prop
def eZ(X:Cx)(f:Value->Value->Sem Value)(r:R2):Prop:=
 ∀(pins:Va) (s:Shared) (σ:St) (H:Hp) (x y:V) (v u:Value) (Q:VK),Inv X pins σ H s->RelV x v->RelV y u->r x y H Q->
  wpAny (model X.prog X.w) X.A (f v u) (EP X pins σ Q) X.xe s
def wL(X:Cx)(f:Value->Sem Value)(r:V->Hp->VK->Prop):Prop:=
 ∀(pins:Va) (s:Shared) (σ:St) (H:Hp) (x:V) (v:Value) (Q:VK),Inv X pins σ H s->RelV x v->r x H Q->
  wpAny (model X.prog X.w) X.A (f v) (EP X pins σ Q) X.xe s
def cz(X:Cx)(f:Value)(r:List V->Hp->VK->Prop):Prop:=
 ∀(pins:Va) (s:Shared) (σ:St) (H:Hp) (xs:List V) (us:Vv) (Q:VK),Inv X pins σ H s->Vals xs us->r xs H Q->
  wpAny (model X.prog X.w) X.A (call f us) (EP X pins σ Q) X.xe s
def vz(r:R2)(ta tb:TE):TE:=fun σ H Q=>ta σ H fun x H1=>tb σ H1 fun y H2=>r x y H2 Q
def yo(r:V->Hp->VK->Prop)(ta:TE):TE:=fun σ H Q=>ta σ H fun x H1=>r x H1 Q
def rI(C:Int->Int->Prop)(g:Int->Int->V):R2:=fun x y H Q=>∃i j,x = .int i/\y = .int j/\C i j/\Q (g i j) H
def pW(g:Int->Int->V):R2:=fun x y H Q=>∃i j,x = .int i/\y = .int j/\Q (g i j) H
noncomputable def rU(g:Int->V):V->Hp->VK->Prop:=fun x H Q=>∃i,x = .int i/\Q (g i) H
section
variable {X:Cx} {a b c:Expr} {ta tb tc:TE} {pos:Pos}
def sT(ha:PE X a ta)(hb:PE X b tb){pins:Va}{s:Shared}{σ:St}{H:Hp}{R:V->V->Hp->Prop}(I:Inv X pins σ H s)
  (h:ta σ H fun x H1=>tb σ H1 fun y H2=>R x y H2) {Q:Vq} {f:Value->Value->Sem Value}
  (hf:∀v u s2 x y H2,Inv X pins σ H2 s2->RelV x v->RelV y u->R x y H2->wpAny (model X.prog X.w) X.A (f v u) Q X.xe s2) :
  wpAny (model X.prog X.w) X.A (eval a X.env) (fun v s₁=>wpAny (model X.prog X.w) X.A (eval b X.env) (fun u s₂=>wpAny (model X.prog X.w) X.A (f v u) Q X.xe s₂) X.xe s₁) X.xe s:=by
 refine yS (ha pins s σ H _ I h) fun v s1 ⟨x,H1,I1,r1,q1⟩=>?_
 refine yS (hb pins s1 σ H1 _ I1 q1) fun u s2 ⟨y,H2,I2,r2,q2⟩=>?_
 exact hf v u s2 x y H2 I2 r1 r2 q2
def vA{op:Operator}{r:R2}(ho:eZ X (binaryOp op) r)(ha:PE X a ta)(hb:PE X b tb):PE X (.BinOp a op b pos) (vz r ta tb):=by
 intro pins s σ H Q I h
 exact wpAny_BinOp (sT ha hb I h fun v u s2 x y H2 I2 rx ry q=>ho pins s2 σ H2 x y v u Q I2 rx ry q)
def vB{op:UnaryOp}{r:V->Hp->VK->Prop}(ho:wL X (unaryOp op) r)(ha:PE X a ta):PE X (.UnaryOp op a pos) (yo r ta):=by
 intro pins s σ H Q I h
 exact UnaryOp_ (yS (ha pins s σ H _ I h) fun v s1 ⟨x,H1,I1,r1,q1⟩=>ho pins s1 σ H1 x v Q I1 r1 q1)
def wM{f:Value->Value->Sem Value}{C:Int->Int->Prop}{g:Int->Int->Int}
  (rule:∀(i j:Int) (t u:Tok) (s:Shared) (Q:Vq) (E:Vq),C i j->Q (.int (g i j) s.toks) { s with toks:=s.toks+1 }->wpAny (model X.prog X.w) X.A (f (.int i t) (.int j u)) Q E s) :
  eZ X f (rI C fun i j=>.int (g i j)):=by
 intro pins s σ H x y v u Q I rx ry h
 obtain⟨i,j,rfl,rfl,hc,q⟩:=h
 obtain⟨t,rfl⟩:=rx
 obtain⟨t',rfl⟩:=ry
 exact rule i j t t' s _ _ hc ⟨.int (g i j),H,I.tok _,⟨_,rfl⟩,q⟩
def vC{f:Value->Value->Sem Value}{g:Int->Int->Int}
  (rule:∀(i j:Int) (t u:Tok) (s:Shared) (Q:Vq) (E:Vq),Q (.int (g i j) s.toks) { s with toks:=s.toks+1 }->wpAny (model X.prog X.w) X.A (f (.int i t) (.int j u)) Q E s) :
  eZ X f (pW fun i j=>.int (g i j)):=by
 intro pins s σ H x y v u Q I rx ry h
 obtain⟨i,j,rfl,rfl,q⟩:=h
 obtain⟨t,rfl⟩:=rx
 obtain⟨t',rfl⟩:=ry
 exact rule i j t t' s _ _ ⟨.int (g i j),H,I.tok _,⟨_,rfl⟩,q⟩
def sU{f:Value->Value->Sem Value}{g:Int->Int->Bool}
  (rule:∀(i j:Int) (t u:Tok) (s:Shared) (Q:Vq) (E:Vq),Q (.bool (g i j)) s->wpAny (model X.prog X.w) X.A (f (.int i t) (.int j u)) Q E s) :
  eZ X f (pW fun i j=>.bl (g i j)):=by
 intro pins s σ H x y v u Q I rx ry h
 obtain⟨i,j,rfl,rfl,q⟩:=h
 obtain⟨t,rfl⟩:=rx
 obtain⟨t',rfl⟩:=ry
 exact rule i j t t' s _ _ ⟨.bl (g i j),H,I,rfl,q⟩
def pX(i j:Int):Prop:=0<=j/\j<=1000000/\i.natAbs < 2 ^ 64
def BI(i j:Int):Prop:=(-(2 ^ 64) < i/\i < 2 ^ 64)\/(-(2 ^ 64) < j/\j < 2 ^ 64)
def BI.ok{i j:Int}(h:BI i j):IntMulOk i j:=by
 rcases h with⟨h1,h2⟩|⟨h1,h2⟩
 ·exact .of_left (intBits_le_64 h1 h2)
 ·exact .of_right (intBits_le_64 h1 h2)
def sV:eZ X (binaryOp .Add) (pW fun i j=>.int (i+j)):=vC fun _ _ _ _ _ _ _ q=>add_int q
def sW:eZ X (binaryOp .Sub) (pW fun i j=>.int (i - j)):=vC fun _ _ _ _ _ _ _ q=>sub_int q
def pY:eZ X (binaryOp .Mod) (rI (fun _ j=>j≠0) fun i j=>.int (i.fmod j)):=wM fun _ _ _ _ _ _ _ hc q=>mod_int' hc q
def sX:eZ X (binaryOp .Pow) (rI pX fun i j=>.int (i ^ j.toNat)):=wM fun _ _ _ _ _ _ _ hc q=>pow_int_small hc.1 hc.2.1 hc.2.2 q
def yp{f:Value->Sem Value}{g:Int->Int}
  (rule:∀(i:Int) (t:Tok) (s:Shared) (Q:Vq) (E:Vq),Q (.int (g i) s.toks) { s with toks:=s.toks+1 }->wpAny (model X.prog X.w) X.A (f (.int i t)) Q E s) :
  wL X f (rU fun i=>.int (g i)):=by
 intro pins s σ H x v Q I rx h
 obtain⟨i,rfl,q⟩:=h
 obtain⟨t,rfl⟩:=rx
 exact rule i t s _ _ ⟨.int (g i),H,I.tok _,⟨_,rfl⟩,q⟩
def sY:wL X (unaryOp .USub) (rU fun i=>.int (-i)):=yp fun _ _ _ _ _ q=>neg_int q
end
noncomputable def vD:V->V->Bool
 | .non,.non=>true | .non,.int _=>true | .int _,.non=>true | .non,.bl _=>true | .bl _,.non=>true | .non,.str _=>true | .str _,.non=>true
 | .int _,.int _=>true | .bl _,.bl _=>true | .str _,.str _=>true | .Bu _,.Bu _=>true
 | .int _,.str _=>true | .str _,.int _=>true | .bl _,.str _=>true | .str _,.bl _=>true
 |_,_=>false
def yq:R2:=fun x y H Q=>vD x y=true/\Q (.bl (decide (x=y))) H
def yr:R2:=fun x y H Q=>vD x y=true/\Q (.bl (!decide (x=y))) H
def lm{i j:Int}:decide (V.int i=V.int j)=(i == j):=by
 rw[Gr]
 simp
def nj{i j:Bool}:decide (V.bl i=V.bl j)=(i == j):=by
 rw[Gr]
 simp
def lp{i j:Str}:decide (V.str i=V.str j)=(i == j):=by
 rw[Gr]
 simp
def lq{i j:Array UInt8}:decide (V.Bu i=V.Bu j)=(i.toList == j.toList):=by
 rw[Gr]
 cases i
 cases j
 simp
section
variable {X:Cx} {a b c:Expr} {ta tb tc:TE} {pos:Pos}
def aC{pins:Va}{σ:St}{H:Hp}{s:Shared}{Q:VK}{k k':Bool}(I:Inv X pins σ H s)(q:Q (.bl k) H)(e:k=k'):EP X pins σ Q (.bool k') s:=by
 subst e
 exact⟨.bl k,H,I,rfl,q⟩
def nk:eZ X (compareOp .Eq) yq:=by
 intro pins s σ H x y v u Q I rx ry h
 obtain⟨hs,q⟩:=h
 cases x with
 |non=>
  cases rx
  cases y with
  |non=>cases ry;exact PySem.EqNone.eq_none_none (aC I q (by simp))
  |bl j=>cases ry;exact PySem.EqNone.eq_none_bool (aC I q (by simp))
  |int j=>obtain⟨t',rfl⟩:=ry;exact PySem.EqNone.eq_none_int (aC I q (by simp))
  |str j=>obtain⟨t',rfl⟩:=ry;exact PySem.EqNone.eq_none_str (aC I q (by simp))
  |_=>exact absurd (show false=true from hs) Fp
 |bl i=>
  cases rx
  cases y with
  |non=>cases ry;exact PySem.EqNone.eq_bool_none (aC I q (by simp))
  |bl j=>cases ry;exact eq_bool (aC I q nj)
  |str j=>obtain⟨t',rfl⟩:=ry;exact PySem.EqMixed.eq_bool_str (aC I q (by simp))
  |_=>exact absurd (show false=true from hs) Fp
 |int i=>
  obtain⟨t,rfl⟩:=rx
  cases y with
  |non=>cases ry;exact PySem.EqNone.eq_int_none (aC I q (by simp))
  |int j=>obtain⟨t',rfl⟩:=ry;exact eq_int (aC I q lm)
  |str j=>obtain⟨t',rfl⟩:=ry;exact PySem.EqMixed.eq_int_str (aC I q (by simp))
  |_=>exact absurd (show false=true from hs) Fp
 |str i=>
  obtain⟨t,rfl⟩:=rx
  cases y with
  |non=>cases ry;exact PySem.EqNone.eq_str_none (aC I q (by simp))
  |bl j=>cases ry;exact PySem.EqMixed.eq_str_bool (aC I q (by simp))
  |int j=>obtain⟨t',rfl⟩:=ry;exact PySem.EqMixed.eq_str_int (aC I q (by simp))
  |str j=>obtain⟨t',rfl⟩:=ry;exact eq_str (aC I q lp)
  |_=>exact absurd (show false=true from hs) Fp
 |Bu i=>
  obtain⟨t,rfl⟩:=rx
  cases y with
  |Bu j=>obtain⟨t',rfl⟩:=ry;exact PySem.W.eq_bytes (aC I q lq)
  |_=>exact absurd (show false=true from hs) Fp
 |_=>cases y<;>exact absurd (show false=true from hs) Fp
def nl:eZ X (compareOp .NotEq) yr:=by
 intro pins s σ H x y v u Q I rx ry h
 obtain⟨hs,q⟩:=h
 cases x with
 |non=>
  cases rx
  cases y with
  |non=>cases ry;exact PySem.EqNone.ne_none_none (aC I q (by simp))
  |bl j=>cases ry;exact PySem.EqNone.ne_none_bool (aC I q (by simp))
  |int j=>obtain⟨t',rfl⟩:=ry;exact PySem.EqNone.ne_none_int (aC I q (by simp))
  |str j=>obtain⟨t',rfl⟩:=ry;exact PySem.EqNone.ne_none_str (aC I q (by simp))
  |_=>exact absurd (show false=true from hs) Fp
 |bl i=>
  cases rx
  cases y with
  |non=>cases ry;exact PySem.EqNone.ne_bool_none (aC I q (by simp))
  |bl j=>cases ry;exact ne_bool (aC I q (FA not nj))
  |str j=>obtain⟨t',rfl⟩:=ry;exact PySem.EqMixed.ne_bool_str (aC I q (by simp))
  |_=>exact absurd (show false=true from hs) Fp
 |int i=>
  obtain⟨t,rfl⟩:=rx
  cases y with
  |non=>cases ry;exact PySem.EqNone.ne_int_none (aC I q (by simp))
  |int j=>obtain⟨t',rfl⟩:=ry;exact ne_int (aC I q (FA not lm))
  |str j=>obtain⟨t',rfl⟩:=ry;exact PySem.EqMixed.ne_int_str (aC I q (by simp))
  |_=>exact absurd (show false=true from hs) Fp
 |str i=>
  obtain⟨t,rfl⟩:=rx
  cases y with
  |non=>cases ry;exact PySem.EqNone.ne_str_none (aC I q (by simp))
  |bl j=>cases ry;exact PySem.EqMixed.ne_str_bool (aC I q (by simp))
  |int j=>obtain⟨t',rfl⟩:=ry;exact PySem.EqMixed.ne_str_int (aC I q (by simp))
  |str j=>obtain⟨t',rfl⟩:=ry;exact ne_str (aC I q (FA not lp))
  |_=>exact absurd (show false=true from hs) Fp
 |Bu i=>
  obtain⟨t,rfl⟩:=rx
  cases y with
  |Bu j=>obtain⟨t',rfl⟩:=ry;exact PySem.W.ne_bytes (aC I q (FA not lq))
  |_=>exact absurd (show false=true from hs) Fp
 |_=>cases y<;>exact absurd (show false=true from hs) Fp
def vE:eZ X (compareOp .Lt) (pW fun i j=>.bl (decide (i < j))):=sU fun _ _ _ _ _ _ _ q=>lt_int q
def vF:eZ X (compareOp .Gt) (pW fun i j=>.bl (decide (j < i))):=sU fun _ _ _ _ _ _ _ q=>gt_int q
def vG:eZ X (compareOp .GtE) (pW fun i j=>.bl (decide (j<=i))):=sU fun _ _ _ _ _ _ _ q=>ge_int q
def ma:eZ X (compareOp .In) (fun x y H Q=>∃i j,x = .str i/\y = .str j/\Q (.bl (!(Builtin.Str.occurrences j i 0 j.length 1).isEmpty)) H):=by
 intro pins s σ H x y v u Q I rx ry h
 obtain⟨i,j,rfl,rfl,q⟩:=h
 obtain⟨t,rfl⟩:=rx
 obtain⟨t',rfl⟩:=ry
 exact in_str (aC I q rfl)
def aV(b:Expr){op:CmpOp}(h:op ≠ .In:=by decide)(h2:op ≠ .NotIn:=by decide):behindInMarks op b=false:=by
 have e1:(op == CmpOp.In)=false:=by cases op<;>first|rfl|exact absurd rfl h
 have e2:(op == CmpOp.NotIn)=false:=by cases op<;>first|rfl|exact absurd rfl h2
 cases b<;>simp[behindInMarks,e1,e2]
def pZ{op:CmpOp}{r:R2}(ho:eZ X (compareOp op) r)(ha:PE X a ta)(hb:PE X b tb)(hm:behindInMarks op b=false):PE X (.Compare a [op] [b] pos) (vz r ta tb):=by
 intro pins s σ H Q I h
 exact wpAny_Compare1 (sT ha hb I h fun v u s2 x y H2 I2 rx ry q=>ho pins s2 σ H2 x y v u Q I2 rx ry q) hm
def vH(t:TE):TT:=fun σ H Q=>t σ H fun x H'=>∃k,x = .bl k/\Q k H'
def lr{op:CmpOp}{r:R2}(ho:eZ X (compareOp op) r)(ha:PE X a ta)(hb:PE X b tb)(hm:behindInMarks op b=false):PT X (.Compare a [op] [b] pos) (vH (vz r ta tb)):=by
 intro pins s σ H Q I h
 refine wpAny_isTrue_Compare1 (yS (ha pins s σ H _ I h) fun v s1 ⟨x,H1,I1,r1,q1⟩=>yS (hb pins s1 σ H1 _ I1 q1) fun u s2 ⟨y,H2,I2,r2,q2⟩=>
  yS (ho pins s2 σ H2 x y v u _ I2 r1 r2 q2) fun c s3 ⟨z,H3,I3,r3,k,e,q3⟩=>?_) hm
 subst e
 cases r3
 exact GS ⟨H3,I3,q3⟩
def e8:(sizeLine:Nat) < 2 ^ 63:=by rw[sizeLine_eq];decide
def kE:eZ X (binaryOp .Add) (fun x y H Q=>∃i j,x = .str i/\y = .str j/\i.length+j.length<=sizeLine/\Q (.str (i++j)) H):=by
 intro pins s σ H x y v u Q I rx ry h
 obtain⟨i,j,rfl,rfl,hz,q⟩:=h
 obtain⟨t,rfl⟩:=rx
 obtain⟨t',rfl⟩:=ry
 exact Fj I.tk (add_str (fun t' tk ht=>⟨.str (i++j),H,I.tok _,⟨_,rfl⟩,q⟩) hz)
def bV{x:V}{us:Vv}(r:Vals [x] us):∃u,us=[u]/\RelV x u:=by
 cases r with
 |cons r1 r2=>cases r2;exact⟨_,rfl,r1⟩
def vI{x y:V}{us:Vv}(r:Vals [x,y] us):∃u w',us=[u,w']/\RelV x u/\RelV y w':=by
 cases r with
 |cons r1 r2=>
  cases r2 with
  |cons r3 r4=>cases r4;exact⟨_,_,rfl,r1,r3⟩
def nn:cz X (.builtin "abs") (fun xs H Q=>∃i,xs=[.int i]/\Q (.int (if i < 0 then -i else i)) H):=by
 intro pins s σ H xs us Q I r h
 obtain⟨i,rfl,q⟩:=h
 obtain⟨u,rfl,t,rfl⟩:=bV r
 exact Fj I.tk (call_abs_int fun u tk ht=>⟨.int (if i < 0 then -i else i),H,I.tok _,⟨_,rfl⟩,q⟩)
def md(hc:X.calm=true):cz X (.builtin "max") (fun xs H Q=>∃i j,xs=[.int i,.int j]/\Q (.int (if j > i then j else i)) H):=by
 intro pins s σ H xs us Q I r h
 obtain⟨i,j,rfl,q⟩:=h
 obtain⟨u,w',rfl,⟨t,rfl⟩,⟨t',rfl⟩⟩:=vI r
 refine Fj I.tk (max_two_ints (I.ok.hd hc) fun h' tk k ht=>⟨_,H,I.kept k,?_,q⟩)
 by_cases hj:j > i
 ·rw[if_pos hj,if_pos hj];exact⟨_,rfl⟩
 ·rw[if_neg hj,if_neg hj];exact⟨_,rfl⟩
def il:cz X (.type "int") (fun xs H Q=>(∃i,xs=[.int i]/\Q (.int i) H)\/∃k,xs=[.bl k]/\Q (.int (if k then 1 else 0)) H):=by
 intro pins s σ H xs us Q I r h
 rcases h with⟨i,rfl,q⟩|⟨k,rfl,q⟩
 ·obtain⟨u,rfl,t,rfl⟩:=bV r
  exact call_int_int ⟨.int i,H,I,⟨_,rfl⟩,q⟩
 ·obtain⟨u,rfl,r1⟩:=bV r
  cases r1
  exact call_int_bool ⟨.int (if k then 1 else 0),H,I.tok _,⟨_,rfl⟩,q⟩
def iV:cz X (.type "str") (fun xs H Q=>∃i,xs=[.int i]/\i.natAbs.log2 < 1920/\Q (.str (toString i)) H):=by
 intro pins s σ H xs us Q I r h
 obtain⟨i,rfl,hz,q⟩:=h
 obtain⟨u,rfl,t,rfl⟩:=bV r
 exact PySem.P.str_of_int hz ⟨.str _,H,I.tok _,⟨_,rfl⟩,q⟩
end
def RelO.some_of{v:V}{o:Option Value}(r:RelO (some v) o):∃u,o=some u/\RelV v u:=by
 cases o with
 |none=>exact(show False from r).elim
 |some u=>exact⟨u,rfl,r⟩
structure Room (k:Nat) (A:Around):Prop where
 hd:A.handled=none
 dp:A.depth+3 * k+5 < recursionLimit
 un:A.units+16 * k+200 < cLine
 gd:A.guards=some []
def Room.mono{j k:Nat}{A:Around}(r:Room k A)(h:j<=k):Room j A:=⟨r.hd,by have:=r.dp;omega,by have:=r.un;omega,r.gd⟩
theorem Room.deeper{k:Nat}{A:Around}(r:Room (k+1) A)(env:Env):Room k (A.deeper env):=
 ⟨r.hd,by have:=r.dp;show A.depth+1+3 * k+5 < _;omega,by have:=r.un;show A.units+3+16 * k+200 < _;omega,r.gd⟩
theorem Room.depth{k:Nat}{A:Around}(r:Room k A):A.depth < recursionLimit:=by have:=r.dp;omega
def sZ:TA:=fun _ H Q=>Q [] H
def rD(ta:TE)(tr:TA):TA:=fun σ H Q=>ta σ H fun x H1=>tr σ H1 fun xs H2=>Q (x::xs) H2
section
variable {X:Cx} {e:Expr} {es:List Expr} {te:TE} {t:TA} {pos:Pos}
def s9:PA X [] sZ:=fun _ _ _ _ H Q I h=>F8 ⟨[],H,I,.nil,h⟩
def p0(ha:PE X e te)(hr:PA X es t)(hs:starEach (e::es) X.env=(false,eval e X.env)::starEach es X.env:=by rfl):PA X (e::es) (rD te t):=by
 intro pos pins s σ H Q I h
 rw[hs]
 show wpAny _ _ (spliced ((false,eval e X.env)::backTo pos (starEach es X.env))) _ _ s
 refine FT (yS (ha pins s σ H _ I h) fun u s1 ⟨x,H1,I1,r1,q1⟩=>?_)
 exact yS (hr pos pins s1 σ H1 _ I1 q1) fun us s2 ⟨xs,H2,I2,r2,q2⟩=>⟨x::xs,H2,I2,.cons r1 r2,q2⟩
def xp(t:TA):TE:=fun σ H Q=>t σ H fun xs H1=>xs.length<=sizeLine/\∀p,H1 p=none->Q (.ref p) (upd H1 p (.tup xs))
def xq(t:TA):TE:=fun σ H Q=>t σ H fun xs H1=>xs.length<=sizeLine/\∀p,H1 p=none->Q (.ref p) (upd H1 p (.lst xs))
def s_{x1}(h:PA X es t):PE X (.Tuple es x1 pos) (xp t):=by
 intro pins s σ H Q I hq
 refine wpAny_Tuple_spliced (yS (h pos pins s σ H _ I hq) fun us s1 ⟨xs,H1,I1,r,z,q⟩=>⟨by rw[<-r.length];exact z,?_⟩)
 have hf:H1 s1.heap.objs.size=none:=I1.hok.fresh (EZ _)
 refine⟨.ref s1.heap.objs.size,upd H1 s1.heap.objs.size (.tup xs),I1.laid (t':=s1.toks) (fun b u e=>EY _ e) (EZ _) ?_,rfl,q _ hf⟩
 exact⟨z,us,r,⟨_,Ff _ rfl,rfl,rfl,_,rfl⟩⟩
def td(h:PA X es t):PE X (.List es pos) (xq t):=by
 intro pins s σ H Q I hq
 refine wpAny_List_spliced (yS (h pos pins s σ H _ I hq) fun us s1 ⟨xs,H1,I1,r,z,q⟩=>⟨by rw[<-r.length];exact z,?_⟩)
 have hf:H1 s1.heap.objs.size=none:=I1.hok.fresh (EZ _)
 refine⟨.ref s1.heap.objs.size,upd H1 s1.heap.objs.size (.lst xs),I1.laid (t':=s1.toks) (fun b u e=>EY _ e) (EZ _) ?_,rfl,q _ hf⟩
 exact⟨z,us,0,r,Ff _ rfl⟩
end
abbrev Sp:=List V->Hp->VK->XK->Prop
abbrev pI:=List Env->Hp->Shared->XK->Value->Shared->Prop
structure p4 (P:Program) (w:World) (K:Vo) (mg:Vr) (base:Heap) (A:Around) (outer:List Env) (s:Shared) (H:Hp):Prop where
 frames:A.frames=some outer
 mod:Mod K mg base
 bs:∀b o,base.get? b=some o->s.heap.get? b=some o/\H b=none
 Bv:base.objs.size<=s.heap.objs.size
 Aa:s.heap.FunFrames base outer
 BG:∀b∈frs outer,H b=none
 hok:z9 P w H s.heap
 bare:AllBare s.gens
def CE(outer:List Env)(P:Program)(w:World)(H:Hp)(s:Shared)(Q:VK)(u:Value)(s':Shared):Prop:=
 ∃v H',s'.os=s.os/\AllBare s'.gens/\Un (frs outer) [] H H' s.heap s'.heap/\z9 P w H' s'.heap/\RelV v u/\Q v H'
def CR(CX:pI)(outer:List Env)(P:Program)(w:World)(H:Hp)(s:Shared)(Q:VK)(E:XK)(r:Result)(s':Shared):Prop:=
 match r with
 | .ok (.ret u)=>CE outer P w H s Q u s'
 | .ok _=>False
 | .error e=>CX outer H s E e s'
noncomputable def FL(fd:FuncData):List Str->Prop
 |n::_=>fd.scope.names.lookup n=some .local
 |[]=>False
structure hU (P:Program) (w:World) (K:Vo) (mg:Vr) (base:Heap) (CX:pI) (k:Nat) (f:Addr) (fd:FuncData) (ps:Vs) (sp:Sp):Prop where
 len:∀vs H Q E,sp vs H Q E->vs.length=ps.length
 run:∀(A:Around) (outer:List Env) (s:Shared) (H:Hp) (args:Args) (us:Vv) (vs:List V) (Q:VK) (E:XK),Room k A->(1<=s.toks\/FL fd ps)->p4 P w K mg base A outer s H->BindsTo s fd args (ps.zip us)->Vals vs us->sp vs H Q E->
  codeAny (model P w) A (.call (.ref f) args) (CR CX outer P w H s Q E) s
section
variable {X:Cx} {pins:Va} {σ:St} {H:Hp} {s s':Shared}
def Inv.C9(I:Inv X pins σ H s):p4 X.prog X.w X.K X.mg X.base X.A X.stack s H:=
 ⟨I.ok.frames,I.ok.mod,I.bs,Fl I.ok.Bv I.sz,I.stack,I.Ba,I.hok,I.bare⟩
def Inv.after{Q:VK}{u:Value}(I:Inv X pins σ H s)(ht:1<=s'.toks)(h:CE X.stack X.prog X.w H s Q u s'):EP X pins σ Q u s':=by
 obtain⟨v,H',os,bare,un,hok,r,q⟩:=h
 obtain⟨hh,g,d,t,os'⟩:=s'
 obtain rfl:os'=s.os:=os
 exact⟨v,H',I.call (h':=hh) (g':=g) (d':=d) (t':=t) (ch:=[]) un hok bare (fun b z=>absurd z (by simp)),r,q⟩
end
def rE(sp:Sp)(dvs:List V)(E:XK)(t:TA):TE:=fun σ H Q=>t σ H fun vs H1=>sp (vs++dvs) H1 Q E
def Binds(K:Vo)(fd:FuncData)(ps:Vs)(ds:Vv):Prop:=
 ∀(s:Shared) (us:Vv),K.In s.heap->(us++ds).length=ps.length->BindsTo s fd ⟨us,[]⟩ (ps.zip (us++ds))
def Binds.all{K:Vo}{fd:FuncData}{ps:Vs}(h:∀us:List Value,us.length=ps.length->bindArgs fd ⟨us,[]⟩=pure (ps.zip us)):Binds K fd ps []:=fun s us _ hl=>by
 rw[F2]at hl ⊢
 exact .of_eq (h us hl)
def iW(CX:pI)(X:Cx)(E:XK):Prop:=∀(pins:Va) (σ:St) (H:Hp) (s:Shared) (e:Value) (s':Shared),Inv X pins σ H s->1<=s'.toks->CX X.stack H s E e s'->X.xe e s'
section
variable {X:Cx} {CX:pI} {k:Nat} {f C:Addr} {fd:FuncData} {ps:Vs} {sp:Sp} {dvs:List V} {ds:Vv} {E:XK} {x m:Str} {p pos apos:Pos} {e o:Expr} {es:List Expr} {ta:TE} {t:TA}
def np{pins:Va}{σ:St}{H:Hp}{s:Shared}{Q:VK}{us:Vv}{vs:List V}(F:hU X.prog X.w X.K X.mg X.base CX k f fd ps sp)(hr:Room k X.A)(hb:Binds X.K fd ps ds)(hd:Vals dvs ds)(hx:iW CX X E)
  (I:Inv X pins σ H s) (r:Vals vs us) (h:sp (vs++dvs) H Q E):wpAny (model X.prog X.w) X.A (call (.ref f) us) (EP X pins σ Q) X.xe s:=by
 have r2:Vals (vs++dvs) (us++ds):=r.append hd
 have hl:(us++ds).length=ps.length:=by rw[<-r2.length];exact F.len _ _ _ _ h
 refine wpAny_call (codeAny_mono (codeAny_toks_of (Inv.tk ‹_›) (F.run X.A X.stack s H ⟨us,[]⟩ (us++ds) (vs++dvs) Q E hr (.inl I.tk) I.C9 (hb s us I.Bw hl) r2 h)) fun r s' ⟨ht,hq⟩=>?_)
 cases r with
 |error e=>exact hx pins σ H s e s' I ht hq
 |ok fl=>
  cases fl with
  |ret u=>exact I.after ht hq
  |next=>exact False.elim hq
  |brk=>exact False.elim hq
  |cont=>exact False.elim hq
def p5(F:hU X.prog X.w X.K X.mg X.base CX k f fd ps sp)(hr:Room k X.A)(hg:Gl X x)(hm:X.mg x=some (.ref f))(hk:PySem.W.keepIn X.K (.ref f)=true)(hb:Binds X.K fd ps ds)(hd:Vals dvs ds)(hx:iW CX X E)
  (ha:PA X (e::es) t) (hdb:(x == ("__debug__":Str))=false:=by decide) (he:starEach (e::es) X.env=(false,eval e X.env)::starEach es X.env:=by rfl) (hpl:(backTo pos (starEach es X.env)).any (·.1)=false:=by rfl) :
  PE X (.Call (.Name x p) (e::es) [] pos) (rE sp dvs E t):=by
 intro pins s σ H Q I h
 refine F3 (fX I hg hm ?_ hdb)
 refine PySem.W.callWith_K (h₀:=X.base) I.ok.mod.C3 hk (yS (ha pos pins s σ H _ I h) fun us s1 ⟨vs,H1,I1,r,q⟩=>⟨I1.Bw,?_⟩) he hpl
 exact np F hr hb hd hx I1 r q
def nq(F:hU X.prog X.w X.K X.mg X.base CX k f fd ps sp)(hr:Room k X.A)(hg:Gl X x)(hm:X.mg x=some (.ref f))(hk:PySem.W.keepIn X.K (.ref f)=true)(hb:Binds X.K fd ps ds)(hd:Vals dvs ds)(hx:iW CX X E)
  (hdb:(x == ("__debug__":Str))=false:=by decide):PE X (.Call (.Name x p) [] [] pos) (rE sp dvs E sZ):=by
 intro pins s σ H Q I h
 refine F3 (fX I hg hm ?_ hdb)
 exact PySem.W.callWith_K0 I.Bw hk (np (us:=[]) F hr hb hd hx I .nil h)
end
structure dQ (N P:Vs) (sc:Scope):Prop where
 kind:sc.kind = .function
 co:sc.isCoroutine=false
 gen:sc.isGenerator=false
 nd:N.Nodup
 pre:N.take P.length=P
 par:∀x∈P,sc.names.lookup x=some .local\/sc.names.lookup x=some .cell
 B8:∀y∈sc.names,y.2 ≠ .free
theorem im{kindOf:Str->Option NameKind}{x:Str}:∀{binds:List (Str×Value)} {m:Vr},(∀v,(x,v) ∉ binds)->bindL kindOf binds m x=m x
 |[],_,_=>rfl
 |(n,v)::r,m,h=>by
  unfold bindL
  rw[im fun w hw=>h w (Fi _ hw)]
  split
  ·have:x≠n:=by rintro rfl;exact h v Fg
   simp[this]
  ·rfl
theorem io{kindOf:Str->Option NameKind}{x:Str}:∀{binds:List (Str×Value)} {m:Vr},(∀v,(x,v) ∉ binds)->bindC kindOf binds m x=m x
 |[],_,_=>rfl
 |(n,v)::r,m,h=>by
  unfold bindC
  rw[io fun w hw=>h w (Fi _ hw)]
  split
  ·rfl
  ·have:x≠n:=by rintro rfl;exact h v Fg
   simp[this]
theorem ip{kindOf:Str->Option NameKind}{x:Str}{v:Value}:∀{P:Vs} {vs:Vv} {i:Nat} {m:Vr},P.Nodup->P[i]?=some x->vs[i]?=some v->kindOf x=some .local->
  bindL kindOf (P.zip vs) m x=some v
 |[],_,_,_,_,h,_,_=>by simp at h
 |_::_,[],_,_,_,_,h,_=>by simp at h
 |p::P,w::vs,0,m,nd,h1,h2,hk=>by
  simp at h1 h2;subst h1;subst h2
  show bindL kindOf ((p,w)::P.zip vs) m p=_
  unfold bindL
  rw[im fun v hv=>(Gi.mp nd).1 (List.of_mem_zip hv).1,if_pos hk]
  simp
 |p::P,w::vs,i+1,m,nd,h1,h2,hk=>by
  show bindL kindOf ((p,w)::P.zip vs) m x=_
  unfold bindL
  exact ip (i:=i) (Gi.mp nd).2 (by simpa using h1) (by simpa using h2) hk
theorem iq{kindOf:Str->Option NameKind}{x:Str}{v:Value}:∀{P:Vs} {vs:Vv} {i:Nat} {m:Vr},P.Nodup->P[i]?=some x->vs[i]?=some v->kindOf x≠some .local->
  bindC kindOf (P.zip vs) m x=some v
 |[],_,_,_,_,h,_,_=>by simp at h
 |_::_,[],_,_,_,_,h,_=>by simp at h
 |p::P,w::vs,0,m,nd,h1,h2,hk=>by
  simp at h1 h2;subst h1;subst h2
  show bindC kindOf ((p,w)::P.zip vs) m p=_
  unfold bindC
  rw[io fun v hv=>(Gi.mp nd).1 (List.of_mem_zip hv).1,if_neg hk]
  simp
 |p::P,w::vs,i+1,m,nd,h1,h2,hk=>by
  show bindC kindOf ((p,w)::P.zip vs) m x=_
  unfold bindC
  exact iq (i:=i) (Gi.mp nd).2 (by simpa using h1) (by simpa using h2) hk
noncomputable def dk(N:Vs)(vs:List V):St:=vs.map some++List.replicate (N.length - vs.length) none
noncomputable def kF(CX:pI)(P:Program)(w:World)(K:Vo)(mg:Vr)(base:Heap)(N:Vs)(qual:Str)(scope:Scope)(f:Addr)(cd:Value)(A:Around)(outer:List Env)(s:Shared)(H:Hp)(E:XK):Cx where
 prog:=P
 w:=w
 K:=K
 mg:=mg
 base:=base
 A:=A.deeper (envOfC qual scope s.heap.objs.size f cd)
 N:=N
 s₀:=s
 H₀:=H
 env:=envOfC qual scope s.heap.objs.size f cd
 outer:=outer
 stack:=envOfC qual scope s.heap.objs.size f cd::outer
 ex:=[]
 calm:=true
 fn:=fun _=>true
 pn:=[]
 xe:=fun e s'=>wpAny (model P w) (A.deeper (envOfC qual scope s.heap.objs.size f cd)) (leaving (envOfC qual scope s.heap.objs.size f cd) e) (fun _ s''=>CX outer H s E e s'') (fun e' s''=>CX outer H s E e' s'') s'
def jT{sc:Scope}{n:Nat}{x:Str}(h:sc.names.lookup x=some .cell):∃c,(cellsFrom n sc.names []).lookup x=some c:=by
 have q:=PySem.W.cellsFrom_some sc.names n [] (.inl h)
 exact Option.isSome_iff_exists.mp q
def me{CX:pI}{P:Program}{w:World}{K:Vo}{mg:Vr}{base:Heap}{N ps:Vs}{qual:Str}{scope:Scope}{f:Addr}{cd:Value}{A:Around}{outer:List Env}{s s1:Shared}{H:Hp}{E:XK}{us:Vv}{vs:List V}(ht:1<=s1.toks)
  (S:dQ N ps scope) (hd:A.handled=none) (e0:p4 P w K mg base A outer s H) (hl:vs.length=ps.length) (r:Vals vs us)
  (x:InCallC s s.heap.objs.size (bindL (envOfC qual scope s.heap.objs.size f cd).kindOf (ps.zip us) fun _=>none) (cellsFrom (s.heap.objs.size+1) scope.names []) (bindC (envOfC qual scope s.heap.objs.size f cd).kindOf (ps.zip us) fun _=>none) s1) :
  Inv (kF CX P w K mg base N qual scope f cd A outer s H E) [] (dk N vs) H s1:=by
 have hpl:ps.length<=N.length:=by have:=FA List.length S.pre;rw[G3]at this;omega
 obtain⟨h1,tk,rfl,hk⟩:=x.done
 have Cv:∀b:Addr,b ∉ (kF CX P w K mg base N qual scope f cd A outer s H E).ex:=fun b z=>absurd (show b∈([]:List Addr)from z) (by simp)
 refine⟨⟨e0.mod,S.kind,rfl,rfl,EZ _,fun y z c h1 h2=>?_,fun y hy=>?_,fun y c _ h=>?_,fun _=>hd,Around.frames_deeper e0.frames,.inr ⟨rfl,rfl⟩,fun b z=>absurd z (Cv b),e0.bs,e0.Bv,fun b _ _=>Cv b,fun b z=>absurd z (Cv b),e0.Aa,e0.BG⟩,
  rfl,e0.bare,Un.kept hk,⟨_,x.toInCall.ns,fun i y v h1 h2 h3=>?_⟩,fun y c h=>⟨_,x.cell y c h⟩,e0.hok.fresh (EZ _),fun y c h=>?_,fun p hp=>absurd (show p∈([]:Va)from hp) (by simp),e0.hok.kept hk,?_,ht⟩
 ·exact name_of_addr x.apart (Ga h1) (Ga h2)
 ·have hy:scope.names.lookup y=some .cell\/scope.names.lookup y=some .free:=hy
  rcases hy with hy|hy
  ·exact jT hy
  ·exact absurd rfl (S.B8 _ (Ga hy))
 ·exact GQ (x.above y c (Ga h))
 ·have hi:i < vs.length:=by
   unfold dk at h2
   by_cases hi:i < vs.length
   ·exact hi
   ·rw[Gf (by simpa using hi)]at h2
    rw[F9]at h2
    split at h2<;>cases h2
  have ha:vs[i]?=some v:=by
   unfold dk at h2
   rw[FY (by simpa using hi),Fv]at h2
   cases e:vs[i]? with
   |none=>rw[e]at h2;cases h2
   |some a=>rw[e]at h2;cases h2;rfl
  obtain⟨u,hu,rv⟩:=r.get ha
  have hp:ps[i]?=some y:=by
   rw[<-S.pre,List.getElem?_take_of_lt (by omega)];exact h1
  have DO:ps.Nodup:=by rw[<-S.pre];exact S.nd.sublist (List.take_sublist _ _)
  refine⟨u,rv,?_⟩
  rcases S.par y (F5 hp)with k|k
  ·exact .inl ⟨k,ip DO hp hu k⟩
  ·obtain⟨c,e⟩:=jT (n:=s.heap.objs.size+1) k
   refine .inr ⟨.inl k,c,e,?_⟩
   have q:=x.cell y c e
   rw[iq DO hp hu (by show scope.names.lookup y≠_;rw[k];decide)]at q
   exact q
 ·exact e0.hok.fresh (GQ (x.above y c (Ga h)))
 ·unfold dk
  show _=N.length
  rw[EX,E2,F0]
  omega
def nr{fd:FuncData}{ps:Vs}{us:Vv}(h:FL fd ps)(hl:us.length=ps.length):∃n v r,ps.zip us=(n,v)::r/\fd.scope.names.lookup n=some .local:=by
 cases ps with
 |nil=>exact h.elim
 |cons n r=>cases us with
  |nil=>cases hl
  |cons v us=>exact⟨n,v,_,rfl,h⟩
def xr{M:Model}{A:Around}{E:Vq}{s₀ s:Shared}{m cm:Vr}{env:Env}{n:Str}{v:Value}{Q:Unit->Shared->Prop}(x:InCallC s₀ env.locals m env.cells cm s)(hk:env.scope.kind = .function)(hl:env.kindOf n=some .local)
  (h:∀s',InCallC s₀ env.locals (fun y=>if y=n then some v else m y) env.cells cm s'->1<=s'.toks->Q () s'):wpAny M A (storeName env n v) Q E s:=by
 refine wpAny_storeName_local hl x.toInCall.ns (fun h' hn' hs'=>h _ ⟨⟨?_,hn',fun b o e=>?_,x.toInCall.fresh⟩,fun k c hc=>?_,x.apart,x.above⟩ (FW (FE _))) (by rw[hk];rfl)
 ·obtain⟨h₁,tk,rfl⟩:=x.toInCall.same
  exact⟨h',_,rfl⟩
 ·exact hs'.extBut b o (Ft (E6 (E5 e) x.toInCall.fresh)) (x.toInCall.keep b o e)
 ·exact(x.cell k c hc).sameBut hs' (Hx (x.above k c (mem_of_lookup hc)))
def nu{M:Model}{A:Around}{E:Vq}{s:Shared}{scope:Scope}{globals:Addr}{binds:List (Str×Value)}{qual:Str}{func:Option Addr}{code:Value}{builtins:Addr}{Q:Env->Shared->Prop}
  (ht:1<=s.toks\/∃n v r,binds=(n,v)::r/\scope.names.lookup n=some .local) (hk:scope.kind = .function)
  (hkind:∀x∈binds,scope.names.lookup x.1=some .local\/(scope.names.lookup x.1=some .cell/\((cellsFrom (s.heap.objs.size+1) scope.names []).lookup x.1).isSome=true))
  (hQ:∀env,env=newEnv scope s.heap.objs.size globals (cellsFrom (s.heap.objs.size+1) scope.names []) qual func code none builtins->
   ∀s',InCallC s env.locals (bindL env.kindOf binds fun _=>none) env.cells (bindC env.kindOf binds fun _=>none) s'->1<=s'.toks->Q env s') :
  wpAny M A (newFunctionEnv scope globals [] binds qual func code none builtins) Q E s:=by
 rcases ht with ht|⟨n,v,r,rfl,hl⟩
 ·exact Fj ht (wpAny_newFunctionEnv_cells hk hkind fun env he s' x ht=>hQ env he s' x ht)
 ·simp only[newFunctionEnv,Option.isSome_none,Fd,F1]
  refine EW (wpAny_alloc ?_)
  refine EW (wpAny_layCells _ (fun name kind cells=>by cases hkc:kind == NameKind.cell<;>simp[hkc]) _ _ _ _ ?_)
  have ok:=cellsFrom_ok scope.names (s.heap.push { cls:=.type "frame",data:=.dict #[] }) (s.heap.objs.size+1) [] ⟨fun _ _ hm=>(nomatch hm),List.Pairwise.nil⟩ (by rw[GU];exact EZ _)
  rw[GU]at ok
  rw[show({ s with heap:=s.heap.push { cls:=.type "frame",data:=.dict #[] } }:Shared).heap.objs.size=s.heap.objs.size+1 from GU ..]
  rw[List.forIn_cons]
  refine EW (EW (EW (xr (s₀:=s) (env:=newEnv scope s.heap.objs.size globals (cellsFrom (s.heap.objs.size+1) scope.names []) qual func code none builtins)
   ⟨⟨⟨_,_,rfl⟩,(Heap.Ns.new s.heap (.type "frame")).keeps (pushCells_keeps _ _),fun b o e=>pushCells_keeps _ _ b o (EY _ e),EZ _⟩,
   fun n c hc=>(ok.empty n c (mem_of_lookup hc)).1,ok.apart,fun n c hm=>(ok.empty n c hm).2⟩ hk hl fun s' x' ht=>E7 ?_)))
  refine Fj ht (wpAny_bindParams (s₀:=s) (env:=newEnv scope s.heap.objs.size globals (cellsFrom (s.heap.objs.size+1) scope.names []) qual func code none builtins) _ (fun _ _ _=>rfl) hk r _ _ s' _ x' (fun y hy=>hkind y (Fi _ hy)) fun s'' x'' ht=>E7 (hQ _ rfl s'' ?_ ht))
  have hl':(newEnv scope s.heap.objs.size globals (cellsFrom (s.heap.objs.size+1) scope.names []) qual func code none builtins).kindOf n=some .local:=hl
  unfold bindL bindC
  rw[if_pos hl',if_pos hl']
  exact x''
def vJ{CX:pI}{P:Program}{w:World}{K:Vo}{mg:Vr}{base:Heap}{k:Nat}{f:Addr}{name qual:Str}{params:Arguments}{body:List Stmt}{scope:Scope}{dV kV doc pm cdv ct oc:Value}{an od:Option Addr}
  {osl:Array (Option Value)} {N ps:Vs} {sp:Sp} (lk:K.lookup f=some ⟨oc,od,.func (PySem.W.fnOf name qual params body scope dV kV doc pm an cdv ct),osl⟩) (hcd:PySem.W.codeIn K cdv qual=true) (S:dQ N ps scope)
  (len:∀vs H Q E,sp vs H Q E->vs.length=ps.length)
  (hbody:∀(A:Around) (outer:List Env) (s:Shared) (H:Hp) (vs:List V) (Q:VK) (E:XK),Room k (A.deeper (envOfC qual scope s.heap.objs.size f cdv))->sp vs H Q E->
   ∃t,AQ (kF CX P w K mg base N qual scope f cdv A outer s H E) body t/\t { nx:=fun _ H'=>Q .non H',rt:=Q } (dk N vs) H) :
  hU P w K mg base CX (k+1) f (PySem.W.fnOf name qual params body scope dV kV doc pm an cdv ct) ps sp:=by
 refine⟨len,fun A outer s H args us vs Q E hr ht0 e0 hb r BV=>?_⟩
 have hl:=len _ _ _ _ BV
 have KX:K.In s.heap:=e0.mod.C3.keeps fun b o e=>(e0.bs b o e).1
 have lim:s.heap.NoLimit:=e0.mod.nolimit.keeps fun b o e=>(e0.bs b o e).1
 have hkind:∀y∈ps.zip us,scope.names.lookup y.1=some .local\/(scope.names.lookup y.1=some .cell/\((cellsFrom (s.heap.objs.size+1) scope.names []).lookup y.1).isSome=true):=fun⟨n,v⟩ hy=>by
  rcases S.par n (List.of_mem_zip hy).1 with q|q
  ·exact .inl q
  ·exact .inr ⟨q,PySem.W.cellsFrom_some _ _ _ (.inl q)⟩
 refine codeAny_call_function hr.depth (KX _ _ lk) rfl S.co S.gen rfl (PySem.W.codeRec_of KX hcd) (hb _ _ _ _ ?_)
 refine nu (ht0.imp id fun z=>nr z (by rw[<-r.length,hl])) S.kind hkind fun env he s1 x htk=>?_
 subst he
 refine⟨lim.keeps x.toInCall.keep,codeAny_func ?_⟩
 obtain⟨t,ht,hq⟩:=hbody A outer s H vs Q E (hr.deeper _) BV
 have I:Inv (kF CX P w K mg base N qual scope f cdv A outer s H E) [] (dk N vs) H s1:=me htk S hr.hd e0 hl r x
 refine Gk (ht [] s1 (dk N vs) H _ I hq) (fun fl s' hs=>?_) fun e s' hs=>hs
 have fin:∀{σ':St} {H':Hp} {v:V} {u:Value},Inv (kF CX P w K mg base N qual scope f cdv A outer s H E) [] σ' H' s'->RelV v u->Q v H'->CE outer P w H s Q u s':=
  fun{σ' H' v u} J rv q=>⟨v,H',J.os,J.bare,J.base,J.hok,rv,q⟩
 cases fl with
 |ret u=>
  obtain⟨v,σ',H',J,rv,q⟩:=hs
  exact fin J rv q
 |next=>
  obtain⟨σ',H',J,q⟩:=hs
  exact fin (v:=V.non) (u:=Value.none) J rfl q
 |brk=>
  obtain⟨_,_,_,q⟩:=hs
  exact False.elim q
 |cont=>
  obtain⟨_,_,_,q⟩:=hs
  exact False.elim q
section
variable {X:Cx} {x:Str} {p pos:Pos} {e:Expr} {es:List Expr} {t:TA} {id T:String} {r:List V->Hp->VK->Prop}
def yc(r:List V->Hp->VK->Prop)(t:TA):TE:=fun σ H Q=>t σ H fun vs H1=>r vs H1 Q
def nv(hc:cz X (.builtin id) r)(hg:Gl X x)(hm:X.mg x=none)(hv:bootBuiltins x=some (.builtin id))(ha:PA X (e::es) t)(hn:x ≠ "__name__":=by decide)(hdb:(x == ("__debug__":Str))=false:=by decide)
  (he:starEach (e::es) X.env=(false,eval e X.env)::starEach es X.env:=by rfl) (hpl:(backTo pos (starEach es X.env)).any (·.1)=false:=by rfl):PE X (.Call (.Name x p) (e::es) [] pos) (yc r t):=by
 intro pins s σ H Q I h
 refine F3 (cK I hg hm hv ?_ hn hdb)
 exact PyProof.Rows.callWith_builtin1 (yS (ha pos pins s σ H _ I h) fun us s1 ⟨vs,H1,I1,r1,q1⟩=>hc pins s1 σ H1 vs us Q I1 r1 q1) he hpl
def mf(hc:cz X (.type T) r)(hg:Gl X x)(hm:X.mg x=none)(hv:bootBuiltins x=some (.type T))(ha:PA X (e::es) t)(hn:x ≠ "__name__":=by decide)(hdb:(x == ("__debug__":Str))=false:=by decide)
  (he:starEach (e::es) X.env=(false,eval e X.env)::starEach es X.env:=by rfl) (hpl:(backTo pos (starEach es X.env)).any (·.1)=false:=by rfl):PE X (.Call (.Name x p) (e::es) [] pos) (yc r t):=by
 intro pins s σ H Q I h
 refine F3 (cK I hg hm hv ?_ hn hdb)
 exact Fz (yS (ha pos pins s σ H _ I h) fun us s1 ⟨vs,H1,I1,r1,q1⟩=>hc pins s1 σ H1 vs us Q I1 r1 q1) he hpl
end
end L2
namespace HT
open PySem PyProof.Rows
section
open PySem.SeqAt
open PySem.AutoSeq1 (wpAny_loadPart')
open PySem.MeetsSeq PySem.MeetsSeq2 PySem.MeetsSeq3
end
section
variable {prog:Program} {w:World} {A:Around} {E:Vq} {s:Shared}
def p6{t b:Addr}{vs ws:Vv}{Q:Vq}(ht:IsTup s.heap t vs.toArray)(hb:IsTup s.heap b ws.toArray)(hv:vs≠[])
  (h1:ws=[]->Q (.ref t) s) (h2:ws≠[]->Q (.ref s.heap.objs.size) { s with heap:=s.heap.push { cls:=.type "tuple",data:=.seq (vs++ws).toArray } })
  (hsz:vs.length+ws.length<=sizeLine):wpAny (model prog w) A (binaryOp .Add (.ref t) (.ref b)) Q E s:=by
 obtain⟨⟨cls,dd,data,sl⟩,ho,hc,n,hd⟩:=id ht
 obtain⟨⟨C_,dd2,data2,sl2⟩,ho2,hc2,n2,hd2⟩:=id hb
 simp only at hc hd hc2 hd2
 subst hc hd hc2 hd2
 have e:vs.toArray++ws.toArray=(vs++ws).toArray:=by simp
 by_cases hw:ws=[]
 ·exact concat_meets ⟨_,ho,rfl⟩ ⟨_,ho2,rfl⟩ noFill_tuple_add seq_tuple_add GV GO (GC _ _)
   (tuple_addW1 t b vs.toArray ws.toArray n n2 dd dd2 sl sl2 (by simpa using hv) (by simp[hw])) ⟨ho,ho2,h1 hw⟩
 ·refine concat_meets ⟨_,ho,rfl⟩ ⟨_,ho2,rfl⟩ noFill_tuple_add seq_tuple_add GV GO (GC _ _)
   (tuple_addW2 t b vs.toArray ws.toArray n n2 dd dd2 sl sl2 (by simpa using hv) (by simpa using hw) (by rw[E4,E4];exact hsz)) ⟨ho,ho2,?_⟩
  rw[e]
  exact h2 hw
noncomputable def yY(n d:Nat):Option Int->Nat
 |none=>d
 |some v=>if v < 0 then (v+(n:Int)).toNat else min v.toNat n
def gi(n d:Nat):yY n d none=d:=rfl
def iX(n d k:Nat):yY n d (some (k:Int))=min k n:=by
 show(if (k:Int) < 0 then ((k:Int)+(n:Int)).toNat else min (k:Int).toNat n)=min k n
 rw[if_neg (by omega),Int.toNat_natCast]
def tj(n d:Nat)(hd:d<=n)(o:Option Int):yY n d o<=n:=by
 cases o with
 |none=>exact hd
 |some v=>
  show(if v < 0 then (v+(n:Int)).toNat else min v.toNat n)<=n
  by_cases hv:v < 0
  ·rw[if_pos hv];omega
  ·rw[if_neg hv];exact Nat.min_le_right _ _
def ls(v:Int)(n d:Nat):(if v < 0 then max (v+(n:Int)) 0 else min v (n:Int))=((yY n d (some v):Nat):Int):=by
 show(if v < 0 then max (v+(n:Int)) 0 else min v (n:Int))=(((if v < 0 then (v+(n:Int)).toNat else min v.toNat n):Nat):Int)
 by_cases hv:v < 0
 ·simp only[if_pos hv];omega
 ·simp only[if_neg hv];omega
def kG(lo hi:Option Int)(n:Nat):Builtin.Slice.sliceAdjust lo hi 1 (n:Int)=(((yY n 0 lo:Nat):Int),((yY n n hi:Nat):Int)):=by
 have h1:¬((1:Int) < 0):=by omega
 unfold Builtin.Slice.sliceAdjust
 simp only[h1,F1]
 refine Prod.ext ?_ ?_
 ·cases lo with
  |none=>rfl
  |some v=>exact ls v n 0
 ·cases hi with
  |none=>rfl
  |some v=>exact ls v n n
def kH(i j:Nat):Builtin.Slice.slicePlaces (i:Int) (j:Int) 1=j - i:=by
 unfold Builtin.Slice.slicePlaces
 have h1:(1:Int) > 0:=by omega
 simp only[h1,Gg,Int.ediv_one]
 split<;>omega
def gj{v:Value}{o:Option Int}{Q:Option Int->Shared->Prop}(p:IsPart v o)(h:Q o s):wpAny (model prog w) A (Builtin.Slice.slicePartIndex v) Q E s:=by
 cases p with
 |none=>exact slicePart_none h
 |int i t=>exact slicePart_int h
def cA{sl:Addr}{vl vu:Value}{lo hi:Option Int}{n:Nat}{Q:Int×Int×Nat->Shared->Prop}(hs:s.heap.IsSliceOf sl vl vu .none)(pl:IsPart vl lo)(pu:IsPart vu hi)
  (h:Q (((yY n 0 lo:Nat):Int),1,yY n n hi - yY n 0 lo) s):wpAny (model prog w) A (Builtin.Slice.sliceApplied (.ref sl) (pure (n:Int))) Q E s:=by
 obtain⟨os,hos,hcs,hds⟩:=id hs
 unfold Builtin.Slice.sliceApplied Builtin.Slice.sliceFields
 refine EW (EW (wpAny_field hos hds (x:=vl) rfl (EW (wpAny_field hos hds (x:=vu) rfl (EW (wpAny_field hos hds (x:=.none) rfl (E7 ?_)))))))
 refine EW (slicePart_none ?_)
 show wpAny _ _ (if ((1:Int) == 0)=true then _ else _) _ _ s
 rw[if_neg (by decide)]
 refine EW (gj pl (EW (gj pu (EW (E7 ?_)))))
 show wpAny _ _ (match Builtin.Slice.sliceAdjust lo hi 1 (n:Int)with|(lo,hi)=>pure (lo,(1:Int),Builtin.Slice.slicePlaces lo hi 1)) _ _ s
 rw[kG lo hi n]
 show wpAny _ _ (pure (((yY n 0 lo:Nat):Int),(1:Int),Builtin.Slice.slicePlaces ((yY n 0 lo:Nat):Int) ((yY n n hi:Nat):Int) 1)) _ _ s
 rw[kH]
 exact E7 h
def nw(xs:Vw)(i k:Nat):((List.range k).filterMap fun(m:Nat)=>xs[((i:Int)+(m:Int) * 1).toNat]?).toArray=((xs.toList.drop i).take k).toArray:=by
 have e:(fun(m:Nat)=>xs[((i:Int)+(m:Int) * 1).toNat]?)=fun m=>xs[i+m]?:=by
  funext m
  have:((i:Int)+(m:Int) * 1).toNat=i+m:=by omega
  rw[this]
 rw[e]
 have:=pick_run xs i k
 rw[List.filterMap_map]at this
 have e2:((fun x=>xs[x]?) ∘ fun x=>i+x)=fun m=>xs[i+m]?:=rfl
 rw[e2]at this
 rw[this]
def eF{t sl:Addr}{items:Vw}{vl vu:Value}{lo hi:Option Int}{Q:Vq}(ht:IsTup s.heap t items)(hs:s.heap.IsSliceOf sl vl vu .none)(pl:IsPart vl lo)(pu:IsPart vu hi)
  (hw:¬(yY items.size 0 lo=0/\yY items.size items.size hi=items.size))
  (h:Q (.ref s.heap.objs.size) { s with heap:=s.heap.push { cls:=.type "tuple",data:=.seq ((items.toList.drop (yY items.size 0 lo)).take (yY items.size items.size hi - yY items.size 0 lo)).toArray } })
  (hsz:items.size<=sizeLine):wpAny (model prog w) A (getItem (.ref t) (.ref sl)) Q E s:=by
 have Bb:sizeOk (.seq ((items.toList.drop (yY items.size 0 lo)).take (yY items.size items.size hi - yY items.size 0 lo)).toArray):=by
  show((items.toList.drop (yY items.size 0 lo)).take (yY items.size items.size hi - yY items.size 0 lo)).toArray.size<=sizeLine
  rw[E4,G3,Gn,Hi]
  omega
 have hj:yY items.size items.size hi<=items.size:=tj _ _ (EZ _) hi
 obtain⟨os,hos,hcs,hds⟩:=id hs
 have Db:s.TypeIs (.ref sl) "slice":=⟨os,hos,hcs⟩
 unfold getItem
 try with_reducible refine Gu ?_
 first|refine EW (E7 ?_)|skip
 refine EW (wpAny_sequenceKey ht.typeIs (by decide) ?_)
 refine EW (wpAny_callSpecial?_slot (name:=Str.ofString "__getitem__") ht.typeIs FD
  (wpAny_call_entry FD ht.typeIs entry_tuple_getitem ?_ (args_tuple_getitem _ _)))
 show wpAny _ _ (Builtin.Tuple.tupleItemsOf (.ref t) >>= _) _ _ s
 refine EW (tupleItemsOf_ ht ?_)
 refine EW (GW Db ?_)
 rw[if_pos (by decide)]
 refine EW (cA hs pl pu ?_)
 have hno:¬((((yY items.size 0 lo:Nat):Int) == 0&&(1:Int) == 1&&(yY items.size items.size hi - yY items.size 0 lo) == items.size)=true):=by
  intro q
  rw[Gd,Gd]at q
  have q1:((yY items.size 0 lo:Nat):Int)=0:=eq_of_beq q.1.1
  have q2:yY items.size items.size hi - yY items.size 0 lo=items.size:=eq_of_beq q.2
  exact hw ⟨by omega,by omega⟩
 show wpAny _ _ (if (((yY items.size 0 lo:Nat):Int) == 0&&(1:Int) == 1&&(yY items.size items.size hi - yY items.size 0 lo) == items.size)=true then _ else _) _ _ s
 rw[if_neg hno,nw]
 first
  |exact EW (m:=Builtin.Tuple.tupleExact _) (F7 (E7 ⟨_,rfl,E7 h⟩) Bb)
  |exact EW (m:=Builtin.Tuple.tupleExact _) (F7 (EW (E7 (E7 ⟨_,rfl,E7 h⟩))) Bb)
  |exact EW (EW (m:=Builtin.Tuple.tupleExact _) (F7 (E7 (E7 ⟨_,rfl,E7 h⟩)) Bb))
  |exact EW (EW (m:=Builtin.Tuple.tupleExact _) (F7 (E7 ⟨_,rfl,E7 h⟩) Bb))
end
end HT
namespace L2
open PySem PySem.Spec PyProof.Rows
abbrev TO:=St->Hp->(Option Int->Hp->Prop)->Prop
def PO(X:Cx)(e:Option Expr)(t:TO):Prop:=
 ∀(pins:Va) (s:Shared) (σ:St) (H:Hp) (Q:Option Int->Hp->Prop),Inv X pins σ H s->t σ H Q->
  wpAny (model X.prog X.w) X.A (evalPart e X.env) (fun u s'=>∃o H',Inv X pins σ H' s'/\IsPart u o/\Q o H') X.xe s
noncomputable def p7:TO:=fun _ H Q=>Q none H
noncomputable def vK(t:TE):TO:=fun σ H Q=>t σ H fun x H1=>∃i,x = .int i/\Q (some i) H1
section
variable {X:Cx} {e:Expr} {te:TE} {lo hi:Option Expr} {tl th:TO} {pos p2:Pos}
def p8:PO X none p7:=by
 intro pins s σ H Q I h
 rw[evalPart_none]
 exact E7 ⟨none,H,I,.none,h⟩
def p9(h:PE X e te):PO X (some e) (vK te):=by
 intro pins s σ H Q I hw
 rw[evalPart_some]
 refine yS (h pins s σ H _ I hw) fun u s1 ⟨x,H1,I1,r1,q1⟩=>?_
 obtain⟨i,rfl,q⟩:=q1
 obtain⟨t,rfl⟩:=r1
 exact⟨some i,H1,I1,.int i t,q⟩
def u8(X:Cx)(r:V->Option Int->Option Int->Hp->VK->Prop):Prop:=
 ∀(pins:Va) (s:Shared) (σ:St) (H:Hp) (x:V) (v vl vu:Value) (lo hi:Option Int) (sl:Addr) (Q:VK),Inv X pins σ H s->RelV x v->s.heap.IsSliceOf sl vl vu .none->IsPart vl lo->IsPart vu hi->r x lo hi H Q->
  ∃T id,typeLookup (.type T) "__getitem__" = pure (some (.builtin id))/\s.TypeIs v T/\wpAny (model X.prog X.w) X.A (getItem v (.ref sl)) (EP X pins σ Q) X.xe s
def yt(r:V->Option Int->Option Int->Hp->VK->Prop)(te:TE)(tl th:TO):TE:=fun σ H Q=>te σ H fun x H1=>tl σ H1 fun l H2=>th σ H2 fun u H3=>r x l u H3 Q
def ny{r:V->Option Int->Option Int->Hp->VK->Prop}(hr:u8 X r)(he:PE X e te)(hl:PO X lo tl)(hu:PO X hi th):PE X (.Subscript e (.Slice lo hi none p2) pos) (yt r te tl th):=by
 intro pins s σ H Q I h
 refine Subscript_ (yS (he pins s σ H _ I h) fun v s1 ⟨x,H1,I1,r1,q1⟩=>?_)
 refine wpAny_Slice (yS (hl pins s1 σ H1 _ I1 q1) fun vl s2 ⟨l,H2,I2,pl,q2⟩=>yS (hu pins s2 σ H2 _ I2 q2) fun vu s3 ⟨u,H3,I3,pu,q3⟩=>?_)
 rw[evalPart_none]
 refine E7 ?_
 have I4:Inv X pins σ H3 { s3 with heap:=s3.heap.push { cls:=.type "slice",data:=.fields #[vl,vu,.none] } }:=I3.kept (t':=s3.toks) fun b ob q=>EY _ q
 obtain⟨T,id,hT,ht,hg⟩:=hr pins { s3 with heap:=s3.heap.push { cls:=.type "slice",data:=.fields #[vl,vu,.none] } } σ H3 x v vl vu l u s3.heap.objs.size Q I4 r1 (Heap.IsSliceOf.new ..) pl pu q3
 show wpAny (model X.prog X.w) X.A (subscriptTail e (.Slice lo hi none p2) v (.ref s3.heap.objs.size)) (EP X pins σ Q) X.xe { s3 with heap:=s3.heap.push { cls:=.type "slice",data:=.fields #[vl,vu,.none] } }
 exact tail_any (ops:=[.ref s3.heap.objs.size,v]) ht hT hg (by with_unfolding_all rfl)
noncomputable def gk(xs:List V)(lo hi:Option Int):List V:=(xs.drop (HT.yY xs.length 0 lo)).take (HT.yY xs.length xs.length hi - HT.yY xs.length 0 lo)
def fB(xs:List V)(lo hi:Option Int):(gk xs lo hi).length<=xs.length:=by
 unfold gk
 rw[G3,Gn]
 omega
noncomputable def xt(K:Vo):V->Option Int->Option Int->Hp->VK->Prop:=fun x lo hi H Q=>∃a xs,x = .ref a/\z7 K H a xs/\
 ¬(HT.yY xs.length 0 lo=0/\HT.yY xs.length xs.length hi=xs.length)/\∀p,H p=none->Q (.ref p) (upd H p (.tup (gk xs lo hi)))
def tm:u8 X (xt X.K):=by
 intro pins s σ H x v vl vu lo hi sl Q I rx hs pl pu h
 obtain⟨a,xs,rfl,hx,hw,q⟩:=h
 cases rx
 obtain⟨its,r,ht,hz⟩:=I.tuple hx
 have hlen:its.toArray.size=xs.length:=by rw[E4];exact r.length.symm
 refine⟨"tuple",_,FD.lookup,ht.typeIs,?_⟩
 refine HT.eF ht hs pl pu (by rw[hlen];exact hw) ?_ (by rw[hlen];exact hz)
 rw[hlen]
 refine⟨.ref s.heap.objs.size,_,I.laid (t':=s.toks) (o:=.tup (gk xs lo hi)) (fun b ob q=>EY _ q) (EZ _) ?_,rfl,q _ (I.hok.fresh (EZ _))⟩
 exact⟨Fl (fB xs lo hi) hz,_,(r.drop (HT.yY xs.length 0 lo)).take (HT.yY xs.length xs.length hi - HT.yY xs.length 0 lo),zR.new _ _⟩
def vL(K:Vo):R2:=fun x y H Q=>∃a b xs ys,x = .ref a/\y = .ref b/\z7 K H a xs/\z7 K H b ys/\xs≠[]/\xs.length+ys.length<=sizeLine/\
 (ys=[]->Q (.ref a) H)/\(ys≠[]->∀p,H p=none->Q (.ref p) (upd H p (.tup (xs++ys))))
def Vals.AE{xs:List V}{us:Vv}(r:Vals xs us):us=[]↔xs=[]:=by
 cases r with
 |nil=>simp
 |cons _ _=>simp
def p_:eZ X (binaryOp .Add) (vL X.K):=by
 intro pins s σ H x y v u Q I rx ry h
 obtain⟨a,b,xs,ys,rfl,rfl,ha,hb,hx,hz,q1,q2⟩:=h
 cases rx
 cases ry
 obtain⟨its,r1,p1,_⟩:=I.tuple ha
 obtain⟨its2,r2,p2,_⟩:=I.tuple hb
 refine HT.p6 p1 p2 (fun z=>hx (r1.AE.mp z)) (fun z=>⟨.ref a,H,I,rfl,q1 (r2.AE.mp z)⟩) (fun z=>?_) (by rw[<-r1.length,<-r2.length];exact hz)
 refine⟨.ref s.heap.objs.size,_,I.laid (t':=s.toks) (o:=.tup (xs++ys)) (fun b ob q=>EY _ q) (EZ _) ?_,rfl,q2 (fun w=>z (r2.AE.mpr w)) _ (I.hok.fresh (EZ _))⟩
 exact⟨by rw[EX];exact hz,_,r1.append r2,zR.new _ _⟩
end
noncomputable def pJ(n:Nat)(i:Int):Option Nat:=if 0<=i then (if i < n then some i.toNat else none) else if -(n:Int)<=i then some (i+n).toNat else none
noncomputable def zN{α:Type}(xs:List α)(i:Int):Option α:=(pJ xs.length i).bind fun j=>xs[j]?
def lu{n:Nat}{i:Int}{j:Nat}(h:pJ n i=some j):seqIndex? i n=some j/\j < n/\-(n:Int)<=i/\i < n:=by
 unfold pJ at h
 by_cases h0:0<=i
 ·rw[if_pos h0]at h
  by_cases h1:i < n
  ·rw[if_pos h1]at h
   have e:i.toNat=j:=FI h
   exact⟨by rw[seqIndex_of h0 h1,e],by omega,by omega,h1⟩
  ·rw[if_neg h1]at h;cases h
 ·rw[if_neg h0]at h
  by_cases h1:-(n:Int)<=i
  ·rw[if_pos h1]at h
   have e:(i+n).toNat=j:=FI h
   exact⟨by rw[seqIndex_neg (by omega) h1,e],by omega,h1,by omega⟩
  ·rw[if_neg h1]at h;cases h
def iY{α:Type}{xs:List α}{i:Int}{v:α}(h:zN xs i=some v):∃j,seqIndex? i xs.length=some j/\xs[j]?=some v/\j < xs.length/\-(xs.length:Int)<=i/\i < xs.length:=by
 unfold zN at h
 cases e:pJ xs.length i with
 |none=>rw[e]at h;cases h
 |some j=>
  rw[e]at h
  obtain⟨h1,h2,h3,h4⟩:=lu e
  exact⟨j,h1,h,h2,h3,h4⟩
def dR{α:Type}{xs:List α}{j:Nat}{v:α}(h:xs[j]?=some v):zN xs (j:Int)=some v:=by
 have hj:j < xs.length:=(Fw.mp h).1
 have e:pJ xs.length (j:Int)=some j:=by
  unfold pJ
  rw[if_pos (by omega),if_pos (by omega)];simp
 unfold zN;rw[e];exact h
def eG(b:Expr):Prop:=∀o i,subscripted b false o i=operate [o,i] (getItem o i)
def tq(X:Cx)(r:R2):Prop:=
 ∀(value slice:Expr) (pins:Va) (s:Shared) (σ:St) (H:Hp) (x y:V) (v u:Value) (Q:VK),Inv X pins σ H s->RelV x v->RelV y u->r x y H Q->
  subscripted slice false v u=operate [v,u] (getItem v u)->wpAny (model X.prog X.w) X.A (subscriptTail value slice v u) (EP X pins σ Q) X.xe s
def tt(X:Cx)(id:String)(r:V->List V->Hp->VK->Prop):Prop:=
 ∀(pins:Va) (s:Shared) (σ:St) (H:Hp) (x:V) (xs:List V) (v:Value) (us:Vv) (Q:VK),Inv X pins σ H s->RelV x v->Vals xs us->r x xs H Q->
  wpAny (model X.prog X.w) X.A (call (.builtin id) (v::us)) (EP X pins σ Q) X.xe s
section
variable {X:Cx} {a b:Expr} {ta tb:TE} {pos:Pos}
def rF{r:R2}(hr:tq X r)(ha:PE X a ta)(hb:PE X b tb)(hs:eG b):PE X (.Subscript a b pos) (vz r ta tb):=by
 intro pins s σ H Q I h
 exact Subscript_ (sT ha hb I h fun v u s2 x y H2 I2 rx ry q=>hr a b pins s2 σ H2 x y v u Q I2 rx ry q (hs _ _))
def xu(K:Vo):R2:=fun x y H Q=>∃p xs i v,x = .ref p/\y = .int i/\SqL K H p xs/\zN xs i=some v/\Q v H
def xv(K:Vo):R2:=fun x y H Q=>∃p xs i v,x = .ref p/\y = .int i/\z7 K H p xs/\zN xs i=some v/\Q v H
def xx:R2:=fun x y H Q=>∃z i c,x = .str z/\y = .int i/\z.length<=sizeLine/\zN z.cps.toList i=some c/\Q (.str ⟨#[c]⟩) H
def lv:tq X (xu X.K):=by
 intro value slice pins s σ H x y v u Q I rx ry h hs
 obtain⟨p,xs,i,z,rfl,rfl,hq,he,q⟩:=h
 cases rx
 obtain⟨t,rfl⟩:=ry
 obtain⟨its,r,pl,hz⟩:=I.list hq
 obtain⟨j,h1,h2,h3,h4,h5⟩:=iY he
 obtain⟨w,ew,rw'⟩:=r.get h2
 have hl:=r.length
 have hn:=e8
 have fin:EP X pins σ Q w s:=⟨z,H,I,rw',q⟩
 by_cases h0:0<=i
 ·have hj:i.toNat=j:=by
   rw[seqIndex_of h0 h5]at h1
   exact FI h1
  exact item_listR pl.isList h0 (by omega) (by rw[hj];simpa using ew) fin hs
 ·have hj:(i+(its.toArray.size:Int)).toNat=j:=by
   rw[seqIndex_neg (by omega) h4]at h1
   rw[E4,<-hl]
   exact FI h1
  exact subscriptTail_builtinR (x:=w) pl.isList.typeIs slot_list_getitem.lookup
   (wpAny_getItem_list_neg (Q:=fun r s'=>r=w/\EP X pins σ Q r s') pl.isList (by omega) (by rw[E4]<;>omega) (by omega) (by rw[hj];simpa using ew) ⟨rfl,fin⟩) hs
def tu:tq X (xv X.K):=by
 intro value slice pins s σ H x y v u Q I rx ry h hs
 obtain⟨p,xs,i,z,rfl,rfl,hq,he,q⟩:=h
 cases rx
 obtain⟨t,rfl⟩:=ry
 obtain⟨its,r,pl,hz⟩:=I.tuple hq
 obtain⟨j,h1,h2,h3,h4,h5⟩:=iY he
 obtain⟨w,ew,rw'⟩:=r.get h2
 have hl:=r.length
 have hn:=e8
 have fin:EP X pins σ Q w s:=⟨z,H,I,rw',q⟩
 exact subscriptTail_builtinR (x:=w) pl.typeIs slot_tuple_getitem.lookup
  (getItem_tuple (j:=j) (Q:=fun r s'=>r=w/\EP X pins σ Q r s') pl (by omega) (by omega) (by rw[E4,<-hl];exact h1) (by simpa using ew) ⟨rfl,fin⟩) hs
def tw:tq X xx:=by
 intro value slice pins s σ H x y v u Q I rx ry h hs
 obtain⟨z,i,c,rfl,rfl,hz,he,q⟩:=h
 obtain⟨t,rfl⟩:=rx
 obtain⟨t',rfl⟩:=ry
 obtain⟨j,h1,h2,h3,h4,h5⟩:=iY he
 have hl:z.cps.toList.length=z.length:=by simp[Str.length]
 rw[hl]at h1 h4 h5
 have hn:=e8
 exact tail_any (GJ s z t) slot_str_getitem.lookup (getItem_str (c:=c) (by
  have e1:decide (i < -(2 ^ 63:Int))=false:=E9 (by omega)
  have e2:decide (i>=2 ^ 63)=false:=E9 (by omega)
  rw[e1,e2,Bool.or_false]) (by rw[h1];simpa using h2) ⟨.str ⟨#[c]⟩,H,I.tok _,⟨_,rfl⟩,q⟩) hs
def kI(its:Vv)(n j:Nat)(u:Value):Obj.mapSeq (·.setIfInBounds j u) { cls:=.type "list",data:=.seq its.toArray n }={ cls:=.type "list",data:=.seq (its.set j u).toArray n }:=by
 simp[Obj.mapSeq]
theorem Inv.lst{pins:Va}{σ:St}{H:Hp}{s:Shared}{p:Addr}{xs:List V}(I:Inv X pins σ H s)(h:H p=some (.lst xs)) :
  ∃(its:Vv) (n:Nat),Vals xs its/\s.heap.get? p=some { cls:=.type "list",data:=.seq its.toArray n }/\xs.length<=sizeLine:=by
 obtain⟨z,its,n,r,e⟩:=I.hok p _ h
 exact⟨its,n,r,e,z⟩
def Inv.B9{pins:Va}{σ:St}{H:Hp}{s:Shared}{p:Addr}{xs ys:List V}{its its':Vv}{n n':Nat}{f:Obj->Obj}(I:Inv X pins σ H s)(h:H p=some (.lst xs))
  (ho:s.heap.get? p=some { cls:=.type "list",data:=.seq its.toArray n }) (hf:f { cls:=.type "list",data:=.seq its.toArray n }={ cls:=.type "list",data:=.seq its'.toArray n' }) (r:Vals ys its') (hz:ys.length<=sizeLine) (t:Nat) (ht:1<=t:=by walk_at "t") :
  Inv X pins σ (upd H p (.lst ys)) { s with heap:=s.heap.update p f,toks:=t }:=by
 have e:(s.heap.update p f).get? p=some { cls:=.type "list",data:=.seq its'.toArray n' }:=by
  rw[Heap.get?_update_self f ho (by rw[hf]<;>rfl),hf]
 refine I.write (x:=p) (e:=p) (by rw[h];trivial) (.inl rfl) (fun b u hb q=>(GX _ _ (GR hb)).trans q) ⟨_,e⟩ ?_
 exact⟨hz,its',n',r,e⟩
noncomputable def vM:V->V->V->Hp->(Hp->Prop)->Prop:=fun o i v H Q=>∃p xs k j,o = .ref p/\i = .int k/\H p=some (.lst xs)/\pJ xs.length k=some j/\Q (upd H p (.lst (xs.set j v)))
def nz:pS X vM:=by
 intro pins s σ H o i v ov iv u Q I ro ri rv h
 obtain⟨p,xs,k,j,rfl,rfl,hp,hj,q⟩:=h
 cases ro
 obtain⟨t,rfl⟩:=ri
 obtain⟨its,n,r,ho,hz⟩:=I.lst hp
 obtain⟨h1,h2,h3,h4⟩:=lu hj
 have hl:=r.length
 have hn:=e8
 have I':Inv X pins σ (upd H p (.lst (xs.set j v))) { s with heap:=s.heap.update p (Obj.mapSeq (·.setIfInBounds j u)) }:=
  I.B9 hp ho (kI its n j u) (r.set rv j) (by rw[List.length_set];exact hz) s.toks
 by_cases h0:0<=k
 ·have hk:k.toNat=j:=by
   rw[seqIndex_of h0 h4]at h1
   exact FI h1
  exact PySem.W.ki_setAt ho h0 (by omega) (by rw[E4,<-hl];exact h4) (by rw[hk];exact⟨_,I',q⟩)
 ·have hk:(k+(its.toArray.size:Int)).toNat=j:=by
   rw[seqIndex_neg (by omega) h3]at h1
   rw[E4,<-hl]
   exact FI h1
  exact PySem.W.ki_setBack ho (by omega) (by rw[E4,<-hl];exact h3) (by omega) (by rw[hk];exact⟨_,I',q⟩)
def iZ(lo hi:Option Int)(n:Nat):(sliceBounds lo hi none n).1=((HT.yY n 0 lo:Nat):Int)/\(sliceBounds lo hi none n).2.1=((HT.yY n n hi:Nat):Int)/\(sliceBounds lo hi none n).2.2=1:=by
 refine⟨?_,?_,rfl⟩
 ·cases lo with
  |none=>simp[sliceBounds,HT.yY]
  |some i=>
   simp only[sliceBounds,HT.yY,Option.getD_none,show(1:Int) > 0 by decide,Gg]
   by_cases h:i < 0
   ·simp only[h,Gg]<;>omega
   ·simp only[h,F1]<;>omega
 ·cases hi with
  |none=>simp[sliceBounds,HT.yY]
  |some i=>
   simp only[sliceBounds,HT.yY,Option.getD_none,show(1:Int) > 0 by decide,Gg]
   by_cases h:i < 0
   ·simp only[h,Gg]<;>omega
   ·simp only[h,F1]<;>omega
def hV(its:Vv)(lo hi:Option Int):slicePick its.toArray lo hi none=((its.drop (HT.yY its.length 0 lo)).take (HT.yY its.length its.length hi - HT.yY its.length 0 lo)).toArray:=by
 obtain⟨h1,h2,h3⟩:=iZ lo hi its.toArray.size
 unfold slicePick
 rw[h1,h2,h3]
 simp only[sliceRange_one,pick_run,E4]<;>rfl
noncomputable def xy(K:Vo):V->Option Int->Option Int->Hp->VK->Prop:=fun x lo hi H Q=>∃a xs,x = .ref a/\SqL K H a xs/\∀p,H p=none->Q (.ref p) (upd H p (.lst (gk xs lo hi)))
def lw:u8 X (xy X.K):=by
 intro pins s σ H x v vl vu lo hi sl Q I rx hs pl pu h
 obtain⟨a,xs,rfl,hx,q⟩:=h
 cases rx
 obtain⟨its,r,ht,hz⟩:=I.list hx
 have hlen:=r.length
 refine⟨"list",_,slot_list_getitem.lookup,ht.isList.typeIs,?_⟩
 refine wpAny_getItem_list_slice ht.isList hs pl pu .none (by simp) ?_ (by rw[E4]<;>omega)
 rw[hV,<-hlen]
 refine⟨.ref s.heap.objs.size,_,I.laid (t':=s.toks) (o:=.lst (gk xs lo hi)) (fun b ob q=>EY _ q) (EZ _) ?_,rfl,q _ (I.hok.fresh (EZ _))⟩
 exact⟨Fl (fB xs lo hi) hz,_,0,(r.drop (HT.yY xs.length 0 lo)).take (HT.yY xs.length xs.length hi - HT.yY xs.length 0 lo),Ff _ rfl⟩
def i0:eZ X (compareOp .NotIn) (fun x y H Q=>∃i j,x = .str i/\y = .str j/\Q (.bl (!(!(Builtin.Str.occurrences j i 0 j.length 1).isEmpty))) H):=by
 intro pins s σ H x y v u Q I rx ry h
 obtain⟨i,j,rfl,rfl,q⟩:=h
 obtain⟨t,rfl⟩:=rx
 obtain⟨t',rfl⟩:=ry
 exact notIn_str ⟨.bl _,H,I,rfl,q⟩
def cL:cz X (.builtin "len") (fun xs H Q=>∃p ys,xs=[.ref p]/\(SqL X.K H p ys\/z7 X.K H p ys)/\Q (.int ys.length) H):=by
 intro pins s σ H xs us Q I r h
 obtain⟨p,ys,rfl,hq,q⟩:=h
 obtain⟨u,rfl,rx⟩:=bV r
 cases rx
 have hn:=e8
 rcases hq with hq|hq
 ·obtain⟨its,r',pl,hz⟩:=I.list hq
  have hlen:=r'.length
  exact Calls.call_len_list pl.isList (by simp only[E4]<;>omega) ⟨.int ys.length,H,I.tok _,⟨s.toks+1,by rw[E4,hlen]⟩,q⟩
 ·obtain⟨its,r',pl,hz⟩:=I.tuple hq
  have hlen:=r'.length
  exact len_tuple pl (by simp only[E4]<;>omega) ⟨.int ys.length,H,I.tok _,⟨s.toks+1,by rw[E4,hlen]⟩,q⟩
def i3:cz X (.builtin "len") (fun xs H Q=>∃z,xs=[.str z]/\z.length<=sizeLine/\Q (.int z.length) H):=by
 intro pins s σ H xs us Q I r h
 obtain⟨z,rfl,hz,q⟩:=h
 obtain⟨u,rfl,t,rfl⟩:=bV r
 have hn:=e8
 exact len_str (by omega) ⟨.int z.length,H,I.tok _,⟨_,rfl⟩,q⟩
def d4:cz X (.type "tuple") (fun xs H Q=>∃p ys,xs=[.ref p]/\((SqL X.K H p ys/\∀l,H l=none->Q (.ref l) (upd H l (.tup ys)))\/(z7 X.K H p ys/\Q (.ref p) H))):=by
 intro pins s σ H xs us Q I r h
 obtain⟨p,ys,rfl,h⟩:=h
 obtain⟨u,rfl,rx⟩:=bV r
 cases rx
 rcases h with⟨hq,q⟩|⟨hq,q⟩
 ·obtain⟨its,r',pl,hz⟩:=I.list hq
  have hlen:=r'.length
  refine call_tuple_list pl.isList (fun h' kp=>?_) (by simp only[E4]<;>omega)
  have I1:Inv X pins σ H { s with heap:=h' }:=I.kept (t':=s.toks) kp
  have I2:Inv X pins σ (upd H h'.objs.size (.tup ys)) { s with heap:=h'.push { cls:=.type "tuple",data:=.seq its.toArray } }:=
   I1.laid (t':=s.toks) (fun b o e=>EY _ e) (EZ _) (show yZ X.prog X.w _ _ _ (.tup ys)from ⟨hz,its,r',zR.new _ _⟩)
  exact⟨.ref h'.objs.size,_,I2,rfl,q _ (I1.hok.fresh (EZ _))⟩
 ·obtain⟨its,r',pl,hz⟩:=I.tuple hq
  exact call_tuple_same pl ⟨.ref p,H,I,rfl,q⟩
def wN(K:Vo)(T:String)(x:V)(H:Hp):Prop:=match x with
 | .str _=>T = "str"
 | .int _=>T = "int"
 | .ref p=>(T = "list"/\∃xs,SqL K H p xs)\/(T = "tuple"/\∃o,K.lookup p=some o/\o.cls = .type "tuple"/\o.dict=none) \/
   (T = "dict"/\((∃kvs,H p=some (.dK kvs))\/∃kvs,H p=some (.dT kvs)))\/(T = "set"/\∃S n,H p=some (.set S n))
 |_=>False
def i4{pins:Va}{σ:St}{H:Hp}{s:Shared}{T:String}{x:V}{v:Value}(I:Inv X pins σ H s)(r:RelV x v)(ty:wN X.K T x H) :
  s.TypeIs v T/\∀a,v = .ref a->∃ob,s.heap.get? a=some ob/\ob.dict=none:=by
 cases x with
 |str z=>
  obtain⟨t,rfl⟩:=r
  cases (show T = "str" from ty)
  exact⟨GJ s z t,fun _ e=>nomatch e⟩
 |int i=>
  obtain⟨t,rfl⟩:=r
  cases (show T = "int" from ty)
  exact⟨typeIs_int s i t,fun _ e=>nomatch e⟩
 |ref p=>
  cases r
  rcases ty with⟨rfl,xs,hq⟩|⟨rfl,o,hk,hc,hd⟩|⟨rfl,hk⟩|⟨rfl,S,n,hk⟩
  ·obtain⟨its,_,pl,_⟩:=I.list hq
   refine⟨pl.isList.typeIs,fun a e=>?_⟩
   cases e
   obtain⟨o,n,e,c,hd,_⟩:=pl
   exact⟨o,e,hd⟩
  ·refine⟨⟨o,I.Bw p o hk,hc⟩,fun a e=>?_⟩
   cases e
   exact⟨o,I.Bw _ o hk,hd⟩
  ·have z:∃o,s.heap.get? p=some o/\o.ExactDict:=by
    rcases hk with⟨kvs,hk⟩|⟨kvs,hk⟩
    ·obtain⟨_,_,_,_,o,_,_,e,ex,_⟩:=I.hok p _ hk
     exact⟨o,e,ex⟩
    ·obtain⟨_,_,_,_,o,_,_,e,ex,_⟩:=I.hok p _ hk
     exact⟨o,e,ex⟩
   obtain⟨o,e,ex⟩:=z
   refine⟨⟨o,e,ex.1⟩,fun a e2=>?_⟩
   cases e2
   exact⟨o,e,ex.2.1⟩
  ·obtain⟨o,_,_,_,e,ex,_⟩:=I.hok p _ hk
   refine⟨⟨o,e,ex.1⟩,fun a e2=>?_⟩
   cases e2
   exact⟨o,e,ex.2.1⟩
 |_=>exact False.elim ty
def xz(K:Vo)(T:String)(r:V->List V->Hp->VK->Prop)(to:TE):TE:=fun σ H Q=>to σ H fun x H1=>wN K T x H1/\r x [] H1 Q
def yu(K:Vo)(T:String)(r:V->List V->Hp->VK->Prop)(to:TE)(t:TA):TE:=fun σ H Q=>to σ H fun x H1=>wN K T x H1/\t σ H1 fun xs H2=>r x xs H2 Q
variable {o e:Expr} {es:List Expr} {to:TE} {t:TA} {name:Str} {apos cpos:Pos} {T id:String} {r:V->List V->Hp->VK->Prop}
def tD(pa:PlainAttrs T)(slot:Slot T name id)(hty:typeOf (.builtin id)=pure (.type "method_descriptor"))(hm:tt X id r)(ho:PE X o to)
  (hbase:attributeBase o name X.env (eval o X.env)=eval o X.env:=by rfl) (hline:(apos.endLine == cpos.line)=true:=by rfl):PE X (.Call (.Attribute o name apos) [] [] cpos) (xz X.K T r to):=by
 intro pins s σ H Q I h
 refine wpAny_Call_method0_late hbase hline (yS (ho pins s σ H _ I h) fun v s1 ⟨x,H1,I1,r1,ty,q1⟩=>?_)
 obtain⟨h1,h2⟩:=i4 I1 r1 ty
 exact⟨T,id,pa,slot,hty,h1,h2,Gb rfl (PySem.evalArgs_none (hm pins s1 σ H1 x [] v [] Q I1 r1 .nil q1))⟩
def vN(pa:PlainAttrs T)(slot:Slot T name id)(hty:typeOf (.builtin id)=pure (.type "method_descriptor"))(hm:tt X id r)(ho:PE X o to)(ha:PA X (e::es) t)
  (hbase:attributeBase o name X.env (eval o X.env)=eval o X.env:=by rfl)
  (hfew:((backTo cpos (starEach (e::es) X.env)).all (fun x=>!x.1)&&(backToKw cpos (keywordEach [] X.env)).all (fun x=>x.1.isSome)
   && decide ((e::es).length+([]:List Keyword).length+(if ([]:List Keyword).isEmpty then 0 else 1) < 30))=true:=by rfl)
  (hline:(apos.endLine == cpos.line)=true:=by rfl) (hs:starEach (e::es) X.env=(false,eval e X.env)::starEach es X.env:=by rfl) (hplain:(backTo cpos (starEach es X.env)).any (·.1)=false:=by rfl) :
  PE X (.Call (.Attribute o name apos) (e::es) [] cpos) (yu X.K T r to t):=by
 intro pins s σ H Q I h
 refine GY hbase hfew hline rfl (yS (ho pins s σ H _ I h) fun v s1 ⟨x,H1,I1,r1,ty,q1⟩=>?_)
 obtain⟨h1,h2⟩:=i4 I1 r1 ty
 refine⟨T,id,pa,slot,hty,h1,h2,?_⟩
 have hA:=ha cpos pins s1 σ H1 _ I1 q1
 rw[hs]at hA ⊢
 refine Gb (by show(false || (backTo cpos (starEach es X.env)).any (·.1))=false;rw[hplain]<;>rfl) (Gz ?_)
 exact yS hA fun us s2 ⟨vs,H2,I2,r2,q2⟩=>hm pins s2 σ H2 x vs v us Q I2 r1 r2 q2
end
def xA(X:Cx)(id:String)(r:V->List V->Hp->VK->Prop):Prop:=
 ∀(pins:Va) (s:Shared) (σ:St) (H:Hp) (x:V) (xs:List V) (v:Value) (us:Vv) (Q:VK),Inv X pins σ H s->RelV x v->Vals xs us->r x xs H Q->
  wpAny (model X.prog X.w) X.A (call (.builtin id) (v::us)) (EP X pins σ Q) X.xe s
theorem Vals.one:∀{x:V} {us:Vv},Vals [x] us->∃u,us=[u]/\RelV x u
 |_,_,.cons r .nil=>⟨_,rfl,r⟩
theorem Vals.zero:∀{us:Vv},Vals [] us->us=[]
 |_,.nil=>rfl
theorem Vals.dropLast{xs:List V}{us:Vv}(h:Vals xs us):Vals xs.dropLast us.dropLast:=by
 induction h with
 |nil=>exact .nil
 |cons r t ih=>
  cases t with
  |nil=>exact .nil
  |cons q t'=>exact .cons r ih
theorem Vals.eraseIdx:∀{xs:List V} {us:Vv} (i:Nat),Vals xs us->Vals (xs.eraseIdx i) (us.eraseIdx i)
 |_,_,_,.nil=>.nil
 |_,_,0,.cons _ t=>t
 |_,_,i+1,.cons r t=>.cons r (Vals.eraseIdx i t)
theorem Vals.reverse{xs:List V}{us:Vv}(h:Vals xs us):Vals xs.reverse us.reverse:=by
 induction h with
 |nil=>exact .nil
 |cons r t ih=>rw[GZ,GZ];exact Vals.append ih (.cons r .nil)
theorem Vals.rep{xs:List V}{us:Vv}(h:Vals xs us):∀k:Nat,Vals (List.replicate k xs).flatten (List.replicate k us).flatten
 |0=>.nil
 |k+1=>by
  rw[FZ,FZ,Gj,Gj]
  exact Vals.append h (Vals.rep h k)
def kJ{α:Type}(l:List α):l.eraseIdx (l.length - 1)=l.dropLast:=by
 induction l with
 |nil=>rfl
 |cons a r ih=>
  cases r with
  |nil=>rfl
  |cons b r=>
   have e:(a::b::r).length - 1=((b::r).length - 1)+1:=by
    have h1:(a::b::r).length=r.length+2:=rfl
    have h2:(b::r).length=r.length+1:=rfl
    omega
   rw[e,List.eraseIdx_cons_succ,ih]
   all_goals rfl
theorem ir{α:Type}:∀(l:List α) (i:Nat),(l.eraseIdx i).length<=l.length
 |[],_=>EZ _
 |_::_,0=>Nat.le_succ _
 |_::r,i+1=>FW (ir r i)
theorem iu(its:Vv):∀(k:Nat) (acc:Vv),
  List.foldl (fun x1 x2=>x1++x2) acc.toArray (List.replicate k its.toArray)=(acc++(List.replicate k its).flatten).toArray
 |0,acc=>by simp
 |k+1,acc=>by
  have e:acc.toArray++its.toArray=(acc++its).toArray:=by simp
  have e2:(acc++its)++(List.replicate k its).flatten=acc++(List.replicate (k+1) its).flatten:=by
   rw[FZ,Gj,List.append_assoc]
  rw[<-e2,<-iu its k (acc++its),<-e,FZ,List.foldl_cons]
section
variable {X:Cx} {pins:Va} {σ:St} {H:Hp} {s:Shared} {l b:Addr} {xs ys zs:List V}
def Inv.B_{its its':Vv}{n:Nat}{f:Array Value->Array Value}{t':Nat}(I:Inv X pins σ H s)(hH:H l=some (.lst xs))
  (e:s.heap.get? l=some { cls:=.type "list",data:=.seq its.toArray n }) (hf:f its.toArray=its'.toArray) (hv:Vals ys its') (hz:ys.length<=sizeLine) (ht:1<=t':=by walk_at "t") :
  Inv X pins σ (upd H l (.lst ys)) { s with heap:=s.heap.update l (Obj.mapSeq f),toks:=t' }:=by
 have q:=PySem.IsL.update e f
 rw[hf]at q
 refine I.write (x:=l) (e:=l) (by rw[hH];exact trivial) (.inl rfl) (fun b' u hb hu=>(GX s.heap (Obj.mapSeq f) (GR hb)).trans hu) ⟨_,q⟩ ?_
 exact⟨hz,its',_,hv,q⟩
def Inv.Cw{its:Vv}{t':Nat}(I:Inv X pins σ H s)(hv:Vals ys its)(hz:ys.length<=sizeLine)(ht:1<=t':=by walk_at "t") :
  Inv X pins σ (upd H s.heap.objs.size (.lst ys)) { s with heap:=s.heap.push { cls:=.type "list",data:=.seq its.toArray },toks:=t' }:=
 I.laid (fun _ _ q=>EY _ q) (EZ _) ⟨hz,its,0,hv,Ff _ rfl⟩
theorem Inv.fresh(I:Inv X pins σ H s):H s.heap.objs.size=none:=I.hok.fresh (EZ _)
def Inv.Bn(I:Inv X pins σ H s)(hH:H l=some (.lst xs)):xs.length<=sizeLine/\∃(its:Vv) (n:Nat),Vals xs its/\xs.length=its.length/\s.heap.get? l=some { cls:=.type "list",data:=.seq its.toArray n }:=by
 obtain⟨z,its,n,r,e⟩:=I.hok l _ hH
 exact⟨z,its,n,r,r.length,e⟩
def nA{n:Nat}(h:n<=sizeLine):Builtin.List.listTooLong n=false:=by
 unfold Builtin.List.listTooLong
 exact E9 (by omega)
end
section
variable {X:Cx}
noncomputable def qa:V->List V->Hp->VK->Prop:=fun x vs H Q=>∃l xs y,x = .ref l/\vs=[y]/\H l=some (.lst xs)/\xs.length < sizeLine/\Q .non (upd H l (.lst (xs++[y])))
def mh:xA X "list.append" qa:=by
 intro pins s σ H x vs v us Q I rx rv h
 obtain⟨l,xs,y,rfl,rfl,hH,hz,q⟩:=h
 cases rx
 obtain⟨u,rfl,ru⟩:=rv.one
 obtain⟨z,its,n,r,hl,e⟩:=I.Bn hH
 refine GK F.slot_list_append ⟨_,e,rfl⟩ F.entry_list_append (F.args_list_append_2 _ _) (PySem.list_append l its.toArray n u (by rw[E4];omega)) ⟨e,?_⟩
 refine⟨.non,_,I.B_ (its':=its++[u]) hH e (by simp) (r.append (.cons ru .nil)) ?_,rfl,q⟩
 rw[EX,FP]
 omega
noncomputable def xB:V->List V->Hp->VK->Prop:=fun x vs H Q=>∃l xs y,x = .ref l/\vs=[]/\H l=some (.lst xs)/\xs[xs.length - 1]?=some y/\Q y (upd H l (.lst xs.dropLast))
def tE:xA X "list.pop" xB:=by
 intro pins s σ H x vs v us Q I rx rv h
 obtain⟨l,xs,y,rfl,rfl,hH,hy,q⟩:=h
 cases rx
 have Ek:=rv.zero
 subst Ek
 obtain⟨z,its,n,r,hl,e⟩:=I.Bn hH
 obtain⟨u,hu,ru⟩:=r.get hy
 have hy':its.toArray[its.toArray.size - 1]?=some u:=by
  show its.toArray[its.length - 1]?=some u
  rw[<-Array.getElem?_toList,<-hl]
  exact hu
 refine GK F.slot_list_pop ⟨_,e,rfl⟩ F.entry_list_pop (F.args_list_pop_1 _) (MeetsSeq.list_pop_last l its.toArray n u hy' (by rw[E4];omega)) ⟨e,?_⟩
 refine⟨y,_,I.B_ (its':=its.dropLast) hH e ?_ r.dropLast ?_,ru,q⟩
 ·show its.toArray.eraseIdxIfInBounds (its.toArray.size - 1)=its.dropLast.toArray
  rw[E4,G1,kJ]
 ·rw[List.length_dropLast]
  omega
noncomputable def tF:V->List V->Hp->VK->Prop:=fun x vs H Q=>∃l xs i k y,x = .ref l/\vs=[.int i]/\H l=some (.lst xs)/\-(2 ^ 63)<=i/\i < 2 ^ 63/\seqIndex? i xs.length=some k/\xs[k]?=some y/\Q y (upd H l (.lst (xs.eraseIdx k)))
def nB:xA X "list.pop" tF:=by
 intro pins s σ H x vs v us Q I rx rv h
 obtain⟨l,xs,i,k,y,rfl,rfl,hH,h1,h2,hk,hy,q⟩:=h
 cases rx
 obtain⟨u,rfl,ru⟩:=rv.one
 obtain⟨t,rfl⟩:=ru
 obtain⟨z,its,n,r,hl,e⟩:=I.Bn hH
 obtain⟨w,hw,rw'⟩:=r.get hy
 refine GK F.slot_list_pop ⟨_,e,rfl⟩ F.entry_list_pop (F.args_list_pop_2 _ _)
  (MeetsSeq.list_pop_at l its.toArray n i t k w (fitsIndex_both h1 h2) (by rw[E4,<-hl];exact hk) (by rw[<-Array.getElem?_toList];exact hw) (by rw[E4];omega)) ⟨e,?_⟩
 refine⟨y,_,I.B_ (its':=its.eraseIdx k) hH e ?_ (r.eraseIdx k) ?_,rw',q⟩
 ·show its.toArray.eraseIdxIfInBounds k=(its.eraseIdx k).toArray
  rw[G1]
 ·have:=ir xs k
  omega
def xC:R2:=fun x y H Q=>∃l b xs zs,x = .ref l/\y = .ref b/\H l=some (.lst xs)/\H b=some (.lst zs)/\xs.length+zs.length<=sizeLine/\∀p,H p=none->Q (.ref p) (upd H p (.lst (xs++zs)))
def tG:eZ X (binaryOp .Add) xC:=by
 intro pins s σ H x y v u Q I rx ry h
 obtain⟨l,b,xs,zs,rfl,rfl,hH,hB,hz,q⟩:=h
 cases rx
 cases ry
 obtain⟨z,its,n,r,hl,e⟩:=I.Bn hH
 obtain⟨z2,its2,n2,r2,hl2,e2⟩:=I.Bn hB
 refine PySem.P.add_list e e2 ?_ (by rw[E4,E4];omega)
 have ea:its.toArray++its2.toArray=(its++its2).toArray:=by simp
 rw[ea]
 exact⟨.ref _,_,I.Cw (t':=s.toks) (r.append r2) (by rw[EX];omega),rfl,q _ I.fresh⟩
def xD:R2:=fun x y H Q=>∃l k xs,x = .ref l/\y = .int k/\H l=some (.lst xs)/\-(2 ^ 63)<=k/\k < 2 ^ 63/\xs.length * k.toNat<=sizeLine/\
 ∀p,H p=none->Q (.ref p) (upd H p (.lst (List.replicate k.toNat xs).flatten))
def qb{α:Type}(xs:List α)(k:Nat):(List.replicate k xs).flatten.length=k * xs.length:=by
 induction k with
 |zero=>simp
 |succ k ih=>rw[FZ,Gj,EX,ih,Nat.succ_mul,Nat.add_comm]
def tH:eZ X (binaryOp .Mult) xD:=by
 intro pins s σ H x y v u Q I rx ry h
 obtain⟨l,k,xs,rfl,rfl,hH,h1,h2,hz,q⟩:=h
 cases rx
 obtain⟨t,rfl⟩:=ry
 obtain⟨z,its,n,r,hl,e⟩:=I.Bn hH
 have hlen:its.toArray.size * k.toNat<=sizeLine:=by rw[E4,<-hl];exact hz
 have hcap:¬its.toArray.size * k.toNat > (2 ^ 63 - 1) / 8:=by
  have:(sizeLine:Nat)<=(2 ^ 63 - 1) / 8:=by decide
  omega
 have hfit:¬(!Builtin.List.listFitsIndex k)=true:=by
  rw[fitsIndex_both h1 h2]
  exact Fp
 have Cy:¬Builtin.List.listTooLong (its.toArray.size * k.toNat)=true:=by
  rw[nA hlen]
  exact Fp
 have hnew:List.foldl (fun x1 x2=>x1++x2) #[] (List.replicate (if its.toArray.isEmpty=true then 0 else k.toNat) its.toArray)=(List.replicate k.toNat its).flatten.toArray:=by
  have f0:∀m:Nat,List.foldl (fun x1 x2=>x1++x2) #[] (List.replicate m its.toArray)=(List.replicate m its).flatten.toArray:=fun m=>by
   have:=iu its m []
   rw[GI]at this
   exact this
  rw[f0]
  cases its with
  |nil=>simp
  |cons a r'=>rw[if_neg (by simp)]
 refine wpAny_binaryOp_repeat_ref (T:="list") (U:="int") (by decide) ⟨_,e,rfl⟩ (fun s'=>typeIs_int s' k t) noFill_list_mul F.fills_int_mul F.slot_int_rmul repeat_list F.slot_int_index.lookup
  (GK F.slot_int_rmul (typeIs_int s k t) F.entry_int_rmul (F.args_int_rmul_2 _ _) (int___rmul___int_list k t l its.toArray n)
   ⟨e,rfl,⟨_,e,rfl⟩,GK F.slot_list_mul ⟨_,e,rfl⟩ F.entry_list_mul (F.args_list_mul_2 _ _) (AutoListH.list___mul___list_int_3 l its.toArray n k t hfit hcap Cy) ⟨e,?_⟩⟩)
 rw[hnew]
 exact⟨.ref _,_,I.Cw (t':=s.toks) (r.rep k.toNat) (by rw[qb,Nat.mul_comm];exact hz),rfl,q _ I.fresh⟩
end
section
variable {κ:Type} [DecidableEq κ]
noncomputable def cM(kvs:List (κ×V))(k:κ):Option V:=(kvs.find? fun kv=>decide (kv.1=k)).map (·.2)
noncomputable def dm(kvs:List (κ×V))(k:κ)(v:V):List (κ×V):=
 if (kvs.any fun kv=>decide (kv.1=k))=true then kvs.map (fun kv=>if kv.1=k then (kv.1,v) else kv) else kvs++[(k,v)]
def zk{p:κ×V}{r:List (κ×V)}{k:κ}(e:p.1=k):cM (p::r) k=some p.2:=by simp[cM,List.find?_cons,e]
def zl{p:κ×V}{r:List (κ×V)}{k:κ}(e:¬p.1=k):cM (p::r) k=cM r k:=by simp[cM,List.find?_cons,e]
theorem gm(k:κ):∀kvs:List (κ×V),(kvs.any fun kv=>decide (kv.1=k))=(cM kvs k).isSome
 |[]=>rfl
 |p::r=>by
  rw[G6]
  by_cases e:p.1=k
  ·simp only[zk e,FJ e,Bool.true_or,Option.isSome_some]
  ·rw[zl e,E9 e,Bool.false_or];exact gm k r
def dq(kvs:List (κ×V))(k:κ)(v:V):(dm kvs k v).length<=kvs.length+1:=by
 unfold dm
 split
 ·rw[E2];omega
 ·rw[EX,Fc,Gs];omega
def RelO.zj{o:Option V}{u:Option Value}(r:RelO o u):o.isSome=u.isSome:=by
 cases o with
 |none=>cases u with
  |none=>rfl
  |some _=>exact(show False from r).elim
 |some _=>cases u with
  |none=>exact(show False from r).elim
  |some _=>rfl
theorem RelO.getD{o:Option V}{u:Option Value}{d:V}{d':Value}(r:RelO o u)(rd:RelV d d'):RelV (o.getD d) (u.getD d'):=by
 cases o with
 |none=>cases u with
  |none=>exact rd
  |some _=>exact(show False from r).elim
 |some _=>cases u with
  |none=>exact(show False from r).elim
  |some _=>exact r
def KV.val{kvs:List (κ×V)}{vs:List (κ×Value)}(r:KV kvs vs)(k:κ):RelO (cM kvs k) (valueAt vs k):=by
 unfold KV at r
 induction r with
 |nil=>exact True.intro
 |@cons p q ps qs h t ih=>
  obtain⟨h1,h2⟩:=h
  by_cases e:p.1=k
  ·have e':q.1=k:=h1.symm.trans e
   have b:valueAt (q::qs) k=some q.2:=by simp[valueAt,List.find?_cons,e']
   rw[zk e,b];exact h2
  ·have e':¬q.1=k:=fun z=>e (h1.trans z)
   have b:valueAt (q::qs) k=valueAt qs k:=by simp[valueAt,List.find?_cons,e']
   rw[zl e,b];exact ih
theorem KV.any{kvs:List (κ×V)}{vs:List (κ×Value)}(r:KV kvs vs)(k:κ):(kvs.any fun kv=>decide (kv.1=k))=vs.any fun kv=>decide (kv.1=k):=by
 unfold KV at r
 induction r with
 |nil=>rfl
 |cons h t ih=>rw[G6,G6,ih,h.1]
def KV.repl{kvs:List (κ×V)}{vs:List (κ×Value)}(r:KV kvs vs)(k:κ){y:V}{u:Value}(ry:RelV y u) :
  KV (kvs.map fun kv=>if kv.1=k then (kv.1,y) else kv) (vs.map fun kv=>if kv.1=k then (kv.1,u) else kv):=by
 unfold KV at r ⊢
 induction r with
 |nil=>exact .nil
 |@cons p q ps qs h t ih=>
  rw[EV,EV]
  refine .cons ?_ ih
  obtain⟨h1,h2⟩:=h
  by_cases e:p.1=k
  ·rw[if_pos e,if_pos (h1.symm.trans e)];exact⟨h1,ry⟩
  ·rw[if_neg e,if_neg (fun z=>e (h1.trans z))];exact⟨h1,h2⟩
def KV.put{kvs:List (κ×V)}{vs:List (κ×Value)}(r:KV kvs vs)(k:κ){y:V}{u:Value}(ry:RelV y u):KV (dm kvs k y) (stored vs k u):=by
 unfold dm stored
 rw[r.any k]
 by_cases e:(vs.any fun kv=>decide (kv.1=k))=true
 ·rw[if_pos e,if_pos e];exact r.repl k ry
 ·rw[if_neg e,if_neg e];exact Paired.snoc r ⟨rfl,ry⟩
theorem KV.length{kvs:List (κ×V)}{vs:List (κ×Value)}(r:KV kvs vs):kvs.length=vs.length:=Paired.length r
end
def eI{P:Program}{w:World}{k:aL}{u:Value}(r:RelV (kV k) u):(aA P w).is k u=true:=by
 cases k with
 |inl i=>obtain⟨t,e⟩:=(show ∃t,u=Value.int i t from r);subst e;exact jN P w i t
 |inr x=>obtain⟨t,e⟩:=(show ∃t,u=Value.str x t from r);subst e;exact jO P w x t
theorem iw{P:Program}{w:World}:∀{ks:List aL} {us:Vv},Vals (ks.map kV) us->ItemsAre (aA P w) ks us
 |[],_,r=>by rw[Fo]at r;cases r;exact .nil
 |k::ks,_,r=>by
  rw[EV]at r
  cases r with
  |cons h t=>exact .cons (eI h) (iw t)
noncomputable abbrev KT(H:Hp):List (List aL×V)->List (List aL×Addr×Value)->Prop:=Paired fun p q=>p.1=q.1/\H q.2.1=some (.tup (p.1.map kV))/\RelV p.2 q.2.2
def KT.val{H:Hp}{kvs:List (List aL×V)}{xs:List (List aL×Addr×Value)}(r:KT H kvs xs)(k:List aL):RelO (cM kvs k) ((atKey xs k).map (·.2)):=by
 induction r with
 |nil=>exact True.intro
 |@cons p q ps qs h t ih=>
  obtain⟨h1,_,h2⟩:=h
  by_cases e:p.1=k
  ·have e':q.1=k:=h1.symm.trans e
   have b:atKey (q::qs) k=some q.2:=by simp[atKey,List.find?_cons,e']
   rw[zk e,b];exact h2
  ·have e':¬q.1=k:=fun z=>e (h1.trans z)
   have b:atKey (q::qs) k=atKey qs k:=by simp[atKey,List.find?_cons,e']
   rw[zl e,b];exact ih
def KT.repl{H:Hp}{kvs:List (List aL×V)}{xs:List (List aL×Addr×Value)}(r:KT H kvs xs)(k:List aL){y:V}{u:Value}(ry:RelV y u) :
  KT H (kvs.map fun kv=>if kv.1=k then (kv.1,y) else kv) (xs.map (putAt k u)):=by
 induction r with
 |nil=>exact .nil
 |@cons p q ps qs h t ih=>
  rw[EV,EV]
  refine .cons ?_ ih
  obtain⟨h1,h2,h3⟩:=h
  unfold putAt
  by_cases e:p.1=k
  ·rw[if_pos e,if_pos (h1.symm.trans e)];exact⟨h1,h2,ry⟩
  ·rw[if_neg e,if_neg (fun z=>e (h1.trans z))];exact⟨h1,h2,h3⟩
def KT.put{H:Hp}{kvs:List (List aL×V)}{xs:List (List aL×Addr×Value)}(r:KT H kvs xs)(k:List aL){b:Addr}{y:V}{u:Value}(hb:H b=some (.tup (k.map kV)))(ry:RelV y u) :
  KT H (dm kvs k y) (storedH xs k b u):=by
 have e:(kvs.any fun kv=>decide (kv.1=k))=(atKey xs k).isSome:=by
  rw[gm,(r.val k).zj,Ht]
 unfold dm storedH
 rw[e]
 by_cases q:(atKey xs k).isSome=true
 ·rw[if_pos q,if_pos q];exact r.repl k ry
 ·rw[if_neg q,if_neg q];exact Paired.snoc r ⟨rfl,hb,ry⟩
def KT.keeps{H H':Hp}{kvs:List (List aL×V)}{xs:List (List aL×Addr×Value)}(r:KT H kvs xs)(ht:∀b ys,H b=some (.tup ys)->H' b=some (.tup ys)):KT H' kvs xs:=
 Paired.B4 r fun _ _ z=>⟨z.1,ht _ _ z.2.1,z.2.2⟩
section
variable {P:Program} {w:World} {H:Hp} {h:Heap} {a:Addr}
def rG{u:HO}(ok:z9 P w H h)(e:Rd H a u):yZ P w H h a u:=e.ok ok
def ix{kvs:List (aL×V)}(ok:z9 P w H h)(e:Rd H a (.dK kvs)):kvs.length<=sizeLine/\(a == sysModules)=false/\∃vs,KV kvs vs/\h.DictOf (aA P w) a vs:=
 show yZ P w H h a (.dK kvs)from rG ok e
def rH{kvs:List (aL×V)}(ok:z9 P w H h)(e:H a=some (.dK kvs)):kvs.length<=sizeLine/\(a == sysModules)=false/\∃vs,KV kvs vs/\h.DictOf (aA P w) a vs:=ix ok (.inl e)
def cp{ks:List aL}(ok:z9 P w H h)(e:H a=some (.tup (ks.map kV))):(tupleKind (aA P w)).is h ks a:=by
 obtain⟨_,its,r,o,h1,_,h2,n,h3⟩:=(show yZ P w H h a (.tup (ks.map kV))from ok a _ e)
 exact⟨o,its.toArray,n,h1,h2,h3,by simpa using iw r⟩
def jU{kvs:List (List aL×V)}(ok:z9 P w H h)(e:Rd H a (.dT kvs)):kvs.length<=sizeLine/\(a == sysModules)=false/\
  ∃xs,KT H kvs xs/\h.DictOfH (tupleKind (aA P w)) a xs:=by
 obtain⟨z,y,xs,r,o,es,ep,h1,h2,h3,h4,h5⟩:=(show yZ P w H h a (.dT kvs)from rG ok e)
 refine⟨z,y,xs,r,o,es,ep,h1,h2,h3,h4,fun x hx=>?_,h5⟩
 have all:∀{l:List (List aL×V)} {m:List (List aL×Addr×Value)},KT H l m->∀x∈m,(tupleKind (aA P w)).is h x.1 x.2.1:=by
  intro l m q
  induction q with
  |nil=>intro x hx;exact nomatch hx
  |@cons p q ps qs hq t ih=>
   intro x hx
   rcases E1.mp hx with e|hx
   ·subst e
    exact cp ok (by rw[<-hq.1];exact hq.2.1)
   ·exact ih x hx
 exact all r x hx
def vO{kvs:List (List aL×V)}(ok:z9 P w H h)(e:H a=some (.dT kvs)):kvs.length<=sizeLine/\(a == sysModules)=false/\
  ∃xs,KT H kvs xs/\h.DictOfH (tupleKind (aA P w)) a xs:=jU ok (.inl e)
end
def DGet(H:Hp)(a:Addr)(y:V)(r:Option V):Prop:=
 (∃kvs k,Rd H a (.dK kvs)/\y=kV k/\r=cM kvs k)\/∃kvs k b,Rd H a (.dT kvs)/\y = .ref b/\H b=some (.tup (k.map kV))/\r=cM kvs k
def By(H:Hp)(a:Addr)(y v:V)(H':Hp):Prop:=
 (∃kvs k,H a=some (.dK kvs)/\y=kV k/\kvs.length < sizeLine/\H'=upd H a (.dK (dm kvs k v))) \/
 ∃kvs k b,H a=some (.dT kvs)/\y = .ref b/\H b=some (.tup (k.map kV))/\kvs.length < sizeLine/\H'=upd H a (.dT (dm kvs k v))
theorem DGet.k{H:Hp}{a:Addr}{kvs:List (aL×V)}{k:aL}(e:H a=some (.dK kvs)):DGet H a (kV k) (cM kvs k):=.inl ⟨kvs,k,.inl e,rfl,rfl⟩
theorem By.k{H:Hp}{a:Addr}{kvs:List (aL×V)}{k:aL}{v:V}(e:H a=some (.dK kvs))(hl:kvs.length < sizeLine):By H a (kV k) v (upd H a (.dK (dm kvs k v))):=.inl ⟨kvs,k,e,rfl,hl,rfl⟩
section
variable {X:Cx} {pins:Va} {σ:St} {H:Hp} {s:Shared} {a:Addr} {y v:V} {u r:Value} {o:Option V} {A:Around} {E:Vq}
def Inv.big(I:Inv X pins σ H s):sysModules < s.heap.objs.size:=by
 have h:mainGlobals < s.heap.objs.size:=(I.mod.glob.keeps I.bk).lt
 exact Hr (by decide) h
def mi{Q:Vq}(hu:A.units+1 < cLine)(I:Inv X pins σ H s)(g:DGet H a y (some v))(ry:RelV y u)(h:∀w' s',Inv X pins σ H s'->RelV v w'->Q w' s') :
  wpAny (model X.prog X.w) A (getItem (.ref a) u) Q E s:=by
 rcases g with⟨kvs,k,e,ey,l⟩|⟨kvs,k,b,e,ey,eb,l⟩
 ·subst ey
  obtain⟨z,hd,vs,rel,dd⟩:=ix I.hok e
  obtain⟨w',hw,rw'⟩:=RelO.some_of (v:=v) (o:=valueAt vs k) (by rw[l];exact rel.val k)
  exact wpAny_getItem_of (eI ry) dd.mapOf hw (h w' _ (I.tok _) rw')
 ·subst ey
  cases (show u=Value.ref b from ry)
  obtain⟨z,hd,xs,rel,dd⟩:=jU I.hok e
  obtain⟨w',hw,rw'⟩:=RelO.some_of (v:=v) (o:=(atKey xs k).map (·.2)) (by rw[l];exact rel.val k)
  obtain⟨p,hp,hp2⟩:=FH.mp hw
  refine wpAny_getItem_heap (GL hu) (cp I.hok eb) dd hp ?_
  rw[hp2]
  exact h w' _ (I.tok _) rw'
def vP{Q:Vq}(hu:A.units+1 < cLine)(I:Inv X pins σ H s)(g:DGet H a y o)(ry:RelV y u)(h:∀s',Inv X pins σ H s'->Q (.bool o.isSome) s') :
  wpAny (model X.prog X.w) A (compareOp .In u (.ref a)) Q E s:=by
 rcases g with⟨kvs,k,e,ey,l⟩|⟨kvs,k,b,e,ey,eb,l⟩
 ·subst ey
  obtain⟨z,hd,vs,rel,dd⟩:=ix I.hok e
  refine wpAny_in_of (eI ry) hd dd.mapOf ?_
  rw[<-(rel.val k).zj,<-l]
  exact h _ (I.tok _)
 ·subst ey
  cases (show u=Value.ref b from ry)
  obtain⟨z,hd,xs,rel,dd⟩:=jU I.hok e
  refine wpAny_in_heap (GL hu) (cp I.hok eb) hd dd ?_
  have q:=(rel.val k).zj
  rw[Ht]at q
  rw[<-q,<-l]
  exact h _ (I.tok _)
def lx{Q:Vq}(hu:A.units+1 < cLine)(I:Inv X pins σ H s)(g:DGet H a y o)(ry:RelV y u)(h:∀s',Inv X pins σ H s'->Q (.bool (!o.isSome)) s') :
  wpAny (model X.prog X.w) A (compareOp .NotIn u (.ref a)) Q E s:=by
 rcases g with⟨kvs,k,e,ey,l⟩|⟨kvs,k,b,e,ey,eb,l⟩
 ·subst ey
  obtain⟨z,hd,vs,rel,dd⟩:=ix I.hok e
  refine wpAny_notIn_of (eI ry) hd dd.mapOf ?_
  rw[<-(rel.val k).zj,<-l]
  exact h _ (I.tok _)
 ·subst ey
  cases (show u=Value.ref b from ry)
  obtain⟨z,hd,xs,rel,dd⟩:=jU I.hok e
  refine wpAny_notIn_heap (GL hu) (cp I.hok eb) hd dd ?_
  have q:=(rel.val k).zj
  rw[Ht]at q
  rw[<-q,<-l]
  exact h _ (I.tok _)
def i5{h':Heap}{t':Nat}{ob:HO}(I:Inv X pins σ H s)(mu:vh (H a))(hs:Heap.SameBut a s.heap h')(he:∃q,h'.get? a=some q)(new:yZ X.prog X.w (upd H a ob) h' a ob)(ht:1<=t':=by walk_at "t") :
  Inv X pins σ (upd H a ob) { s with heap:=h',toks:=t' }:=
 I.write (x:=a) (e:=a) mu (.inl rfl) (fun b q hb z=>(hs.2 b hb).trans z) he new
def nC{P:Program}{w:World}{H':Hp}{h':Heap}{kvs:List (aL×V)}{vs:List (aL×Value)}(z:kvs.length<=sizeLine)(hd:(a == sysModules)=false)(rel:KV kvs vs)(dd:h'.DictOf (aA P w) a vs) :
  yZ P w H' h' a (.dK kvs):=⟨z,hd,vs,rel,dd⟩
def mj{H':Hp}{Q:Unit->Shared->Prop}(hu:A.units+1 < cLine)(I:Inv X pins σ H s)(g:By H a y v H')(ry:RelV y u)(rv:RelV v r)(h:∀s',Inv X pins σ H' s'->Q () s') :
  wpAny (model X.prog X.w) A (setItem (.ref a) u r) Q E s:=by
 rcases g with⟨kvs,k,e,ey,l,eH⟩|⟨kvs,k,b,e,ey,eb,l,eH⟩
 ·subst ey eH
  obtain⟨z,hd,vs,rel,dd⟩:=rH I.hok e
  have hz:vs.length<=sizeLine:=by rw[<-rel.length];exact z
  have hl:(dm kvs k v).length<=sizeLine:=by have:=dq kvs k v;omega
  refine wpAny_setItem_pairs (hsz:=hz) (eI ry) dd fun h' Ca hs=>h _ ?_
  have he:∃q,h'.get? a=some q:=let ⟨q,_,_,hq,_⟩:=Ca;⟨q,hq⟩
  exact i5 I (by rw[e];exact True.intro) hs he (nC hl hd (rel.put k rv) Ca)
 ·subst ey eH
  cases (show u=Value.ref b from ry)
  obtain⟨z,hd,xs,rel,dd⟩:=vO I.hok e
  have hz:xs.length<=sizeLine:=by rw[<-Paired.length rel];exact z
  have hl:(dm kvs k v).length<=sizeLine:=by have:=dq kvs k v;omega
  refine wpAny_setItem_heap (hsz:=hz) (GL hu) (cp I.hok eb) dd fun h' Ca hs=>h _ ?_
  obtain⟨q,es,ep,hq,h2,h3,h4,_,h5⟩:=Ca
  refine i5 I (by rw[e];exact True.intro) hs ⟨q,hq⟩ ⟨hl,hd,_,(rel.put k eb rv).keeps fun c ys ec=>?_,q,es,ep,hq,h2,h3,h4,h5⟩
  rw[aB (vg ec e (fun z=>nomatch z))]
  exact ec
end
section
variable {X:Cx} {pins:Va} {σ:St} {H:Hp} {s:Shared} {a:Addr} {kvs:List (aL×V)} {k:aL} {u:Value} {A:Around} {E:Vq}
def vQ{Q:Vq}(I:Inv X pins σ H s)(e:Rd H a (.dK kvs))(h:∀t s',Inv X pins σ H s'->Q (.int kvs.length t) s'):wpAny (model X.prog X.w) A (call (.builtin "len") [.ref a]) Q E s:=by
 obtain⟨z,hd,vs,rel,dd⟩:=ix I.hok e
 refine call_len_dict hd dd (by rw[<-rel.length];rw[sizeLine_eq]at z;omega) ?_
 rw[<-rel.length]
 exact h _ _ (I.tok _)
end
def jV{X:Cx}{pins:Va}{σ:St}{H:Hp}{s:Shared}{a:Addr}{y:V}{o:Option V}(I:Inv X pins σ H s)(g:DGet H a y o):s.TypeIs (.ref a) "dict":=by
 rcases g with⟨kvs,k,e,_,_⟩|⟨kvs,k,b,e,_,_,_⟩
 ·obtain⟨_,_,vs,_,dd⟩:=ix I.hok e
  exact dd.typeIs
 ·obtain⟨_,_,xs,_,dd⟩:=jU I.hok e
  exact dd.typeIs
def nE{P:Program}{w:World}{H:Hp}(h:Heap)(hb:sysModules < h.objs.size):yZ P w H (h.push { cls:=.type "dict",data:=.dict #[] }) h.objs.size (.dK []):=
 ⟨FE _,beq_eq_false_iff_ne.mpr (GR (Ft hb)),[],.nil,Heap.DictOf.new h⟩
noncomputable def i6:List (TE×TE)->St->Hp->(List (V×V)->Hp->Prop)->Prop
 |[],_,H,Q=>Q [] H
 |(tk,tv)::r,σ,H,Q=>tk σ H fun x H1=>tv σ H1 fun y H2=>i6 r σ H2 fun ps H3=>Q ((x,y)::ps) H3
noncomputable abbrev VV:List (V×V)->List (Value×Value)->Prop:=Paired fun p q=>RelV p.1 q.1/\RelV p.2 q.2
def vR(X:Cx)(pos:Pos)(keys:List (Option Expr))(values:List Expr)(Au:List (TE×TE)):Prop:=
 ∀(pins:Va) (s:Shared) (σ:St) (H:Hp) (Q:List (V×V)->Hp->Prop),Inv X pins σ H s->i6 Au σ H Q->
  wpAny (model X.prog X.w) X.A (evalPairs (pairTrees keys values X.env pos)) (fun vs s'=>∃ps H',Inv X pins σ H' s'/\VV ps vs/\Q ps H') X.xe s
def qc{X:Cx}{pos:Pos}:vR X pos [] [] []:=fun pins s σ H Q I h=>pairTrees_nil_walk ⟨[],H,I,.nil,h⟩
def nF{X:Cx}{pos:Pos}{k v:Expr}{ks:List (Option Expr)}{vs:List Expr}{tk tv:TE}{Au:List (TE×TE)}(hk:PE X k tk)(hv:PE X v tv)(hr:vR X pos ks vs Au) :
  vR X pos (some k::ks) (v::vs) ((tk,tv)::Au):=fun pins s σ H Q I h=>
 pairTrees_cons_walk (yS (hk pins s σ H _ I h) fun u s1 ⟨x,H1,I1,rx,q1⟩=>yS (hv pins s1 σ H1 _ I1 q1) fun w2 s2 ⟨y,H2,I2,ry,q2⟩=>
  yS (hr pins s2 σ H2 _ I2 q2) fun ws s3 ⟨ps,H3,I3,rel,q3⟩=>⟨(x,y)::ps,H3,I3,.cons ⟨rx,ry⟩ rel,q3⟩)
noncomputable def e9(kvs more:List (aL×V)):List (aL×V):=more.foldl (fun acc kv=>dm acc kv.1 kv.2) kvs
def KV.merge:∀{more:List (aL×V)} {rs:List (aL×Value)} {kvs:List (aL×V)} {vs:List (aL×Value)},KV more rs->KV kvs vs->KV (e9 kvs more) (merged vs rs):=by
 intro more rs kvs vs r
 unfold KV at r
 induction r generalizing kvs vs with
 |nil=>intro q;exact q
 |@cons p q ps qs h t ih=>
  intro r0
  have e:KV (dm kvs p.1 p.2) (stored vs q.1 q.2):=by
   have:=r0.put p.1 h.2
   rw[<-h.1];exact this
  exact ih e
theorem d5:∀(more kvs:List (aL×V)),(e9 kvs more).length<=kvs.length+more.length
 |[],kvs=>by show kvs.length<=kvs.length+0;omega
 |p::r,kvs=>by
  have h1:=d5 r (dm kvs p.1 p.2)
  have h2:=dq kvs p.1 p.2
  show(e9 (dm kvs p.1 p.2) r).length<=_
  rw[Fc];omega
theorem gq{P:Program}{w:World}:∀{kvs:List (aL×V)} {ws:List (Value×Value)},VV (kvs.map fun kv=>(kV kv.1,kv.2)) ws->∃rs,Carries (aA P w) ws rs/\KV kvs rs
 |[],_,r=>by rw[Fo]at r;cases r;exact⟨[],True.intro,.nil⟩
 |p::kvs,_,r=>by
  rw[EV]at r
  cases r with
  |@cons a b as bs h t=>
   obtain⟨rs,c,q⟩:=gq (P:=P) (w:=w) t
   obtain⟨b1,b2⟩:=b
   exact⟨(p.1,b2)::rs,⟨eI h.1,rfl,c⟩,.cons ⟨rfl,h.2⟩ q⟩
def vS(Au:List (TE×TE)):TE:=fun σ H Q=>∀p,H p=none->i6 Au σ (upd H p (.dK [])) fun ps H2=>H2 p=some (.dK [])/\∃kvs:List (aL×V),ps=kvs.map (fun kv=>(kV kv.1,kv.2))/\kvs.length<=15/\Q (.ref p) (upd H2 p (.dK (e9 [] kvs)))
def qd{X:Cx}{pos:Pos}{keys:List (Option Expr)}{values:List Expr}{Au:List (TE×TE)}(h:vR X pos keys values Au)(hall:keys.all (·.isSome)=true)(hl:keys.length=values.length)(h0:keys≠[])
  (Dc:keys.length<=15):PE X (.Dict keys values pos) (vS Au):=by
 intro pins s σ H Q I q
 have hn:=I.hok.fresh (EZ s.heap.objs.size)
 have I1:=I.laid (a:=s.heap.objs.size) (o:=.dK []) (h':=s.heap.push { cls:=.type "dict",data:=.dict #[] }) (t':=s.toks) (fun _ _ q=>EY _ q) (EZ _) (nE s.heap I.big)
 refine wpAny_Dict_walk (knd:=aA X.prog X.w) hall hl h0 Dc (yS (h pins _ σ _ _ I1 (q _ hn)) fun ws s2 ⟨ps,H2,I2,rel,e,kvs,ep,lk,q2⟩=>?_)
 subst ep
 obtain⟨rs,c,rk⟩:=gq (P:=X.prog) (w:=X.w) rel
 obtain⟨z,hd,vs0,r0,dd⟩:=rH I2.hok e
 cases r0
 refine⟨rs,c,dd,fun h' Ca hs=>⟨.ref s.heap.objs.size,_,?_,rfl,q2⟩⟩
 have hz:(e9 [] kvs).length<=sizeLine:=by
  have h1:=d5 kvs []
  rw[Gs]at h1
  rw[sizeLine_eq];omega
 have he:∃q,h'.get? s.heap.objs.size=some q:=let ⟨q,_,_,hq,_⟩:=Ca;⟨q,hq⟩
 exact i5 I2 (by rw[e];exact True.intro) hs he (nC hz hd (rk.merge .nil) Ca)
structure M2 (X:Cx) (o:Expr) (m:Str) (apos:Pos) (e f:Expr) (cpos:Pos):Prop where
 base:attributeBase o m X.env (eval o X.env)=eval o X.env
 few:((backTo cpos (starEach [e,f] X.env)).all (fun x=>!x.1)&&(backToKw cpos (keywordEach [] X.env)).all (fun x=>x.1.isSome)
  && decide (([e,f]:List Expr).length+([]:List Keyword).length+(if ([]:List Keyword).isEmpty then 0 else 1) < 30))=true
 line:(apos.endLine == cpos.line)=true
 trees:backTo cpos (starEach [e,f] X.env)=[(false,eval e X.env),(false,eval f X.env)]
end L2
namespace Att
open PySem PySem.W PySem.Calls PyProof.Rows
def fS{P:Params}{h:Heap}:∀(ns:Vu) (vs:Vv),WellAll P h vs (ns.map WData.int)->IntsAre vs ns:=by
 intro ns
 induction ns with
 |nil=>
  intro vs w
  rw[Fo]at w
  cases w
  exact .nil
 |cons n ns ih=>
  intro vs w
  rw[EV]at w
  cases w with
  |cons a b=>
   cases a
   exact .cons _ _ (ih _ b)
def ml{l:OpenLaw}{n:Nat}(hn:l.most=some n){P:Params}{h:Heap}{args:List WData}{vals:Vv}
  (hpre:l.row.toRowW.claim.pre args=true) (hwl:WellAll P h vals args) :
  ∃a vs ns,vals=[Value.ref a]/\args=[WData.list (ns.map WData.int)]/\h.get? a=some { cls:=.type "list",data:=.seq vs.toArray }/\IntsAre vs ns/\ns.length<=n:=by
 have hsh:WShape.hasAll [] args [.list .int]=true:=(pre_splitW hpre).1
 have hc:l.pre.holds [] { args:=args }=true:=(pre_splitW hpre).2
 obtain⟨d,r,rfl,h1,h2⟩:=hasAllW_cons hsh
 obtain rfl:=hasAllW_nil h2
 obtain⟨xs,rfl,h3⟩:=hasW_list h1
 obtain⟨ns,rfl⟩:=items_int h3
 have hlen:ns.length<=n:=by
  unfold OpenLaw.pre at hc
  have h4:(WTm.not (.lt (.lit (.int (n:Int))) (.len (.arg 0)))).holds [] { args:=[.list (ns.map .int)] }=true:=by
   have h4:=(holds_andW hc).1
   rw[hn]at h4
   exact h4
  have h5:=condW_of h4 (w_not (w_lt w_lit (w_len_list (w_arg rfl))))
  rw[E2]at h5
  refine Nat.le_of_not_lt fun q=>?_
  have q':(n:Int) < ((ns.length:Nat):Int):=by omega
  first
   |(rw[FJ q']at h5;exact absurd h5 (by decide))
   |(simp at h5;omega)
 cases hwl with
 |cons w1 w2=>
  cases w2
  cases w1 with
  |list ho hall=>exact⟨_,_,ns,rfl,rfl,ho,fS ns _ hall,hlen⟩
def mm(l:OpenLaw)(args:List WData):l.row.toRowW.claim.post args (.bool true) args=true:=
 postW_of (r:=l.row.toRowW) (X:=(true == true))
  (show WShape.has [] (.bool true) .bool=true by first|rfl|decide|simp[WShape.has,WShape.arms,WShape.armsAll])
  (show(WTm.eq .res (.lit (.bool true))).value [] { args:=args,res:=some (.bool true),after:=args }=some (.bool (true == true))from w_eq_bool (w_res rfl) w_lit) rfl
def jW{l:OpenLaw}{n:Nat}{q:Program}{loose:Vs}{XP:(Vr)->Heap->Prop}{YP:World->Heap->Prop}{d:DefRec}
  (hn:l.most=some n) (hdf:d.params.defaults=[])
  (call:∀(w:World) (s₀ s₁:Shared) (mg mb:Vr) (fa:Addr) (o:Obj) (pm cd doc:Value) (a:Addr) (vs:Vv) (ns:Vu),
   Ground q loose [] XP w s₀ mg mb s₁.heap->YP w s₁.heap->
   s₁.heap.get? fa=some o->o.data = .func (docDef d.name d.params d.body d.scope pm cd doc)->s₁.heap.CodeRec cd d.name->mg d.name=some (.ref fa)->
   s₁.heap.get? a=some { cls:=.type "list",data:=.seq vs.toArray }->IntsAre vs ns->ns.length<=n->s₁.gens=#[]->
   codeAny (model l.prog w) callerA (.call (.ref fa) ⟨[.ref a],[]⟩) (fun r s'=>r = .ok (.ret (.bool true))/\OldK s₁.heap s'.heap/\s'.os=s₁.os/\AllBare s'.gens) s₁) :
  WalkO q loose XP YP l.row.toRowW d [] (fun f vs=>PySem.call f vs):=by
 intro w s₀ s₁ mg mb G Y fa o pm cd doc dV kV ho hd hcd hD hmg hg args vals as hpre hlay hrd hwl hlo
 obtain rfl:dV = .none:=Dflts.none hD hdf
 obtain rfl:kV = .none:=Dflts.noKw hD
 obtain⟨a,vs,ns,rfl,rfl,hobj,hints,hlen⟩:=ml hn hpre hwl
 refine enter_call (codeAny_mono (call w s₀ s₁ mg mb fa o pm cd doc a vs ns G Y ho (fd_plain hd) hcd hmg hobj hints hlen hg) fun r s' hq=>?_)
 obtain⟨rfl,h2,h3,h4⟩:=hq
 exact⟨.inl ⟨.bool true,.bool true,[],rfl,fun _=>rfl,.bool true,mm l _,fun _=>⟨List.Pairwise.nil,fun _ hm=>(nomatch hm)⟩⟩,h2,h3,h4⟩
end Att
namespace L2
open PySem PySem.Spec PyProof.Rows
theorem iy:∀{vs:Vv} {ns:Vu},IntsAre vs ns->Vals (ns.map V.int) vs
 |_,_,.nil=>.nil
 |_,_,.cons n t h=>.cons ⟨t,rfl⟩ (iy h)
def qe(H:Hp):Prop:=∀b,H b=none\/∃o xs,H b=some (.frz o (.lst xs))
def nG{P:Program}{w:World}{K:Vo}{mg mb:Vr}{CX:pI}{k:Nat}{fa a:Addr}{fd:FuncData}{x:Str}{sp:Sp}{s₁:Shared}{vs:Vv}{ns:Vu}
  (KX:K.In s₁.heap) (hns:s₁.heap.Ns mainGlobals mg) (hb:s₁.heap.Ns builtinsNs mb) (El:∀x:Str,x ≠ "__name__"->mb x=bootBuiltins x) (hlim:s₁.heap.NoLimit) (hg:s₁.gens=#[])
  (ha:s₁.heap.get? a=some { cls:=.type "list",data:=.seq vs.toArray }) (hi:IntsAre vs ns) (hl:ns.length<=sizeLine) (hr:Room k callerA)
  (F:∀base:Heap,K.In base->base.Ns mainGlobals mg->hU P w K mg base CX k fa fd [x] sp) (hbind:∀(s:Shared) (u:Value),BindsTo s fd ⟨[u],[]⟩ [(x,u)]) (hfl:FL fd [x])
  (BV:∀H:Hp,qe H->SqL K H a (ns.map V.int)->sp [.ref a] H (fun v _=>v = .bl true) fun _ _ _=>False)
  (De:∀H e s',CX [] H s₁ (fun _ _ _=>False) e s'->False) :
  codeAny (model P w) callerA (.call (.ref fa) ⟨[.ref a],[]⟩) (fun r s'=>r = .ok (.ret (.bool true))/\OldK s₁.heap s'.heap/\s'.os=s₁.os/\AllBare s'.gens) s₁:=by
 have rv:=iy hi
 have Df:=hi.length
 -- from an abstract heap in which nothing but the script may be tracked
 have core:∀H:Hp,qe H->SqL K H a (ns.map V.int)->z9 P w H s₁.heap->(∀b,H b≠none->b=a)->(H a≠none->K.lookup a=none)->
   codeAny (model P w) callerA (.call (.ref fa) ⟨[.ref a],[]⟩) (fun r s'=>r = .ok (.ret (.bool true))/\OldK s₁.heap s'.heap/\s'.os=s₁.os/\AllBare s'.gens) s₁:=by
  intro H hO hS hok hA hK
  have Bc:∀{b:Addr} {o:Obj},s₁.heap.get? b=some o->H b=none->(iU s₁.heap H).get? b=some o:=fun e n=>nb e n
  have Cv:∀{b:Addr} {o:Obj} {es:Array DictEntry} {ep:Nat},s₁.heap.get? b=some o->o.data = .dict es ep->H b=none:=fun{b o es ep} e d=>by
   cases q:H b with
   |none=>rfl
   |some u=>
    have e':b=a:=hA b (by rw[q];simp)
    subst e'
    rw[ha]at e;cases e
    have d':Data.seq vs.toArray _=Data.dict es ep:=d
    cases d'
  have CO:∀{b:Addr} {m:Vr},s₁.heap.Ns b m->(iU s₁.heap H).Ns b m:=fun{b m} ⟨o,es,ep,e,d,r⟩=>⟨o,es,ep,Bc e (Cv e d),d,r⟩
  have DP:K.In (iU s₁.heap H):=fun b o e=>Bc (KX b o e) (by
   cases q:H b with
   |none=>rfl
   |some u=>
    have e':b=a:=hA b (by rw[q];simp)
    subst e'
    rw[hK (by rw[q];simp)]at e;cases e)
  have hM:Mod K mg (iU s₁.heap H):=⟨DP,CO hns,⟨mb,CO hb,El⟩,let ⟨mc,h1,h2⟩:=hlim;⟨mc,CO h1,h2⟩⟩
  have e0:p4 P w K mg (iU s₁.heap H) callerA [] s₁ H:=⟨rfl,hM,fun b o e=>pM e,Nat.le_of_eq (l6 _ _),trivial,fun b hb=>absurd (show b∈([]:List Addr)from hb) (by simp),hok,.of_eq hg⟩
  refine codeAny_mono ((F _ DP (CO hns)).run callerA [] s₁ H ⟨[.ref a],[]⟩ [.ref a] [.ref a] _ _ hr (.inr hfl) e0 (hbind s₁ (.ref a)) (.cons rfl .nil) (BV H hO hS)) fun r s' h=>?_
  cases r with
  |error e=>exact(De H e s' h).elim
  |ok fl=>
   cases fl with
   |next=>exact False.elim h
   |brk=>exact False.elim h
   |cont=>exact False.elim h
   |ret u=>
    obtain⟨v,H',os,bare,un,Dg,r',q⟩:=h
    have q':v = .bl true:=q
    subst q'
    obtain rfl:u=Value.bool true:=r'
    refine⟨rfl,OldK.of_keep fun b o e=>?_,os,bare⟩
    cases q:H b with
    |none=>exact un.keep b o e q (by intro z;exact absurd (show b∈([]:List Addr)from z) (by simp)) (by simp)
    |some u=>
     rcases hO b with z|⟨ob,xs,z⟩
     ·rw[q]at z;cases z
     ·have z2:=un.AD b ob _ z
      obtain⟨e1,_⟩:=hok b _ z
      obtain⟨e2,_⟩:=Dg b _ z2
      rw[e]at e1;cases e1
      exact e2
 cases hk:K.lookup a with
 |some o=>
  -- the script is one of the module's own objects
  have e:=KX a o hk
  rw[ha]at e
  cases e
  refine core (fun _=>none) (fun _=>.inl rfl) (.inr ⟨_,vs.toArray,_,hk,rfl,rfl,rfl,by rw[E4,Df];exact hl,by simpa using rv⟩) (fun b u z=>by have z':(none:Option HO)=some u:=z;cases z') (fun b z=>absurd rfl z) fun z=>absurd rfl z
 |none=>
  refine core (fun b=>if b=a then some (.frz { cls:=.type "list",data:=.seq vs.toArray } (.lst (ns.map V.int))) else none) (fun b=>?_) (.inl (.inr ⟨{ cls:=.type "list",data:=.seq vs.toArray },if_pos rfl⟩)) (fun b u z=>?_) (fun b z=>?_) fun _=>hk
  ·by_cases hb:b=a
   ·exact .inr ⟨_,_,if_pos hb⟩
   ·exact .inl (if_neg hb)
  ·by_cases hb:b=a
   ·have z':=(if_pos hb).symm.trans z
    cases z'
    subst hb
    exact⟨ha,by rw[E2];exact hl,vs,_,rv,ha⟩
   ·have z':=(if_neg hb).symm.trans z
    cases z'
  ·by_cases hb:b=a
   ·exact hb
   ·exact absurd (if_neg hb) z
def qf{l:PySem.W.OpenLaw}{n k:Nat}{q:Program}{loose:Vs}{XP:(Vr)->Heap->Prop}{YP:World->Heap->Prop}{d:DefRec}{K:Params->PySem.W.Frag}{CX:World->pI}{sp:World->Sp}{x:Str}
  (hn:l.most=some n) (hn2:n<=sizeLine) (hdf:d.params.defaults=[]) (hr:Room k callerA)
  (hY:∀(w:World) (h:Heap),YP w h->(K w.params).In h)
  (F:∀(w:World) (mg:Vr) (fa:Addr) (h:Heap),(K w.params).In h->h.Ns mainGlobals mg->mg d.name=some (.ref fa)->
   ∃fd:FuncData,FL fd [x]/\(∀(s:Shared) (u:Value),BindsTo s fd ⟨[u],[]⟩ [(x,u)])/\
    ∀base:Heap,(K w.params).In base->base.Ns mainGlobals mg->hU l.prog w (K w.params) mg base (CX w) k fa fd [x] (sp w))
  (BV:∀(w:World) (H:Hp) (a:Addr) (ns:Vu),ns.length<=n->qe H->SqL (K w.params) H a (ns.map V.int)->sp w [.ref a] H (fun v _=>v = .bl true) fun _ _ _=>False)
  (De:∀(w:World) (H:Hp) (s:Shared) (e:Value) (s':Shared),CX w [] H s (fun _ _ _=>False) e s'->False) :
  PySem.W.WalkO q loose XP YP l.row.toRowW d [] (fun f vs=>PySem.call f vs):=by
 refine Att.jW hn hdf fun w s₀ s₁ mg mb fa o pm cd doc a vs ns G Y ho hd hcd hmg hobj hints hlen hg=>?_
 have KX:=hY w _ Y
 obtain⟨fd,hfl,hb,hF⟩:=F w mg fa _ KX G.T.g hmg
 exact nG KX G.T.g G.T.b G.T.builtins G.T.nolimit hg hobj hints (Fl hlen hn2) hr hF hb hfl (fun H hO hS=>BV w H a ns hlen hO hS) fun H e s'=>De w H s₁ e s'
noncomputable def b7(s:Stmt):Arguments:=match s with
 | .FunctionDef _ a _ _ _ _ _ _ _ _=>a
 |_=>{ posonlyargs:=[],args:=[],vararg:=none,kwonlyargs:=[],kw_defaults:=[],kwarg:=none,defaults:=[] }
noncomputable def bb(s:Stmt):List Stmt:=match s with
 | .FunctionDef _ _ b _ _ _ _ _ _ _=>b
 |_=>[]
noncomputable def aI(s:Stmt):Scope:=match s with
 | .FunctionDef _ _ _ _ _ _ sc _ _ _=>sc
 |_=>{ kind:=.function,names:=[],isGenerator:=false,isCoroutine:=false }
noncomputable abbrev rJ:pI:=fun _ _ _ _ _ _=>False
noncomputable abbrev E0:XK:=fun _ _ _=>False
def rK{X:Cx}:iW rJ X E0:=fun _ _ _ _ _ _ _ _ h=>h.elim
structure BW (K:Vo) (x qual:Str) (st:Stmt) (f:Addr) (fd:FuncData):Prop where
 ex:∃(oc:Value) (od:Option Addr) (kV doc pm:Value) (an:Option Addr) (cdv ct:Value) (osl:Array (Option Value)),
  fd=PySem.W.fnOf x qual (b7 st) (bb st) (aI st) .none kV doc pm an cdv ct/\K.lookup f=some ⟨oc,od,.func fd,osl⟩/\PySem.W.codeIn K cdv qual=true
 kp:PySem.W.keepIn K (.ref f)=true
section
variable {P:Program} {w:World} {K:Vo} {mg:Vr} {base:Heap}
def BW.ok{x qual:Str}{st:Stmt}{f:Addr}{fd:FuncData}{N ps:Vs}{k:Nat}{sp:Sp}(F:BW K x qual st f fd)(S:dQ N ps (aI st))(len:∀vs H Q E,sp vs H Q E->vs.length=ps.length)
  (hbody:∀(cdv:Value) (A:Around) (outer:List Env) (s:Shared) (H:Hp) (vs:List V) (Q:VK) (E:XK),Room k (A.deeper (envOfC qual (aI st) s.heap.objs.size f cdv))->sp vs H Q E->
   ∃t,AQ (kF rJ P w K mg base N qual (aI st) f cdv A outer s H E).Cu (bb st) t/\t { nx:=fun _ H'=>Q .non H',rt:=Q } (dk N vs) H):hU P w K mg base rJ (k+1) f fd ps sp:=by
 obtain⟨oc,od,kV,doc,pm,an,cdv,ct,osl,rfl,lk,hcd⟩:=F.ex
 refine vJ lk hcd S len fun A outer s H vs Q E hr BV=>?_
 obtain⟨t,h,q⟩:=hbody cdv A outer s H vs Q E hr BV
 exact⟨t,h.Cu,q⟩
def BW.binds{x qual:Str}{st:Stmt}{f:Addr}{fd:FuncData}{ps:Vs}(F:BW K x qual st f fd)
  (h:∀(kV doc pm:Value) (an:Option Addr) (cdv ct:Value) (us:Vv),us.length=ps.length->bindArgs (PySem.W.fnOf x qual (b7 st) (bb st) (aI st) .none kV doc pm an cdv ct) ⟨us,[]⟩=pure (ps.zip us)):Binds K fd ps []:=by
 obtain⟨oc,od,kV,doc,pm,an,cdv,ct,osl,rfl,lk,hcd⟩:=F.ex
 exact .all (h kV doc pm an cdv ct)
def i7{x qual:Str}{st:Stmt}{f:Addr}{oc:Value}{od an:Option Addr}{osl:Array (Option Value)}{kV doc pm cdv ct:Value}(l:K.lookup f=some ⟨oc,od,.func (PySem.W.fnOf x qual (b7 st) (bb st) (aI st) .none kV doc pm an cdv ct),osl⟩)
  (c:PySem.W.codeIn K cdv qual=true) (k:PySem.W.keepIn K (.ref f)=true):BW K x qual st f (PySem.W.fnOf x qual (b7 st) (bb st) (aI st) .none kV doc pm an cdv ct):=⟨⟨oc,od,kV,doc,pm,an,cdv,ct,osl,rfl,l,c⟩,k⟩
end
def dS{n:Nat}(h:n<=1000):n < sizeLine:=Nat.lt_of_le_of_lt h (by decide)
section
variable {X:Cx}
def mn:cz X (.builtin "len") (fun xs H Q=>∃a kvs,xs=[V.ref a]/\H a=some (.dK kvs)/\Q (.int kvs.length) H):=by
 intro pins s σ H xs us Q I r h
 obtain⟨a,kvs,rfl,ha,q⟩:=h
 obtain⟨u,rfl,ru⟩:=bV r
 cases ru
 exact vQ I (.inl ha) fun t s' I'=>⟨.int kvs.length,H,I',⟨t,rfl⟩,q⟩
end
end L2
set_option maxHeartbeats 4000000
namespace L2
open PySem PySem.Spec PyProof.Rows
def i8{prog:Program}{w:World}{A:Around}{R:Result->Shared->Prop}{s:Shared}{elt target iter:Expr}{ifs:List Expr}{scope:Scope}{pos:Pos}{it acc:Value}{env:Env}(I:Nat->Shared->Prop)
  (turn:∀n s,I n s->wpAny (model prog w) A (pyNext it) (fun r s₁=>match r with
   |none=>R (.ok .next) s₁
   |some v=>wpAny (model prog w) A (letOwnedTupleGo target it v) (fun _ s₁'=>wpAny (model prog w) A (assign target env v) (fun _ s₂=>
     wpAny (model prog w) A (forIn ifs true fun c r=>if r=true then do let ok <-isTrue c env (eval c env);pure (ForInStep.yield ok) else pure (ForInStep.yield r)) (fun ok s₃=>
      if ok=true then wpAny (model prog w) A (eval elt env) (fun x s₄=>
       wpAny (model prog w) A (call (.builtin "list.append") [acc,x]) (fun _ s₅=>∃m,m < n/\I m s₅) (fun _ _=>False) s₄) (fun _ _=>False) s₃
      else ∃m,m < n/\I m s₃) (fun _ _=>False) s₂) (fun _ _=>False) s₁') (fun _ _=>False) s₁) (fun _ _=>False) s)
  (n:Nat) (h:I n s) :
  codeAny (model prog w) A (.compLoop (.ListComp elt [⟨target,iter,ifs,0⟩] scope pos) 0 it acc env) R s:=by
 refine codeAny_loop rfl I (fun n s hI=>?_) n h
 show wpAny _ A ((compTurn (.ListComp elt [⟨target,iter,ifs,0⟩] scope pos) 0 it acc env).onRaise (fun x=>do noteFrame x env;theTreesLotGoes x)) _ _ s
 refine wpAny_noted ?_
 rw[compTurn_list]
 refine EW (wpAny_standAt (EW (Gk (turn n s hI) (fun r s₁ h₁=>?_) fun _ _ h'=>h'.elim)))
 cases r with
 |none=>exact E7 h₁
 |some v=>
  refine EW (Gk h₁ (fun _ s₁' h₁'=>?_) fun _ _ h'=>h'.elim)
  refine EW (Gk h₁' (fun _ s₂ h₂=>EW (Gk h₂ (fun ok s₃ h₃=>?_) fun _ _ h'=>h'.elim)) fun _ _ h'=>h'.elim)
  cases ok with
  |false=>exact E7 ⟨rfl,h₃⟩
  |true=>
   exact EW (EW (Gk h₃ (fun x s₄ h₄=>EW (Gk h₄ (fun _ s₅ h₅=>E7 (E7 ⟨rfl,h₅⟩)) fun _ _ h'=>h'.elim)) fun _ _ h'=>h'.elim))
structure Bk where
 C:Addr
 s:Shared
 H:Hp
 fp:List Addr
 pn:Va
noncomputable def bz(env:Env)(fs:Vs):List (Str×Addr):=fs.map fun x=>(x,(env.cells.lookup x).getD 0)
noncomputable abbrev Cx.z5(X:Cx)(N:Vs)(scope:Scope)(fs:Vs)(B:Bk):Cx:=
 { X with N:=N,s₀:=B.s,H₀:=B.H,env:=compEnvC scope (bz X.env fs) B.C X.env,outer:=X.stack,ex:=B.fp,fn:=fun _=>false,pn:=B.pn,xe:=fun _ _=>False }
noncomputable def bj(env:Env):List Str->Prop
 |[]=>True
 |x::r=>(∃c,env.cells.lookup x=some c)/\bj env r
theorem fD{env:Env}:∀{fs:Vs},bj env fs->∀{x:Str} {c:Addr},(bz env fs).lookup x=some c->env.cells.lookup x=some c
 |[],_,x,c,h=>by cases h
 |y::r,k,x,c,h=>by
  obtain⟨⟨d,hd⟩,k⟩:=k
  have h':List.lookup x ((y,(env.cells.lookup y).getD 0)::bz env r)=some c:=h
  rw[List.lookup_cons]at h'
  cases e:x == y with
  |true=>
   rw[e]at h'
   have e':x=y:=by simpa using e
   subst e'
   rw[hd]at h'
   rw[hd]
   exact h'
  |false=>
   rw[e]at h'
   exact fD k h'
noncomputable def i9(names:List (Str×NameKind))(cl:List (Str×Addr)):Bool:=names.all fun y=>(y.2 != .cell&&y.2 != .free) || (cl.lookup y.1).isSome
def nH{names:List (Str×NameKind)}{cl:List (Str×Addr)}{x:Str}{k:NameKind}(h:i9 names cl=true)(e:names.lookup x=some k)(hk:k = .cell\/k = .free):∃c,cl.lookup x=some c:=by
 have hm:(x,k)∈names:=Ga e
 have q:=Ge.mp h _ hm
 have z:(cl.lookup x).isSome=true:=by
  rcases hk with rfl|rfl
  ·simpa using q
  ·simpa using q
 exact Option.isSome_iff_exists.mp z
noncomputable def zg(env:Env)(scope:Scope)(cl:List (Str×Addr)):List Str->Prop
 |[]=>True
 |x::r=>((env.scope.names.lookup x=some .cell\/env.scope.names.lookup x=some .free)/\((relabel scope env).names.lookup x=some .cell\/(relabel scope env).names.lookup x=some .free)/\cl.lookup x=env.cells.lookup x)/\zg env scope cl r
theorem zg.mem{env:Env}{scope:Scope}{cl:List (Str×Addr)}:∀{l:Vs},zg env scope cl l->∀x∈l,
  (env.scope.names.lookup x=some .cell\/env.scope.names.lookup x=some .free)/\((relabel scope env).names.lookup x=some .cell\/(relabel scope env).names.lookup x=some .free)/\cl.lookup x=env.cells.lookup x
 |[],_,x,h=>nomatch h
 |y::r,k,x,h=>by
  rcases E1.mp h with rfl|h
  ·exact k.1
  ·exact zg.mem k.2 x h
noncomputable def cC(own:Nat)(fr:List Nat)(σ:St):St:=List.replicate own none++fr.map fun j=>(σ[j]?).getD none
noncomputable abbrev e_(us:Vv):Obj:={ cls:=.type "list",data:=.seq us.toArray us.length }
def mo(us:Vv)(u:Value):({ cls:=.type "list",data:=.seq (us.toArray.push u) (us.length+1) }:Obj)=e_ (us++[u]):=by
 show({ cls:=.type "list",data:=.seq (us.toArray.push u) (us.length+1) }:Obj)={ cls:=.type "list",data:=.seq (us++[u]).toArray (us++[u]).length }
 rw[EX,FP,List.push_toArray]
section
variable {X:Cx} {pins:Va} {σ:St} {H:Hp} {s:Shared}
def Inv.Cz{D:Addr}{us:Vv}{n:Nat}{ys:List V}(I:Inv X pins σ H s)(f:e7 X pins H D)(e:s.heap.get? D=some { cls:=.type "list",data:=.seq us.toArray n })(r:Vals ys us)(hz:ys.length<=sizeLine) :
  Inv X pins σ (upd H D (.lst ys)) s:=by
 obtain⟨f0,f1,f2,f3,f4,f5⟩:=f
 have nD:∀b u,H b=some u->b≠D:=fun b u q=>aO q f0
 have hok:z9 X.prog X.w (upd H D (.lst ys)) s.heap:=fun b u q=>by
  by_cases hb:b=D
  ·subst hb
   rw[az]at q
   cases q
   exact⟨hz,us,n,r,e⟩
  ·rw[aB hb]at q
   exact(I.hok b u q).stay (fun _ _ _ z=>z) (fun c z=>by rw[aB (nD c _ z)];exact z) fun c xs z=>by rw[aB (nD c _ z)];exact z
 exact I.step (H':=upd H D (.lst ys)) (h':=s.heap) (g':=s.gens) (t':=s.toks) (d':=s.drawn) (ch:=[D])
  (fun b hb=>by
   have z:b=D:=by simpa using hb
   subst z
   exact⟨f3,f1,f4,f5⟩)
  (fun _ _ _ _ _ q _=>q) (fun _ o _ _ _ q _=>⟨o.slots,q⟩)
  (fun b o hb _ n=>by rw[aB (fun z=>hb (by simp[z]))];exact n)
  (fun _ o _ q=>⟨o,q⟩) (fun b xs q=>by rw[aB (nD b _ q)];exact q) (fun b o u q=>by rw[aB (nD b _ q)];exact q)
  (fun b ps q=>⟨#[],by rw[aB (nD b _ q),q];simp⟩) (fun _ q=>q) hok I.bare
def tI{N:Vs}{scope:Scope}{fs:Vs}{C:Addr}{fp:List Addr}(I:Inv X pins σ H s)(hkind:scope.kind = .function)(hC:s.heap.objs.size<=C)(hcl:bj X.env fs)
  (hhas:i9 (relabel scope X.env).names (bz X.env fs)=true) (hf:∀b∈fp,e7 X pins H b) (hlt:∀b∈fp,b < s.heap.objs.size):(X.z5 N scope fs ⟨C,s,H,fp,X.pn++pins⟩).Ok where
 mod:=I.ok.mod
 kind:=hkind
 glob:=I.ok.glob
 blt:=I.ok.blt
 above:=hC
 inj:=fun x y c h1 h2=>I.ok.inj x y c (fD hcl h1) (fD hcl h2)
 has:=fun x hx=>by
  rcases hx with e|e
  ·exact nH hhas e (.inl rfl)
  ·exact nH hhas e (.inr rfl)
 BU:=fun x c h=>by cases h
 hd:=I.ok.hd
 frames:=I.ok.frames
 stk:=.inl rfl
 Cq:=fun b hb=>⟨Ft (E6 (hlt b hb) hC),fun x c e=>(hf b hb).2.2.2.2.1 x c (fD hcl e)⟩
 bs:=I.bs
 Bv:=Fl I.ok.Bv I.sz
 AO:=fun b o e hb=>(hf b hb).2.2.2.1.elim (fun z=>I.ok.AO b o e z) fun z=>absurd (E6 (E5 e) (Fl I.ok.Bv z)) (FO _)
 A4:=fun b hb z=>(E1.mp (I.Ai b z)).elim (hf b hb).2.1 (hf b hb).2.2.1
 Aa:=I.stack
 BG:=I.Ba
def qg{N:Vs}{scope:Scope}{fs:Vs}{C D:Addr}{fp:List Addr}{own:Nat}{fr:List Nat}{h₁:Heap}{m0:Vr}{t':Nat}(I:Inv X pins σ H s)
  (ok:(X.z5 N scope fs ⟨C,s,H,fp,X.pn++pins⟩).Ok) (hC:s.heap.objs.size<=C) (hD:s.heap.objs.size<=D) (hDC:D≠C) (hcl:bj X.env fs)
  (old:∀b o,s.heap.get? b=some o->h₁.get? b=some o) (hns:h₁.Ns C m0) (hacc:h₁.get? D=some (e_ [])) (hlen:N.length=own+fr.length) (hN:(N.drop own).map some=fr.map fun j=>X.N[j]?)
  (hF:zg X.env scope (bz X.env fs) (N.drop own)) (ht:1<=t':=by walk_at "t") :
  Inv (X.z5 N scope fs ⟨C,s,H,fp,X.pn++pins⟩) [(D,e_ [])] (cC own fr σ) H { s with heap:=h₁,toks:=t' }:=by
 refine⟨ok,rfl,I.bare,Un.kept old,⟨m0,hns,fun i x v e1 e2 e3=>?_⟩,fun x c e=>?_,I.hok.fresh hC,fun x c e=>I.zE x c (fD hcl e),fun p hp=>?_,I.hok.kept old,?_,ht⟩
 ·have e1:N[i]?=some x:=e1
  by_cases hi:i < own
  ·unfold cC at e2
   rw[FY (by rw[F0];exact hi),F9,if_pos hi]at e2
   cases e2
  ·obtain⟨k,rfl⟩:∃k,i=own+k:=⟨i - own,by omega⟩
   have e1':(N.drop own)[k]?=some x:=by rw[List.getElem?_drop];exact e1
   have q:=FA (fun l=>l[k]?) hN
   simp only[Fv,e1',Option.map_some]at q
   unfold cC at e2
   rw[Gf (by rw[F0];omega),F0,Nat.add_sub_cancel_left,Fv]at e2
   cases hj:fr[k]? with
   |none=>rw[hj]at e2;cases e2
   |some j=>
    rw[hj]at e2 q
    simp only[Option.map_some,Option.some.injEq]at e2 q
    have hσ:σ[j]?=some (some v):=by
     cases z:σ[j]? with
     |none=>rw[z]at e2;cases e2
     |some w=>rw[z]at e2;simp only[Option.getD_some]at e2;rw[e2]
    obtain⟨k1,k2,k3⟩:=hF.mem x (F5 e1')
    obtain⟨m,hn,hl⟩:=I.loc
    have vis:wI X.env.scope x:=by
     rcases k1 with z|z
     ·exact .inr (.inl z)
     ·exact .inr (.inr z)
    obtain⟨u,ru,l⟩:=hl j x v q.symm hσ vis
    rcases l with⟨hk,_⟩|⟨_,c,hc,o,ho,hd⟩
    ·have hk':X.env.scope.names.lookup x=some .local:=hk
     rcases k1 with z|z
     ·rw[z]at hk';cases hk'
     ·rw[z]at hk';cases hk'
    ·exact⟨u,ru,.inr ⟨k2,c,k3.trans hc,o,old _ _ ho,hd⟩⟩
 ·obtain⟨v,o,ho,hd⟩:=I.cell x c (fD hcl e)
  exact⟨v,o,old _ _ ho,hd⟩
 ·rcases Fe.mp hp with z|z
  ·obtain⟨e,n,ne,nf,d⟩:=I.pin p z
   exact⟨old _ _ e,n,Ft (E6 (E5 e) hC),fun q=>(E1.mp (I.Ai _ q)).elim ne nf,d⟩
  ·have z':p=(D,e_ []):=by simpa using z
   subst z'
   exact⟨hacc,I.hok.fresh hD,hDC,fun q=>(E1.mp (I.Ai _ q)).elim (fun e=>absurd e (Hx (E6 I.lt hD))) (I.Cr hD),fun v z=>by cases z⟩
 ·show(cC own fr σ).length=N.length
  unfold cC
  rw[EX,F0,E2,hlen]
end
def PF(X:Cx)(ifs:List Expr)(t:TT):Prop:=
 ∀(pins:Va) (s:Shared) (σ:St) (H:Hp) (Q:Bool->Hp->Prop),Inv X pins σ H s->t σ H Q->
  wpAny (model X.prog X.w) X.A (forIn ifs true fun c r=>if r=true then do let ok <-isTrue c X.env (eval c X.env);pure (ForInStep.yield ok) else pure (ForInStep.yield r)) (TP X pins σ Q) X.xe s
def xE:TT:=fun _ H Q=>Q true H
def tJ{X:Cx}:PF X [] xE:=fun _ _ _ H _ I h=>wpAny_tests_nil ⟨H,I,h⟩
def tK{X:Cx}{c:Expr}{t:TT}(h:PT X c t):PF X [c] t:=fun pins s σ H Q I q=>wpAny_tests_one (h pins s σ H Q I q)
def rL(J:It)(g:TG)(tc:TT)(te:TE)(own:Nat)(σ':St)(fin:List V->Hp->Prop)(H1:Hp):Prop:=
 ∃W:Nat->Nat->List V->Hp->Prop,(∃m,W 0 m [] H1)/\∀i m ys H,W i m ys H->
  (J.stop i H/\ys.length<=sizeLine/\fin ys H) \/
  (J.go i H/\ys.length<=sizeLine/\∃Nx:List V->Hp->Prop,(∀ys' H',Nx ys' H'->∃m',m' < m/\W (i+1) m' ys' H')/\∀x H',J.CN i H x H'->g x σ' H' fun σ2 H2=>σ2.drop own=σ'.drop own/\tc σ2 H2 fun b H3=>
   if b=true then te σ2 H3 fun y H4=>Nx (ys++[y]) H4 else Nx ys H3)
section
variable {X:Cx} {pins:Va} {σ:St} {H:Hp} {s:Shared}
variable {elt iter tg:Expr} {ifs:List Expr} {scope:Scope} {pos:Pos} {N:Vs} {own:Nat} {fr:List Nat} {fs:Vs} {g:TG} {tc:TT} {te:TE}
def gr{J:It}{fp:List Addr}{it:Addr}{tn:Nat->Heap->Prop}{fin:List V->Hp->Prop}{E:Vq}{RR:Value->Addr->Result->Shared->Prop}
  (hc:X.calm=true) (hcell:∀y∈scope.names,y.2 ≠ .cell) (hkind:scope.kind = .function) (hcl:bj X.env fs) (hhas:i9 (relabel scope X.env).names (bz X.env fs)=true)
  (hlen:N.length=own+fr.length) (hN:(N.drop own).map some=fr.map fun j=>X.N[j]?) (hF:zg X.env scope (bz X.env fs) (N.drop own))
  (hg:∀B,PG (X.z5 N scope fs B) tg g) (hf:∀B,PF (X.z5 N scope fs B) ifs tc) (he:∀B,PE (X.z5 N scope fs B) elt te)
  (I:Inv X pins σ H s) (T:kB X.prog X.w X.K tg J fp it tn) (st:tn 0 s.heap) (f:∀b∈fp,e7 X pins H b) (W:rL J g tc te own (cC own fr σ) fin H)
  (hRR:∀D C s' ys H' m',Inv X pins σ (upd H' D (.lst ys)) s'->H' D=none->s'.heap.Ns C m'->e7 X pins (upd H' D (.lst ys)) C->fin ys H'->RR (.ref D) C (.ok .next) s') :
  wpAny (model X.prog X.w) X.A (newList []) (fun acc s₃=>wpAny (model X.prog X.w) X.A (newFunctionEnv scope X.env.globals (bz X.env fs) [] X.env.qual none .none (some X.env)) (fun cenv s₄=>
   codeAny (model X.prog X.w) X.A (.compStart (.ListComp elt [⟨tg,iter,ifs,0⟩] scope pos) 0 (.ref it) acc { cenv with scope:=relabel scope X.env }) (RR acc cenv.locals) s₄) E s₃) E s:=by
 refine F7 (wpAny_newFunctionEnv hcell (by intro y hy;simp at hy) (fun h₁ Cb BJ=>?_) hkind)
 dsimp only at Cb BJ ⊢
 generalize Dh:s.heap.push { cls:=.type "list",dict:=none,data:=.seq ([]:Vv).toArray }=H2 at Cb BJ ⊢
 have hC:H2.objs.size=s.heap.objs.size+1:=by rw[<-Dh,GU]
 have Cc:s.heap.objs.size<=H2.objs.size:=by rw[hC];exact Nat.le_succ _
 have hDC:s.heap.objs.size≠H2.objs.size:=by rw[hC];exact Ft (Nat.lt_succ_self _)
 have below:∀b,b < s.heap.objs.size->b≠H2.objs.size/\b≠s.heap.objs.size:=fun b hb=>⟨by rw[hC];exact Ft (Nat.lt_succ_of_lt hb),Ft hb⟩
 have old:∀b o,s.heap.get? b=some o->h₁.get? b=some o:=fun b o e=>BJ.extBut b o (below b (E5 e)).1 (EY _ (Dh▸EY _ e))
 have hacc:h₁.get? s.heap.objs.size=some (e_ []):=BJ.extBut _ _ hDC (EY _ (Dh▸Ff _ rfl))
 have hlt:∀b∈fp,b < s.heap.objs.size:=fun b hb=>by
  obtain⟨o,e,_⟩:=T.obj 0 _ st b hb
  exact E5 e
 obtain⟨Wv,⟨m0,w0⟩,turn⟩:=W
 have ok:=tI (N:=N) I hkind Cc hcl hhas f hlt
 have loop:∀s₃:Shared,s₃={ s with heap:=h₁,toks:=s.toks+([]:List (Str×Value)).length }->
   codeAny (model X.prog X.w) X.A (.compLoop (.ListComp elt [⟨tg,iter,ifs,0⟩] scope pos) 0 (.ref it) (.ref s.heap.objs.size) (compEnvC scope (bz X.env fs) H2.objs.size X.env))
    (RR (.ref s.heap.objs.size) H2.objs.size) s₃:=by
  rintro s₃ rfl
  have I0:=qg (own:=own) (fr:=fr) (t':=s.toks+([]:List (Str×Value)).length) I ok Cc (EZ _) hDC hcl old Cb hacc hlen hN hF
  have Em:tn 0 h₁:=T.keep 0 _ _ st fun b _ o e=>old b o e
  have stat:∀{us:Vv} {H':Hp},(∀b∈fp,H' b=none)->∀b∈fp,e7 (X.z5 N scope fs ⟨H2.objs.size,s,H,fp,X.pn++pins⟩) [(s.heap.objs.size,e_ us)] H' b:=fun{us H'} hn b hb=>by
   obtain⟨f0,f1,f2,f3,f4,f5⟩:=f b hb
   refine⟨hn b hb,(below b (hlt b hb)).1,fun z=>(E1.mp (I.Ai b z)).elim f1 f2,.inl hb,fun x c e=>f4 x c (fD hcl e),fun p hp=>?_⟩
   rcases Fe.mp hp with z|z
   ·exact f5 p z
   ·have z':p=(s.heap.objs.size,e_ us):=by simpa using z
    subst z'
    exact GR (below b (hlt b hb)).2
  have Di:∀p∈X.pn++pins,p.1 < s.heap.objs.size:=fun p hp=>E5 (I.pin p hp).1
  refine i8 (fun k s'=>∃i ys us H',Inv (X.z5 N scope fs ⟨H2.objs.size,s,H,fp,X.pn++pins⟩) [(s.heap.objs.size,e_ us)] (cC own fr σ) H' s'/\Vals ys us/\tn i s'.heap/\(∀b∈fp,H' b=none)/\Wv i k ys H') ?_ m0
   ⟨0,[],[],H,I0,.nil,Em,fun b hb=>(f b hb).1,w0⟩
  rintro n s' ⟨i,ys,us,H',I',rv,st',DQ,w'⟩
  rcases turn i n ys H' w' with⟨stop,hz,Dj⟩|⟨go,hz,Nx,DR,step⟩
  ·refine yS (T.done (X.z5 N scope fs ⟨H2.objs.size,s,H,fp,X.pn++pins⟩) rfl rfl rfl hc i _ s' _ H' (fun _ _=>False) I' (stat DQ) st' stop) (fun r s1 ⟨hr,I1⟩=>?_)
   subst hr
   show RR _ _ (.ok .next) s1
   have IX:Inv X pins σ H' s1:=I.Ct I1.os I1.base I1.hok I1.bare I1.tk fun b hb=>by
    obtain⟨f0,f1,f2,f3,f4,f5⟩:=f b hb
    exact⟨f3,f1,f4,f5⟩
   obtain⟨eD,nD,_⟩:=I1.pin (s.heap.objs.size,e_ us) (by simp)
   have IT:=IX.Cz (I.A5 (H':=H') (EZ _) nD) eD rv hz
   obtain⟨m',hn',_⟩:=I1.loc
   exact hRR _ _ s1 ys H' m' IT nD hn' (I.A5 Cc (by rw[aB (GR hDC)];exact I1.free)) Dj
  ·refine yS (T.item (X.z5 N scope fs ⟨H2.objs.size,s,H,fp,X.pn++pins⟩) rfl rfl rfl hc i _ s' _ H' (fun _ _=>False) I' (stat DQ) st' go) (fun r s1 ⟨u,hr,h1⟩=>?_)
   subst hr
   show wpAny _ _ (letOwnedTupleGo tg (.ref it) u) _ _ s1
   refine yS h1 (fun _ s5 ⟨x,H5,I5,r5,y5,BH,C7⟩=>?_)
   have C8:=I5.pinned (stat C7) (T.obj _ _ BH)
   refine yS (hg _ _ s5 _ H5 x u _ C8 r5 (step x H5 y5)) (fun _ s6 ⟨σ6,H6,I6,En,q6⟩=>?_)
   refine yS (hf _ _ s6 σ6 H6 _ I6 q6) (fun b s7 ⟨H7,I7,q7⟩=>?_)
   -- Cd the turn's own names
   have forget:∀{H8:Hp} {s8:Shared} {pl:Va},Inv (X.z5 N scope fs ⟨H2.objs.size,s,H,fp,X.pn++pins⟩) pl σ6 H8 s8->Inv (X.z5 N scope fs ⟨H2.objs.size,s,H,fp,X.pn++pins⟩) pl (cC own fr σ) H8 s8:=fun{H8 s8 pl} I8=>by
    refine I8.weak (I0.len.trans I8.len.symm) fun j v e=>?_
    by_cases hj:j < own
    ·unfold cC at e
     rw[FY (by rw[F0];exact hj),F9,if_pos hj]at e
     cases e
    ·obtain⟨k,rfl⟩:∃k,j=own+k:=⟨j - own,by omega⟩
     rw[<-List.getElem?_drop]at e ⊢
     rw[En]
     exact e
   have CP:∀{H8:Hp} {s8:Shared},Inv (X.z5 N scope fs ⟨H2.objs.size,s,H,fp,X.pn++pins⟩) ([(s.heap.objs.size,e_ us)]++gh fp s5.heap) σ6 H8 s8->∀b∈fp,∀o,s5.heap.get? b=some o->s8.heap.get? b=some o/\H8 b=none:=fun I8 b hb o e=>
    let z:=I8.pin (b,o) (FF _ (FF _ (eh hb e)))
    ⟨z.1,z.2.1⟩
   cases b with
   |false=>
    show ∃m,m < n/\_
    obtain⟨m',hm,w7⟩:=DR _ _ (show Nx ys H7 from q7)
    refine⟨m',hm,i+1,ys,us,H7,(forget I7).Ab,rv,T.keep _ _ _ BH fun b hb o e=>(CP I7 b hb o e).1,fun b hb=>?_,w7⟩
    obtain⟨o,e,_⟩:=T.obj _ _ BH b hb
    exact(CP I7 b hb o e).2
   |true=>
    show wpAny _ _ (eval elt _) _ _ s7
    have Eo:te σ6 H7 fun y H4=>Nx (ys++[y]) H4:=q7
    refine yS (he _ _ s7 σ6 H7 _ I7 Eo) (fun v s8 ⟨y,H8,I8,r8,n8⟩=>?_)
    obtain⟨m',hm,w8⟩:=DR _ _ n8
    obtain⟨eD,nD,DS,Ep,_⟩:=I8.pin (s.heap.objs.size,e_ us) (FF _ (Gy _ (by simp)))
    refine append_at (hsz:=by show us.toArray.size<=sizeLine;rw[E4,<-rv.length];exact hz) eD fun h9 DT Er=>?_
    have J0:Inv (X.z5 N scope fs ⟨H2.objs.size,s,H,fp,X.pn++pins⟩) [] σ6 H8 s8:=I8.At fun p hp=>nomatch hp
    have J1:Inv (X.z5 N scope fs ⟨H2.objs.size,s,H,fp,X.pn++pins⟩) [] σ6 H8 { s8 with heap:=h9 }:=J0.turned (t':=s8.toks) (it:=s.heap.objs.size) (fun b o hb e=>(DT.2 b hb).trans e) nD DS (.inr (EZ _))
     (fun x c e z=>by
      obtain⟨v',q⟩:=I.cell x c (fD hcl e)
      exact absurd (E6 q.lt (by rw[z];exact EZ _)) (FO _))
     (fun p hp=>by
      rw[F2]at hp
      exact Ft (Di p hp))
    have J2:Inv (X.z5 N scope fs ⟨H2.objs.size,s,H,fp,X.pn++pins⟩) [(s.heap.objs.size,e_ (us++[v]))] σ6 H8 { s8 with heap:=h9 }:=J1.At fun p hp=>by
     have z':p=(s.heap.objs.size,e_ (us++[v])):=by simpa using hp
     subst z'
     exact⟨Er.trans (FA some (mo us v)),nD,DS,Ep,fun v z=>by cases z⟩
    refine⟨m',hm,i+1,ys++[y],us++[v],H8,forget J2,Vals.append rv (.cons r8 .nil),T.keep _ _ _ BH fun b hb o e=>(DT.2 b (below b (hlt b hb)).2).trans (CP I8 b hb o e).1,fun b hb=>?_,w8⟩
    obtain⟨o,e,_⟩:=T.obj _ _ BH b hb
    exact(CP I8 b hb o e).2
 exact codeAny_compStart_list (loop _ rfl) (T.self _ 0 _ _ _ (T.keep 0 _ _ st fun b _ o e=>old b o e) (loop _ rfl))
def nI(wi:TI)(g:TG)(tc:TT)(te:TE)(own:Nat)(fr:List Nat):TE:=fun σ H Q=>wi σ H fun J H1=>
 rL J g tc te own (cC own fr σ) (fun ys H2=>∀D,H2 D=none->Q (.ref D) (upd H2 D (.lst ys))) H1
def qh(fs:Vs)(own:Nat)(fr:List Nat)(N:Vs){wi:TI}(hc:X.calm=true)(hclos:closureFor scope X.env=pure (bz X.env fs))(hcell:∀y∈scope.names,y.2 ≠ .cell)(hkind:scope.kind = .function)
  (hnames:∀x∈scope.names,x.2 = .local->scope.names.lookup x.1=some .local) (hcl:bj X.env fs) (hhas:i9 (relabel scope X.env).names (bz X.env fs)=true)
  (hlen:N.length=own+fr.length) (hN:(N.drop own).map some=fr.map fun j=>X.N[j]?) (hF:zg X.env scope (bz X.env fs) (N.drop own))
  (hi:PI X tg iter wi) (hg:∀B,PG (X.z5 N scope fs B) tg g) (hf:∀B,PF (X.z5 N scope fs B) ifs tc) (he:∀B,PE (X.z5 N scope fs B) elt te)
  (hs:∀x,foldedSetIterable iter X.env x=pure x:=by intro _;rfl):PE X (.ListComp elt [⟨tg,iter,ifs,0⟩] scope pos) (nI wi g tc te own fr):=by
 intro pins s σ H Q I h
 rw[eval_ListComp]
 refine wpAny_comprehension_free (use:=none) (g:=⟨tg,iter,ifs,0⟩) (gs:=[]) rfl hs hclos hkind hnames (yS (hi pins s σ H _ I h) fun v s1 h1=>yS h1 fun itv s2 h2=>?_)
 obtain⟨it,fp,tn,J,H2,e,I2,T,st2,f2,W⟩:=h2
 subst e
 refine gr (RR:=fun acc C=>compPost (model X.prog X.w) X.A X.xe none (EP X pins σ Q) acc C) hc hcell hkind hcl hhas hlen hN hF hg hf he I2 T st2 f2 W ?_
 intro D C s' ys H' m' I' nD hn fC fin
 exact⟨m',hn,fun h' hs'=>⟨.ref D,_,I'.turned (t':=s'.toks) (fun b o hb e=>(hs'.2 b hb).trans e) fC.1 fC.2.1 fC.2.2.2.1 fC.2.2.2.2.1 fC.2.2.2.2.2,rfl,fin D nD⟩⟩
def qi(fs:Vs)(own:Nat)(fr:List Nat)(N:Vs){wi:TI}{i:Nat}{y:Str}{py spos:Pos}(hX:X.N.Nodup)(hix:X.N[i]?=some y)(hy:X.env.scope.names.lookup y=some .local)
  (hsw:swapsWith (.ListComp elt [⟨tg,iter,ifs,0⟩] scope pos) (some (.Name y py)) spos.line X.env=pure true)
  (hc:X.calm=true) (hclos:closureFor scope X.env=pure (bz X.env fs)) (hcell:∀y∈scope.names,y.2 ≠ .cell) (hkind:scope.kind = .function)
  (hnames:∀x∈scope.names,x.2 = .local->scope.names.lookup x.1=some .local) (hcl:bj X.env fs) (hhas:i9 (relabel scope X.env).names (bz X.env fs)=true)
  (hlen:N.length=own+fr.length) (hN:(N.drop own).map some=fr.map fun j=>X.N[j]?) (hF:zg X.env scope (bz X.env fs) (N.drop own))
  (hi:PI X tg iter wi) (hg:∀B,PG (X.z5 N scope fs B) tg g) (hf:∀B,PF (X.z5 N scope fs B) ifs tc) (he:∀B,PE (X.z5 N scope fs B) elt te)
  (hs:∀x,foldedSetIterable iter X.env x=pure x:=by intro _;rfl):PS X (.Assign [.Name y py] (.ListComp elt [⟨tg,iter,ifs,0⟩] scope pos) spos) (pV (nI wi g tc te own fr) (jQ i)):=by
 intro pins s σ H D I h
 rw[exec_Assign_Name_used _ _ _ _ hsw]
 refine EW (wpAny_standAt (EW ?_))
 show wpAny _ X.A (do let _ <-comprehension (.ListComp elt [⟨tg,iter,ifs,0⟩] scope pos) scope X.env _ (newList []) false (eval iter X.env) (some (assign (.Name y py) X.env))) _ _ s
 refine EW (Gk (wpAny_comprehension_free (use:=some (assign (.Name y py) X.env)) (Q:=fun _ s'=>SP X pins D .next s') (g:=⟨tg,iter,ifs,0⟩) (gs:=[]) rfl hs hclos hkind hnames
  (yS (hi pins s σ H _ I h) fun v s1 h1=>yS h1 fun itv s2 h2=>?_)) (fun _ s' hq=>E7 (E7 hq)) fun _ _ e=>e)
 obtain⟨it,fp,tn,J,H2,e,I2,T,st2,f2,W⟩:=h2
 subst e
 refine gr (RR:=fun acc C=>compPost (model X.prog X.w) X.A X.xe (some (assign (.Name y py) X.env)) (fun _ s'=>SP X pins D .next s') acc C) hc hcell hkind hcl hhas hlen hN hF hg hf he I2 T st2 f2 W ?_
 intro Da C s' ys H' m' I' nD hn fC fin
 show wpAny _ X.A (assign (.Name y py) X.env (.ref Da)) _ _ s'
 refine wpAny_assign_Name (ik (v:=.ref Da) I' hX hix (.inl hy) rfl (fun s2 I3 ⟨a,sb,ha⟩=>?_) (.inr hy))
 have ca:C≠a:=by
  rcases ha with z|z
  ·rw[z];exact fC.2.1
  ·exact GR (fC.2.2.2.2.1 _ _ z)
 exact⟨m',hn.sameBut sb ca,fun h' hs'=>⟨_,_,I3.turned (t':=s2.toks) (fun b o hb e=>(hs'.2 b hb).trans e) fC.1 fC.2.1 fC.2.2.2.1 fC.2.2.2.2.1 fC.2.2.2.2.2,fin Da nD⟩⟩
end
end L2
namespace PySem
open Sem (wp)
namespace F
def iz:typeLookup (.type "list_reverseiterator") "__len__" = pure none:=by rw[typeLookup_type,builtinLookup_eq_fast];kernel_rfl
def jX:typeLookup (.type "list_reverseiterator") "__length_hint__" = pure (some (.builtin "list_reverseiterator.__length_hint__")):=by rw[typeLookup_type,builtinLookup_eq_fast];kernel_rfl
end F
section
variable {prog:Program} {w:World} {A:Around} {s:Shared} {R:Result->Shared->Prop}
variable {I:Addr} {fp wr:List Addr} {G:Array GenState->Array GenState->Prop} {n:Nat} {P:Nat->Value->Prop} {St:Nat->Shared->Prop}
def kK(W:WalksS prog w A.in1 I fp wr G n P St)(hT:∀i s,St i s->s.TypeIs (.ref I) "list_reverseiterator")(S:Addr)(res:Value)(c₀:Nat)(hst:St 0 s)(hSf:S ∉ fp)(hI:I∈fp)
  (hS:s.heap.get? S=some { cls:=.type "list",data:=.seq #[] c₀ })
  (hR:∀s' acc' c',Moved (S::wr) G s s'->s'.heap.get? S=some { cls:=.type "list",dict:=none,data:=.seq acc' c',slots:=#[] }->ItemsOf P acc' n->R (.ok (.ret res)) s') (hn:n<=sizeLine) :
  wpAny (model prog w) A.in1 (Builtin.List.listExtendWith (.ref S) (.ref I) res)
   (fun fin s'=>match fin with | .done f=>R (.ok f) s' | .again c'=>c'.quiet=true/\codeAny (model prog w) A c' R s') (fun e s'=>R (.error e) s') s:=by
 have hSI:S≠I:=fun e=>hSf (e▸hI)
 have h1:Builtin.List.listSameRef (.ref S) (.ref I)=false:=by simp[Builtin.List.listSameRef,hSI]
 unfold Builtin.List.listExtendWith
 refine EW (GW (hT 0 _ hst) ?_)
 rw[if_neg (by rw[h1];decide)]
 refine EW (W.self 0 _ _ _ hst ?_)
 refine EW (Gu ?_)
 unfold Builtin.List.listLengthHint
 refine EW (G9 (hT 0 _ hst) F.iz ?_)
 show wpAny _ A.in1 (specialOf (Value.ref I) (Str.ofString "__length_hint__") >>= _) _ _ _
 refine EW (G9 (hT 0 _ hst) F.jX ?_)
 (generalize hid:("list_reverseiterator.__length_hint__":String)=Dk;wp_delta;rw[show splitId Dk=some ("list_reverseiterator","__length_hint__")from by subst hid;decide +kernel];subst hid)
 refine EW (wpAny_isInstance (b:=true) (hT 0 _ hst) (by rw[isSubtype_type];kernel_rfl) ?_)
 refine E7 ?_
 rw[if_neg (by decide)]
 exact E7 ⟨plainId_quiet F.plain_extend_loop _,codeAny_extend_loopS W hn _ hSf _ n 0 _ _ _ rfl (FE _) hst hS (ItemsOf.nil P) fun s' acc' c' hm hS' hacc=>hR s' acc' c' hm hS' hacc⟩
def hZ(W:WalksS prog w A.in1 I fp wr G n P St)(hT:∀i s,St i s->s.TypeIs (.ref I) "list_reverseiterator")(S:Addr)(hst:St 0 s)(hSf:S ∉ fp)(hI:I∈fp)
  (hS:s.heap.get? S=some { cls:=.type "list",data:=.seq #[] })
  (hR:∀s' acc' c',Moved (S::wr) G s s'->s'.heap.get? S=some { cls:=.type "list",dict:=none,data:=.seq acc' c',slots:=#[] }->ItemsOf P acc' n->R (.ok (.ret .none)) s') (hn:n<=sizeLine) :
  wpAny (model prog w) A.in1 (Builtin.«list.__init__» ⟨[.ref S,.ref I],[]⟩)
   (fun fin s'=>match fin with | .done f=>R (.ok f) s' | .again c'=>c'.quiet=true/\codeAny (model prog w) A c' R s') (fun e s'=>R (.error e) s') s:=by
 show wpAny _ A.in1 (do let old <-Builtin.List.listItems (.ref S);Builtin.List.listUpdate (.ref S) (fun _=>#[]);letGo old.toList.reverse;Builtin.List.listExtendWith (.ref S) (.ref I) .none) _ _ s
 refine EW ?_
 unfold Builtin.List.listItems
 refine EW (wpAny_seqItems hS rfl (E7 ?_))
 show wpAny _ A.in1 (updateSeq S (fun _=>#[]) >>= fun _=>letGo (#[]:Vw).toList.reverse >>= fun _=>Builtin.List.listExtendWith (.ref S) (.ref I) .none) _ _ s
 refine EW (wpAny_updateSeq hS rfl ?_)
 have Es:=Heap.get?_update_self (Obj.mapSeq (fun _=>(#[]:Vw))) hS rfl
 have DU:∀b o,b≠S->s.heap.get? b=some o->(s.heap.update S (Obj.mapSeq (fun _=>(#[]:Vw)))).get? b=some o:=
  fun b o hb e=>(GX _ _ (GR hb)).trans e
 refine EW (wpAny_letGo ?_)
 refine kK (hn:=hn) W hT S .none _ (W.frame 0 s _ s.toks hst (EZ _) fun b hb o e=>DU b o (fun h=>hSf (h▸hb)) e) hSf hI Es fun s' acc' c' hm hS' hacc=>?_
 exact hR s' acc' c' (Moved.trans W.gtrans ((Moved.refl W.grefl).then_heap (EZ _) fun b o hb e=>DU b o (fun h=>hb (h▸Fg)) e) hm) hS' hacc
end
section
variable {prog:Program} {w:World} {A:Around} {E:Vq} {s:Shared}
def h_{I l:Addr}{items:Vw}{Q:Vq}(hh:A.handled=none)(hl:s.heap.IsList l items)(hit:s.heap.IsRevIter I l ((items.size:Int) - 1))(hne:l≠I)(hn:items.size<=sizeLine)
  (hQ:∀h' tk acc' c',(∀b o,b≠I->s.heap.get? b=some o->h'.get? b=some o)->h'.get? s.heap.objs.size=some { cls:=.type "list",dict:=none,data:=.seq acc' c',slots:=#[] }->
   acc'.toList=items.toList.reverse->Q (.ref s.heap.objs.size) { s with heap:=h',toks:=tk }) :
  wpAny (model prog w) A (call (.type "list") [.ref I]) Q E s:=by
 have W:=(Walks.listRev (prog:=prog) (w:=w) (A:=A.in1.in1) hh I l hne items).toS
 have Ce:I < s.heap.objs.size:=by obtain⟨o,ho,_⟩:=hit;exact E5 ho
 have Cf:l < s.heap.objs.size:=by obtain⟨o,ho,_⟩:=hl;exact E5 ho
 have hfp:∀b∈[I,l],b < s.heap.objs.size:=fun b hb=>by
  rcases E1.mp hb with rfl|hb
  ·exact Ce
  ·rw[E8.mp hb];exact Cf
 have hSf:s.heap.objs.size ∉ [I,l]:=fun hm=>FO _ (hfp _ hm)
 have hst:(fun i (s:Shared)=>i<=items.size/\s.heap.IsRevIter I l ((items.size:Int) - 1 - (i:Int))/\s.heap.IsList l items) 0 s:=⟨FE _,by simpa using hit,hl⟩
 refine callType_codes (Q₁:=fun obj s₁=>obj = .ref s.heap.objs.size/\s₁={ s with heap:=s.heap.push { cls:=.type "list",data:=.seq #[] } }) F.called_list (F.typeCall_list_1 _) F.entry_list_init
  (code_list_new _ ⟨rfl,rfl⟩) fun obj s₁ h₁=>?_
 obtain⟨rfl,rfl⟩:=h₁
 have hS:(s.heap.push { cls:=.type "list",data:=.seq #[] }).get? s.heap.objs.size=some { cls:=.type "list",data:=.seq #[] }:=Ff _ rfl
 refine⟨⟨_,hS,rfl⟩,F.args_list_init_2 _ _,hZ (hn:=hn) W (fun i s st=>st.2.1.typeIs) _ (W.frame 0 s _ s.toks hst (EZ _) fun b _ o e=>EY _ e) hSf (Fg ..) hS fun s' acc' c' hm hS' hacc=>?_⟩
 refine⟨rfl,?_⟩
 rw[hm.eq_with]
 refine hQ s'.heap s'.toks acc' c' (fun b o hb e=>hm.heap b o (fun z=>?_) (EY _ e)) hS' ?_
 ·rcases E1.mp z with z|z
  ·exact absurd (E5 e) (by rw[z];exact FO _)
  ·exact hb (E8.mp z)
 ·obtain⟨hsz,hP⟩:=hacc
  apply List.ext_getElem?
  intro j
  by_cases hj:j < items.size
  ·have hj':j < acc'.size:=by rw[hsz];exact hj
   have q:=hP j acc'[j] (by simp[hj'])
   have e1:acc'.toList[j]?=some acc'[j]:=by simp[hj']
   rw[e1,List.getElem?_reverse (by simpa using hj)]
   simpa using q.symm
  ·rw[FQ (by simpa [hsz]using hj),FQ (by simpa using hj)]
end
end PySem
namespace L2
open PySem PySem.Spec PyProof.Rows
section
variable {X:Cx}
def nJ(K:Vo)(te:TE):TE:=fun σ H Q=>te σ H fun x H1=>∃a xs,x = .ref a/\SqL K H1 a xs/\∀q,H1 q=none->Q (.ref q) (upd H1 q (.lst xs.reverse))
def kL{e:Expr}{te:TE}{p1 p2 q1 q2:Pos}(hc:X.calm=true)(he:PE X e te)(CQ:Gl X "list")(hm1:X.mg "list" = none)(Dl:Gl X "reversed")(hm2:X.mg "reversed" = none)
  (hs:starEach [e] X.env=[(false,eval e X.env)]:=by rfl) (hs2:starEach [.Call (.Name "reversed" p2) [e] [] q2] X.env=[(false,eval (.Call (.Name "reversed" p2) [e] [] q2) X.env)]:=by rfl) :
  PE X (.Call (.Name "list" p1) [.Call (.Name "reversed" p2) [e] [] q2] [] q1) (nJ X.K te):=by
 intro pins s σ H Q I h
 refine F3 (cK I CQ hm1 (u:=.type "list") (by decide +kernel) ?_)
 refine Fz ?_ hs2 rfl
 rw[hs2]
 show wpAny _ _ (spliced ((false,eval (.Call (.Name "reversed" p2) [e] [] q2) X.env)::backTo q1 [])) _ _ s
 refine FT ?_
 refine F3 (cK I Dl hm2 (u:=.type "reversed") boot_reversed ?_)
 refine Fz ?_ hs rfl
 rw[hs]
 show wpAny _ _ (spliced ((false,eval e X.env)::backTo q2 [])) _ _ s
 refine FT (yS (he pins s σ H _ I h) fun u s1 ⟨x,H1,I1,r1,a,xs,ex,hx,q⟩=>?_)
 subst ex
 cases r1
 obtain⟨its,rv,p,hz⟩:=I1.list hx
 have hl:=rv.length
 have hal:a < s1.heap.objs.size:=by obtain⟨o,ho,_⟩:=p.isList;exact E5 ho
 refine F8 (call_reversed_list p.isList ?_)
 refine F8 ?_
 refine Fj (show 1<=s1.toks from I1.tk) (h_ (I.ok.hd hc) (p.isList.push _) ⟨_,Ff _ rfl,rfl,rfl⟩ (Ft hal) (by rw[E4,<-hl];exact hz) fun h' tk acc c hk hS ha ht=>?_)
 have hsz:(s1.heap.push (revObj a ((its.toArray.size:Int) - 1))).objs.size=s1.heap.objs.size+1:=GU _ _
 have hle:s1.heap.objs.size<=(s1.heap.push (revObj a ((its.toArray.size:Int) - 1))).objs.size:=by rw[hsz];exact Nat.le_succ _
 refine⟨.ref _,_,I1.laid (a:=(s1.heap.push (revObj a ((its.toArray.size:Int) - 1))).objs.size) (o:=.lst xs.reverse) (h':=h') (t':=tk) (fun b u e=>hk b u (Ft (E5 e)) (EY _ e)) hle ?_,rfl,q _ (I1.hok.fresh hle)⟩
 refine⟨by rw[Hj];exact hz,its.reverse,c,Vals.reverse rv,?_⟩
 rw[hS]
 have e:acc=its.reverse.toArray:=by
  apply Array.toList_inj.mp
  rw[ha]
 rw[e]
end
section
variable {X:Cx}
noncomputable abbrev fE(c:Nat):Str:=⟨#[c]⟩
noncomputable def xF(z:Str):It:=⟨fun i _=>i < z.cps.size,fun i H x H'=>H'=H/\∃c,z.cps[i]?=some c/\x = .str (fE c),fun i _=>z.cps.size<=i⟩
def nK{P:Program}{w:World}{K:Vo}{tg:Expr}{ty:String}(hty:ty = "str_ascii_iterator" \/ ty = "str_iterator")(it:Addr)(z:Str)(t:Tok):kB P w K tg (xF z) [it] it (fun i h=>i<=z.cps.size/\h.IsStrIter it ty z t i):=by
 have W:∀A':Around,A'.handled=none->Walks P w A' it [it] [it] z.cps.size (SignAt z) (fun i h=>h.IsStrIter it ty z t i):=fun A' hA=>by
  rcases hty with rfl|rfl
  ·exact Walks.strAscii hA it z t
  ·exact Walks.strWide hA it z t
 have nt:(["enumerate","zip","dict_itemiterator","dict_reverseitemiterator","odict_iterator","itertools.zip_longest","itertools.pairwise"].contains ty)=false:=by
  rcases hty with rfl|rfl<;>decide
 refine⟨by simp,fun i h st b hb=>?_,fun i h h' st k=>?_,?_,?_,?_⟩
 ·have e:b=it:=by simpa using hb
  subst e
  obtain⟨_,o,e,c,d⟩:=st
  exact⟨o,e,fun v q=>by rw[d]at q;cases q⟩
 ·obtain⟨hi,o,e,r⟩:=st
  exact⟨hi,o,k it (by simp) o e,r⟩
 ·intro X hP hw hK hc i pins s σ H E I hf st hg
  subst hP hw hK
  obtain⟨f0,f1,f2,f3,f4,f5⟩:=hf it (by simp)
  refine Fj I.tk ((W X.A (I.ok.hd hc)).item i s _ _ hg st.2 fun v h' tk hv st' kk ht=>?_)
  obtain⟨c,u,hcp,rfl⟩:=hv
  have I1:Inv X pins σ H { s with heap:=h',toks:=tk }:=I.turned (fun b o hb e=>kk b o (by simpa using hb) e) f0 f1 f3 f4 f5
  obtain⟨o,e,co,d⟩:=id st'
  exact⟨_,rfl,jR (s:={ s with heap:=h',toks:=tk }) e co d nt ⟨.str (fE c),H,I1,⟨u,rfl⟩,⟨rfl,c,hcp,rfl⟩,⟨hg,st'⟩,fun b hb=>(hf b hb).1⟩⟩
 ·intro X hP hw hK hc i pins s σ H E I hf st hg
  subst hP hw hK
  obtain⟨f0,f1,f2,f3,f4,f5⟩:=hf it (by simp)
  have e:i=z.cps.size:=Nat.le_antisymm st.1 hg
  subst e
  exact Fj I.tk ((W X.A (I.ok.hd hc)).done s _ _ st.2 fun h' tk kk ht=>⟨rfl,I.turned (fun b o hb e=>kk b o (by simpa using hb) e) f0 f1 f3 f4 f5⟩)
 ·intro A i s Q E st h
  rcases hty with rfl|rfl
  ·exact wpAny_pyIter_striter_ascii st.2 h
  ·exact wpAny_pyIter_striter_wide st.2 h
def ly{ys:Vs}:∀{us:Vv},Vals (ys.map V.str) us->StrsAre us ys:=by
 induction ys with
 |nil=>intro us r;rw[Fo]at r;cases r;exact .nil
 |cons n ns ih=>
  intro us r
  rw[EV]at r
  cases r with
  |cons r1 r2=>
   obtain⟨t,e⟩:=r1
   subst e
   exact .cons n t (ih r2)
noncomputable def vT(K:Vo):V->List V->Hp->VK->Prop:=fun x vs H Q=>∃sep p ys,x = .str sep/\vs=[.ref p]/\SqL K H p (ys.map V.str)/\(ys.map (·.length)).sum+ys.length * sep.length<=1000000/\Q (.str (Txt.join sep ys)) H
def qj:tt X "str.join" (vT X.K):=by
 intro pins s σ H x vs v us Q I rx rv h
 obtain⟨sep,p,ys,rfl,rfl,hp,hz,q⟩:=h
 obtain⟨t,rfl⟩:=rx
 obtain⟨u,rfl,ru⟩:=bV rv
 cases ru
 obtain⟨its,r,pl,_⟩:=I.list hp
 exact Fj I.tk (join_list pl.isList (by simpa using ly r) (by omega) fun t' k ht=>⟨.str _,H,I.tok k ht,⟨t',rfl⟩,q⟩)
def mq(hc:X.calm=true):cz X (.builtin "all") (fun xs H Q=>∃(p:Addr) (bs:List Bool),xs=[.ref p]/\SqL X.K H p (bs.map V.bl)/\Q (.bl (bs.all id)) H):=by
 intro pins s σ H xs us Q I r h
 obtain⟨p,bs,rfl,hp,q⟩:=h
 obtain⟨u,rfl,rx⟩:=bV r
 cases rx
 obtain⟨its,rv,pl,hz⟩:=I.list hp
 have hl:=rv.length
 rw[E2]at hl
 have hlt:p < s.heap.objs.size:=by obtain⟨o,ho,_⟩:=pl.isList;exact E5 ho
 refine Fj I.tk (call_all_walk (wpAny_pyIter_list pl.isList ?_))
 have up:∀b o,s.heap.get? b=some o->(s.heap.push { cls:=.type "list_iterator",data:=.fields #[.ref p,.int 0 0] }).get? b=some o:=fun b o e=>EY _ e
 refine⟨s.heap.objs.size,_,_,_,_,_,fun i=>(bs[i]?).getD true,rfl,Walks.list (A:=X.A.in1) (I.ok.hd hc) s.heap.objs.size p (Ft hlt) its.toArray,⟨⟨_,Ff _ rfl,rfl,rfl⟩,pl.isList.push _⟩,?_,fun h' tk hk ht=>?_⟩
 ·intro i v s' Q' E' hv hq
  have hi:i < its.length:=by
   by_cases z:i < its.length
   ·exact z
   ·rw[Array.getElem?_eq_none (by simpa using z)]at hv;cases hv
  obtain⟨u',e1,r1⟩:=rv.get (i:=i) (x:=.bl bs[i]) (by rw[Fv,F4 (by omega)];rfl)
  have e2:v=u':=by
   have z:its[i]?=some v:=by simpa using hv
   rw[z]at e1;exact FI e1
  subst e2
  cases (show v=Value.bool bs[i] from r1)
  refine GS ?_
  have hq':Q' ((bs[i]?).getD true) s':=hq
  rw[F4 (show i < bs.length by omega)]at hq'
  exact hq'
 ·have e:(List.range its.toArray.size).all (fun i=>(bs[i]?).getD true)=bs.all id:=by
   rw[E4,<-hl,Gr,Ge,Ge]
   constructor
   ·intro h1 x hx
    obtain⟨j,hj,e⟩:=List.getElem_of_mem hx
    have q1:=h1 j (List.mem_range.mpr hj)
    rw[F4 hj]at q1
    rw[<-e];exact q1
   ·intro h1 j hj
    have hj':=List.mem_range.mp hj
    rw[F4 hj']
    exact h1 _ (List.getElem_mem hj')
  rw[e]
  exact⟨.bl _,H,(I.kept (t':=tk) (h':=h') fun b o eo=>hk b o (by
   intro hm
   have hb:b=s.heap.objs.size:=by simpa using hm
   exact absurd (E5 eo) (by rw[hb];exact FO _)) (up b o eo)),rfl,q⟩
end
section
variable {X:Cx}
noncomputable def xG:V->Option Int->Option Int->Hp->VK->Prop:=fun x lo hi H Q=>∃z,x = .str z/\z.length<=sizeLine/\Q (.str (Txt.slice z lo hi)) H
def tL:u8 X xG:=by
 intro pins s σ H x v vl vu lo hi sl Q I rx hs pl pu h
 obtain⟨z,rfl,hz,q⟩:=h
 obtain⟨t,rfl⟩:=rx
 refine⟨"str",_,F.slot_str_getitem.lookup,GJ _ _ _,?_⟩
 obtain⟨o,e,c,d⟩:=hs
 have fin:∀l u:Option (Int×Tok),(vl=partValue l/\lo=l.map (·.1))->(vu=partValue u/\hi=u.map (·.1))->wpAny (model X.prog X.w) X.A (getItem (.str z t) (.ref sl)) (EP X pins σ Q) X.xe s:=by
  rintro l u ⟨rfl,rfl⟩ ⟨rfl,rfl⟩
  exact Fj I.tk (wpAny_getItem_str_slice (l:=l) (u:=u) (st:=none) ⟨o,e,c,d⟩ rfl (post_val_or_str ⟨Fl (Txt.slice_le z _ _) hz,fun t' k ht=>⟨.str _,H,I.tok k,⟨t',rfl⟩,q⟩⟩))
 cases pl with
 |none=>
  cases pu with
  |none=>exact fin none none ⟨rfl,rfl⟩ ⟨rfl,rfl⟩
  |int j uj=>exact fin none (some (j,uj)) ⟨rfl,rfl⟩ ⟨rfl,rfl⟩
 |int i ui=>
  cases pu with
  |none=>exact fin (some (i,ui)) none ⟨rfl,rfl⟩ ⟨rfl,rfl⟩
  |int j uj=>exact fin (some (i,ui)) (some (j,uj)) ⟨rfl,rfl⟩ ⟨rfl,rfl⟩
end
end L2
namespace Zt
open PySem
open Sem (wp)
end Zt
namespace L2
open PySem PySem.Spec PyProof.Rows
section
variable {X:Cx}
def KD(P:Program)(w:World)(K:Vo)(a:Addr)(kvs:List (aL×V)):Prop:=(a == sysModules)=false/\∃o vs,K.lookup a=some o/\KV kvs vs/\Obj.IsDictOf (aA P w) o vs
def vU(a:Addr)(kvs:List (aL×V))(ty tx:TE):TE:=fun σ H Q=>ty σ H fun y H2=>tx σ H2 fun z H3=>∃k,y=kV k/\Q ((cM kvs k).getD z) H3
def qk{x:Str}{e f:Expr}{px apos cpos:Pos}{ty tx:TE}{a:Addr}{kvs:List (aL×V)}(hu:X.A.units+1 < cLine)(hg:Gl X x)(hm:X.mg x=some (.ref a))(hD:KD X.prog X.w X.K a kvs)(he:PE X e ty)(hf:PE X f tx)(m:M2 X (.Name x px) "get" apos e f cpos)
  (hd:(x == ("__debug__":Str))=false:=by decide):PE X (.Call (.Attribute (.Name x px) "get" apos) [e,f] [] cpos) (vU a kvs ty tx):=by
 intro pins s σ H Q I h
 obtain⟨hsys,o,vs,hk,rel,ii⟩:=hD
 have dd:∀{s1:Shared} {H1:Hp},Inv X pins σ H1 s1->s1.heap.DictOf (aA X.prog X.w) a vs:=fun I1=>Heap.dictOf_iff.mpr ⟨o,I1.Bw a o hk,ii⟩
 refine wpAny_Call_method m.base m.few m.line PySem.F.plainAttrs_dict PySem.F.slot_dict_get PySem.F.type_dict_get (fX I hg hm ?_ hd)
 refine⟨(dd I).typeIs,fun b q=>?_,?_⟩
 ·cases q
  obtain⟨ob,_,_,h1,h2,_⟩:=dd I
  exact⟨ob,h1,h2.2.1⟩
 rw[m.trees]
 refine Gb rfl (Gz (FT (yS (he pins s σ H _ I h) fun iv s2 ⟨y,H2,I2,ry,q2⟩=>
  FT (yS (hf pins s2 σ H2 _ I2 q2) fun fv s3 ⟨z,H3,I3,rz,k,ey,q3⟩=>F8 ?_))))
 subst ey
 refine call_meetsIn PySem.F.slot_dict_get (dd I3).typeIs PySem.F.entry_dict_get (PySem.F.args_dict_get_3 _ _ _) (meets_dict_get_default (aA X.prog X.w) a (eI ry) hsys fv) ⟨_,(dd I3).mapOf,⟨_,H3,I3.tok _,?_,q3⟩⟩
 exact(rel.val k).getD rz
end
section
variable {env:Env} {rest:List Expr} {pos:Pos}
def ql{x:Str}:starEach (.Name x pos::rest) env=(false,eval (.Name x pos) env)::starEach rest env:=rfl
def mr{a:Expr}{gs:List Comprehension}{sc:Scope}:starEach (.ListComp a gs sc pos::rest) env=(false,eval (.ListComp a gs sc pos) env)::starEach rest env:=rfl
end
end L2
namespace Et
open PySem
open Sem (wp)
open AutoSeq1 (wpAny_loadPart')
end Et
namespace L2
open PySem PySem.Spec PyProof.Rows
def jY(w:World)(x:Str):PyData.keyHash w.params x=hashStr w x:=rfl
noncomputable abbrev wO(w:World)(x:Str×Int×Tok×Tok):DictEntry:=⟨PyData.keyHash w.params x.1,.str x.1 x.2.2.1,.int x.2.1 x.2.2.2⟩
def tM(P:Program)(w:World)(xs:List (Str×Int×Tok×Tok))(ep:Nat)(nd:(xs.map (·.1)).Nodup) :
  ∃vs,KV (xs.map fun x=>((Sum.inr x.1:aL),V.int x.2.1)) vs/\Obj.IsDictOf (aA P w) { cls:=.type "dict",data:=.dict (xs.map (wO w)).toArray ep } vs:=by
 refine⟨xs.map fun x=>((Sum.inr x.1:aL),Value.int x.2.1 x.2.2.2),?_,(xs.map (wO w)).toArray,ep,⟨rfl,rfl,rfl⟩,rfl,?_,?_,?_⟩
 ·induction xs with
  |nil=>exact .nil
  |cons x xs ih=>exact .cons ⟨rfl,_,rfl⟩ (ih (by simpa using(Gi.mp (by simpa using nd)).2))
 ·intro e he
  have he':e∈xs.map (wO w):=by simpa using he
  obtain⟨x,_,rfl⟩:=Fq.mp he'
  exact⟨Sum.inr x.1,cy x.1 x.2.2.1,jY w x.1⟩
 ·have key:∀ys:List (Str×Int×Tok×Tok),Pairs (aA P w) (ys.map (wO w)) (ys.map fun x=>((Sum.inr x.1:aL),Value.int x.2.1 x.2.2.2)):=by
   intro ys
   induction ys with
   |nil=>exact .nil
   |cons y ys ih=>exact .cons (cy y.1 y.2.2.1) rfl ih
  exact key xs
 ·rw[Fy]
  have e:((fun x:aL×Value=>x.1) ∘ fun x:Str×Int×Tok×Tok=>((Sum.inr x.1:aL),Value.int x.2.1 x.2.2.2))=fun x=>Sum.inr x.1:=rfl
  have key:∀ys:List (Str×Int×Tok×Tok),(ys.map (·.1)).Nodup->(ys.map fun x=>(Sum.inr x.1:aL)).Nodup:=by
   intro ys
   induction ys with
   |nil=>intro _;exact List.nodup_nil
   |cons y ys ih=>
    intro h
    rw[EV,Gi]at h ⊢
    refine⟨fun hm=>h.1 ?_,ih h.2⟩
    obtain⟨z,hz,e⟩:=Fq.mp hm
    have e':z.1=y.1:=Sum.inr.inj e
    exact Fq.mpr ⟨z,hz,e'⟩
  exact key xs nd
end L2
namespace Wd
open PySem L2 PyProof.Rows
noncomputable def abc:Str:="abcdefghijklmnopqrstuvwxyz"
noncomputable def zF:List Str:=["jars","deed","rest","pay","put","then","either","take","often","use"]
def tN:∀i,i < 26->abc.cps.toList[i]?=some (97+i):=by decide +kernel
def qm:abc.length<=sizeLine/\abc.cps.toList.length=26:=by decide +kernel
structure Bz (z:Str):Prop where
 ne:z.cps.toList≠[]
 le:z.cps.toList.length<=6
 sm:∀c∈z.cps.toList,97<=c/\c<=122
def Bz.len{z:Str}(h:Bz z):z.length<=6:=by have q:=h.le;rw[Hi]at q;exact q
def tO(i:Nat):zN abc.cps.toList ((i % 26:Nat):Int)=some (97+i % 26):=dR (tN _ (Nat.mod_lt _ (by decide)))
def kM(cs:List Nat):Txt.join "" (cs.map fE)=⟨cs.toArray⟩:=by
 have q:=join_nil_signs ⟨cs.toArray⟩
 have e:Txt.join "" (cs.map fE)=Str.join ⟨#[]⟩ (cs.map fE):=StrLaws.glued_eq_join _ _
 rw[e]
 exact q
def qo(cs:List Nat):((cs.map fE).map (·.length)).sum=cs.length:=by
 induction cs with
 |nil=>rfl
 |cons c r ih=>rw[EV,EV,List.sum_cons,ih,Fc];show 1+r.length=_;omega
end Wd
namespace M3
noncomputable def i_(t b:Int):Int:=(if b < 0 then -t else t) / (Int.gcd t b:Int)
noncomputable def jZ(t b:Int):Int:=(if b < 0 then -b else b) / (Int.gcd t b:Int)
def eJ{t b:Int}(h:b≠0):0 < Int.gcd t b:=Nat.gcd_pos_of_pos_right _ (by omega)
def tP{t b:Int}(h:b≠0):(Int.gcd t b:Int)<=b.natAbs:=by
 have q:Nat.gcd t.natAbs b.natAbs<=b.natAbs:=Nat.gcd_le_right _ (by omega)
 have e:Int.gcd t b=Nat.gcd t.natAbs b.natAbs:=rfl
 omega
def nL(t b:Int):Int.gcd (-t) (-b)=Int.gcd t b:=by rw[Int.gcd_neg,Int.neg_gcd]
def parts(t b:Int):∃x y:Int,t=(Int.gcd t b:Int) * x/\b=(Int.gcd t b:Int) * y:=by
 obtain⟨x,hx⟩:=Int.gcd_dvd_left t b
 obtain⟨y,hy⟩:=Int.gcd_dvd_right t b
 exact⟨x,y,hx,hy⟩
def tQ{t b x y g:Int}(hg:g=(Int.gcd t b:Int))(h:b≠0)(ht:t=g * x)(hb:b=g * y):i_ t b=(if y < 0 then -x else x)/\jZ t b=(if y < 0 then -y else y):=by
 have gp:0 < g:=by rw[hg];exact Hf.mpr (eJ h)
 have hy:b < 0↔y < 0:=by
  rw[hb]
  constructor
  ·intro q
   by_cases z:y < 0
   ·exact z
   ·have:=Int.mul_nonneg (GB gp) (Int.not_lt.mp z)
    omega
  ·intro q
   exact Int.mul_neg_of_pos_of_neg gp q
 unfold i_ jZ
 rw[<-hg]
 by_cases z:y < 0
 ·rw[if_pos (hy.mpr z),if_pos (hy.mpr z),if_pos z,if_pos z]
  constructor
  ·rw[ht,<-Int.mul_neg,Gm _ (by omega)]
  ·rw[hb,<-Int.mul_neg,Gm _ (by omega)]
 ·rw[if_neg (fun q=>z (hy.mp q)),if_neg (fun q=>z (hy.mp q)),if_neg z,if_neg z]
  constructor
  ·rw[ht,Gm _ (by omega)]
  ·rw[hb,Gm _ (by omega)]
def qp{t b x y:Int}(h:b≠0)(ht:t=(Int.gcd t b:Int) * x)(hb:b=(Int.gcd t b:Int) * y):Int.gcd x y=1:=by
 have gp:=eJ (t:=t) h
 have q:Int.gcd ((Int.gcd t b:Int) * x) ((Int.gcd t b:Int) * y)=(Int.gcd t b:Int).natAbs * Int.gcd x y:=Int.gcd_mul_left _ _ _
 rw[<-ht,<-hb,Int.natAbs_natCast]at q
 have q2:Int.gcd t b * 1=Int.gcd t b * Int.gcd x y:=by omega
 exact(Nat.eq_of_mul_eq_mul_left gp q2).symm
structure rM (a b:Int):Prop where
 pos:0 < b
 one:Int.gcd a b=1
def lz{t b:Int}(h:b≠0):rM (i_ t b) (jZ t b):=by
 obtain⟨x,y,ht,hb⟩:=parts t b
 have c:=qp h ht hb
 obtain⟨e1,e2⟩:=tQ rfl h ht hb
 have y0:y≠0:=fun z=>h (by rw[hb,z,Int.mul_zero])
 rw[e1,e2]
 by_cases z:y < 0
 ·rw[if_pos z,if_pos z]
  exact⟨by omega,by rw[nL];exact c⟩
 ·rw[if_neg z,if_neg z]
  exact⟨by omega,c⟩
def nM{t b:Int}(h:b≠0):t.fdiv (if b < 0 then -(Int.gcd t b:Int) else (Int.gcd t b:Int))=i_ t b/\b.fdiv (if b < 0 then -(Int.gcd t b:Int) else (Int.gcd t b:Int))=jZ t b:=by
 have gp:(0:Int) < (Int.gcd t b:Int):=Hf.mpr (eJ h)
 have d1:=Int.gcd_dvd_left t b
 have d2:=Int.gcd_dvd_right t b
 unfold i_ jZ
 by_cases z:b < 0
 ·rw[if_pos z,if_pos z,if_pos z,Int.fdiv_neg (by omega),if_pos d1,Int.fdiv_neg (by omega),if_pos d2,Gp d1,Gp d2,Int.neg_ediv_of_dvd d1,Int.neg_ediv_of_dvd d2]
  exact⟨rfl,rfl⟩
 ·rw[if_neg z,if_neg z,if_neg z,Gp d1,Gp d2]
  exact⟨rfl,rfl⟩
def j0(x y:Int):Int.gcd y (x.fmod y)=Int.gcd x y:=by
 have q:=Int.mul_fdiv_add_fmod x y
 have e:Int.gcd y (x.fmod y+x.fdiv y * y)=Int.gcd y (x.fmod y):=Int.gcd_add_mul_right_right _ _ _
 rw[<-e,Int.mul_comm (x.fdiv y) y,Int.add_comm,q,Int.gcd_comm]
def nN{t b T B:Int}(h:b≠0)(h1:-T<=t)(h2:t<=T)(h3:-B<=b)(h4:b<=B)(hT:0<=T)(hB:0<=B):-T<=i_ t b/\i_ t b<=T/\0 < jZ t b/\jZ t b<=B:=by
 have gp:(0:Int) < (Int.gcd t b:Int):=Hf.mpr (eJ h)
 have L:=(lz (t:=t) h).pos
 have key:∀z M:Int,0<=M->-M<=z->z<=M->-M<=z / (Int.gcd t b:Int)/\z / (Int.gcd t b:Int)<=M:=fun z M hM z1 z2=>by
  generalize (Int.gcd t b:Int)=g at gp
  have m2:M * 1<=M * g:=Int.mul_le_mul_of_nonneg_left (by omega) hM
  have m3:-M * g = -(M * g):=Int.neg_mul M g
  exact⟨Int.le_ediv_of_mul_le gp (by omega),Int.ediv_le_of_le_mul gp (by omega)⟩
 have k1:=key (if b < 0 then -t else t) T hT (by split<;>omega) (by split<;>omega)
 have k2:=key (if b < 0 then -b else b) B hB (by split<;>omega) (by split<;>omega)
 exact⟨k1.1,k1.2,L,k2.2⟩
end M3
namespace Xc
open PySem PySem.W PySem.Calls PyProof.Rows Builtin Builtin.ObjectAttr
structure xH (h:Heap) (e:Addr) (oe:Obj) (vs:Vw):Prop where
 at_:h.get? e=some oe
 dat:oe.data = .fields vs
 tb:vs[1]?=some .none\/∃T oT ts,vs[1]?=some (.ref T)/\T≠e/\h.get? T=some oT/\oT.data = .fields ts/\ts[3]?=some .none
end Xc
namespace L2
open PySem PySem.Spec PyProof.Rows Xc
def yv(X:Cx)(pins:Va)(H:Hp)(h:Heap)(a C dx:Addr):Prop:=
 ∃oe vs,xH h a oe vs/\oe.cls = .ref C/\oe.dict=some dx/\e7 X pins H a/\∀T,vs[1]?=some (.ref T)->e7 X pins H T
def XD(dx:Addr)(fs:List (Str×V))(h:Heap):Prop:=∃mA,h.Ns1 dx mA/\(∀f,RelO (fs.lookup f) (mA f))/\PySem.Within mA (fs.map (·.1))
noncomputable abbrev Cx.tr(X:Cx)(E:Vq)(pins:Va):Cx:={ X with xe:=E,pn:=X.pn++pins }
section
variable {X:Cx} {pins pins':Va} {σ:St} {H H':Hp} {s s':Shared} {E:Vq}
theorem Cx.Ok.tr(ok:X.Ok):(X.tr E pins).Ok:=⟨ok.mod,ok.kind,ok.glob,ok.blt,ok.above,ok.inj,ok.has,ok.BU,ok.hd,ok.frames,ok.stk,ok.Cq,ok.bs,ok.Bv,ok.AO,ok.A4,ok.Aa,ok.BG⟩
def Cx.Ok.AR(ok:(X.tr E pins).Ok):X.Ok:=⟨ok.mod,ok.kind,ok.glob,ok.blt,ok.above,ok.inj,ok.has,ok.BU,ok.hd,ok.frames,ok.stk,ok.Cq,ok.bs,ok.Bv,ok.AO,ok.A4,ok.Aa,ok.BG⟩
theorem Inv.tr(I:Inv X pins σ H s):Inv (X.tr E pins) [] σ H s:=⟨I.ok.tr,I.os,I.bare,I.base,I.loc,I.cell,I.free,I.zE,fun p hp=>I.pin p (by simpa using hp),I.hok,I.len,I.tk⟩
theorem Inv.AR(I:Inv (X.tr E pins) pins' σ H s):Inv X pins σ H s:=⟨I.ok.AR,I.os,I.bare,I.base,I.loc,I.cell,I.free,I.zE,fun p hp=>I.pin p (Gy _ hp),I.hok,I.len,I.tk⟩
theorem SP.AR{D:hJ}{f:Flow}(h:SP (X.tr E pins) [] D f s'):SP X pins D f s':=by
 cases f with
 |next=>obtain⟨a,b,I,q⟩:=h;exact⟨a,b,I.AR,q⟩
 |brk=>obtain⟨a,b,I,q⟩:=h;exact⟨a,b,I.AR,q⟩
 |cont=>obtain⟨a,b,I,q⟩:=h;exact⟨a,b,I.AR,q⟩
 |ret v=>obtain⟨v,a,b,I,r,q⟩:=h;exact⟨v,a,b,I.AR,r,q⟩
end
noncomputable def tryXe(X:Cx)(pins:Va)(D:hJ)(hs:List ExceptHandler):Value->Shared->Prop:=fun e s₁=>
 wpAny (model X.prog X.w) X.A (noteFrame e X.env) (fun _ s₂=>wpAny (model X.prog X.w) X.A (setFlight e none) (fun _ s₃=>wpAny (model X.prog X.w) X.A (handleBy e X.env hs) (SP X pins D) X.xe s₃) X.xe s₂) X.xe s₁
def tryXe.passes{X:Cx}{pins:Va}{D:hJ}{hs:List ExceptHandler}:PassesOwn (model X.prog X.w) X.A X.env (tryXe X pins D hs):=PassesOwn.looking
def tR{X:Cx}{h₀:ExceptHandler}{body:List Stmt}{pos:Pos}{tb:(E:Vq)->List (Addr×Obj)->TS}
  (hb:∀E pins,PassesOwn (model X.prog X.w) X.A X.env E->AQ (X.tr E pins) body (tb E pins)) :
  PS X (.Try body [h₀] [] [] pos) (fun D σ H=>∀pins,tb (tryXe X pins D [h₀]) pins D σ H):=by
 intro pins s σ H D I h
 refine wpAny_Try_except ?_
 refine Gk (hb (tryXe X pins D [h₀]) pins tryXe.passes [] s σ H D I.tr (h pins)) (fun f s1 q=>?_) fun e s1 q=>q
 have q':=SP.AR q
 cases f with
 |next=>exact GH q'
 |ret v=>exact q'
 |brk=>exact q'
 |cont=>exact q'
end L2
namespace L3
open PySem L2
inductive PV where
 |non|bl (b:Bool)|int (i:Int)|str (x:Str)|tup (xs:List PV)|cl (xs:List PV)|ref (a:Addr)|ty (n:String)|exc (c:Str) (ks:Vs) (ps:List PV)|cls (c:Str)
def Cm(K:Vo)(H:Hp)(a:Addr)(xs:List V):Prop:=
 (∃o,H a=some (.frz o (.lst xs))) \/
  ∃(o:Obj) (its:Vw) (n:Nat),K.lookup a=some o/\o.cls = .type "list"/\o.dict=none/\o.data = .seq its n/\its.size<=sizeLine/\Vals xs its.toList
def Cm.sq{K:Vo}{H:Hp}{a:Addr}{xs:List V}(h:Cm K H a xs):SqL K H a xs:=h.elim (fun z=>.inl (.inr z)) .inr
def CS(H:Hp)(a C:Addr)(ks:Vs)(vs:List V):Prop:=
 ∃oe dx od,H a=some (.frz oe (.ext fun _=>True))/\oe.cls = .ref C/\oe.dict=some dx/\(∀c,oe.data ≠ .cls c)/\H dx=some (.frz od (.ext (XD dx (ks.zip vs))))
def qq(K:Vo)(c:Str)(C:Addr):Prop:=PySem.W.nsIn K mainGlobals c=some (some (.ref C))
mutual
inductive Rep (K:Vo) (H:Hp):V->PV->Prop
 |non:Rep K H .non .non
 |bl (b:Bool):Rep K H (.bl b) (.bl b)
 |int (i:Int):Rep K H (.int i) (.int i)
 |str (x:Str):Rep K H (.str x) (.str x)
 |ty (n:String):Rep K H (.ty n) (.ty n)
 |ref (a:Addr):Rep K H (.ref a) (.ref a)
 |tup {a:Addr} {vs:List V} {ps:List PV}:z7 K H a vs->Reps K H vs ps->Rep K H (.ref a) (.tup ps)
 |cl {a:Addr} {vs:List V} {ps:List PV}:Cm K H a vs->Reps K H vs ps->Rep K H (.ref a) (.cl ps)
 |exc {a C:Addr} {c:Str} {ks:Vs} {vs:List V} {ps:List PV}:qq K c C->CS H a C ks vs->Reps K H vs ps->Rep K H (.ref a) (.exc c ks ps)
 |cls {C:Addr} {c:Str}:qq K c C->Rep K H (.ref C) (.cls c)
inductive Reps (K:Vo) (H:Hp):List V->List PV->Prop
 |nil:Reps K H [] []
 |cons {v:V} {p:PV} {vs:List V} {ps:List PV}:Rep K H v p->Reps K H vs ps->Reps K H (v::vs) (p::ps)
end
structure Grow (K:Vo) (H H':Hp):Prop where
 t:∀a vs,z7 K H a vs->z7 K H' a vs
 c:∀a vs,Cm K H a vs->Cm K H' a vs
 x:∀a o u,H a=some (.frz o u)->H' a=some (.frz o u)
def Grow.refl{K:Vo}{H:Hp}:Grow K H H:=⟨fun _ _ h=>h,fun _ _ h=>h,fun _ _ _ h=>h⟩
def Grow.trans{K:Vo}{H H1 H2:Hp}(a:Grow K H H1)(b:Grow K H1 H2):Grow K H H2:=⟨fun x vs h=>b.t x vs (a.t x vs h),fun x vs h=>b.c x vs (a.c x vs h),fun x o u h=>b.x x o u (a.x x o u h)⟩
def CS.mono{K:Vo}{H H':Hp}(g:Grow K H H'){a C:Addr}{ks:Vs}{vs:List V}(h:CS H a C ks vs):CS H' a C ks vs:=let ⟨oe,dx,od,h1,h2,h3,h4,h5⟩:=h;⟨oe,dx,od,g.x _ _ _ h1,h2,h3,h4,g.x _ _ _ h5⟩
def Grow.of{K:Vo}{H H':Hp}(h:∀a xs,H a=some (.tup xs)->H' a=some (.tup xs))(h2:∀a o u,H a=some (.frz o u)->H' a=some (.frz o u)):Grow K H H':=by
 refine⟨fun a vs q=>?_,fun a vs q=>?_,h2⟩
 ·rcases q with(q|⟨o,q⟩)|q
  ·exact .inl (.inl (h a vs q))
  ·exact .inl (.inr ⟨o,h2 a o _ q⟩)
  ·exact .inr q
 ·rcases q with⟨o,q⟩|q
  ·exact .inl ⟨o,h2 a o _ q⟩
  ·exact .inr q
def Grow.same{K:Vo}{H H':Hp}(h:∀c o,H c=some o->H' c=some o):Grow K H H':=.of (fun a _ q=>h a _ q) (fun a _ _ q=>h a _ q)
def Grow.new{K:Vo}{H:Hp}{p:Addr}{o:HO}(h:H p=none):Grow K H (upd H p o):=.same fun c u q=>by rw[aB (aO q h)];exact q
noncomputable def Mu:HO->Prop
 | .tup _=>False
 | .frz _ _=>False
 |_=>True
def Grow.mut{K:Vo}{H:Hp}{p:Addr}{o u:HO}(h:H p=some u)(m:Mu u):Grow K H (upd H p o):=
 .of (fun a xs q=>by rw[aB (fun e=>by subst e;rw[h]at q;cases q;exact m)];exact q) (fun a _ _ q=>by rw[aB (fun e=>by subst e;rw[h]at q;cases q;exact m)];exact q)
mutual
theorem Rep.mono{K:Vo}{H H':Hp}(g:Grow K H H'):∀{v:V} {p:PV},Rep K H v p->Rep K H' v p
 |_,_,.non=>.non
 |_,_,.bl b=>.bl b
 |_,_,.int i=>.int i
 |_,_,.str x=>.str x
 |_,_,.ty n=>.ty n
 |_,_,.ref a=>.ref a
 |_,_,.tup h r=>.tup (g.t _ _ h) (Reps.mono g r)
 |_,_,.cl h r=>.cl (g.c _ _ h) (Reps.mono g r)
 |_,_,.exc n h r=>.exc n (h.mono g) (Reps.mono g r)
 |_,_,.cls n=>.cls n
theorem Reps.mono{K:Vo}{H H':Hp}(g:Grow K H H'):∀{vs:List V} {ps:List PV},Reps K H vs ps->Reps K H' vs ps
 |_,_,.nil=>.nil
 |_,_,.cons a r=>.cons (Rep.mono g a) (Reps.mono g r)
end
theorem Reps.length{K:Vo}{H:Hp}:∀{vs:List V} {ps:List PV},Reps K H vs ps->vs.length=ps.length
 |_,_,.nil=>rfl
 |_,_,.cons _ r=>by rw[Fc,Fc,Reps.length r]
theorem Reps.append{K:Vo}{H:Hp}:∀{vs us:List V} {ps qs:List PV},Reps K H vs ps->Reps K H us qs->Reps K H (vs++us) (ps++qs)
 |_,_,_,_,.nil,s=>s
 |_,_,_,_,.cons a r,s=>.cons a (Reps.append r s)
theorem Reps.get{K:Vo}{H:Hp}:∀{vs:List V} {ps:List PV} {i:Nat} {p:PV},Reps K H vs ps->ps[i]?=some p->∃v,vs[i]?=some v/\Rep K H v p
 |_,_,_,_,.nil,e=>by simp at e
 |_,_,0,_,.cons a r,e=>by simp at e;subst e;exact⟨_,rfl,a⟩
 |_,_,i+1,p,.cons a r,e=>by
  obtain⟨v,h1,h2⟩:=Reps.get (i:=i) (p:=p) r (by simpa using e)
  exact⟨v,by simpa using h1,h2⟩
theorem Reps.take{K:Vo}{H:Hp}:∀{vs:List V} {ps:List PV} (n:Nat),Reps K H vs ps->Reps K H (vs.take n) (ps.take n)
 |_,_,0,_=>.nil
 |_,_,_+1,.nil=>.nil
 |_,_,n+1,.cons a r=>.cons a (Reps.take n r)
theorem Reps.drop{K:Vo}{H:Hp}:∀{vs:List V} {ps:List PV} (n:Nat),Reps K H vs ps->Reps K H (vs.drop n) (ps.drop n)
 |_,_,0,r=>r
 |_,_,_+1,.nil=>.nil
 |_,_,n+1,.cons _ r=>Reps.drop n r
theorem Reps.set{K:Vo}{H:Hp}{v:V}{p:PV}(q:Rep K H v p):∀{vs:List V} {ps:List PV} (n:Nat),Reps K H vs ps->Reps K H (vs.set n v) (ps.set n p)
 |_,_,_,.nil=>.nil
 |_,_,0,.cons _ r=>.cons q r
 |_,_,n+1,.cons a r=>.cons a (Reps.set q n r)
theorem Reps.eraseIdx{K:Vo}{H:Hp}:∀{vs:List V} {ps:List PV} (n:Nat),Reps K H vs ps->Reps K H (vs.eraseIdx n) (ps.eraseIdx n)
 |_,_,_,.nil=>.nil
 |_,_,0,.cons _ r=>r
 |_,_,n+1,.cons a r=>.cons a (Reps.eraseIdx n r)
theorem Reps.reverse{K:Vo}{H:Hp}:∀{vs:List V} {ps:List PV},Reps K H vs ps->Reps K H vs.reverse ps.reverse
 |_,_,.nil=>.nil
 |_,_,.cons a r=>by rw[GZ,GZ];exact(Reps.reverse r).append (.cons a .nil)
theorem Reps.dropLast{K:Vo}{H:Hp}{vs:List V}{ps:List PV}(r:Reps K H vs ps):Reps K H vs.dropLast ps.dropLast:=by
 rw[List.dropLast_eq_take,List.dropLast_eq_take,r.length]
 exact r.take _
inductive SO where
 |lst (xs:List PV)
 |dct (kvs:List (aL×PV))
 |ins (c:Str) (fs:List (Str×PV))
abbrev ap:=Addr->Option SO
noncomputable def yO(S:ap)(a:Addr)(o:SO):ap:=fun b=>if b=a then some o else S b
def aa{S:ap}{a:Addr}{o:SO}:yO S a o a=some o:=by unfold yO;rw[if_pos rfl]
def ao{S:ap}{a b:Addr}{o:SO}(h:b≠a):yO S a o b=S b:=by unfold yO;rw[if_neg h]
inductive y1 (K:Vo) (H:Hp) {κ:Type}:List (κ×V)->List (κ×PV)->Prop
 |nil:y1 K H [] []
 |cons {k:κ} {v:V} {p:PV} {vs:List (κ×V)} {ps:List (κ×PV)}:Rep K H v p->y1 K H vs ps->y1 K H ((k,v)::vs) ((k,p)::ps)
theorem y1.mono{K:Vo}{H H':Hp}(g:Grow K H H'){κ:Type}:∀{vs:List (κ×V)} {ps:List (κ×PV)},y1 K H vs ps->y1 K H' vs ps
 |_,_,.nil=>.nil
 |_,_,.cons a r=>.cons (a.mono g) (y1.mono g r)
theorem y1.length{K:Vo}{H:Hp}{κ:Type}:∀{vs:List (κ×V)} {ps:List (κ×PV)},y1 K H vs ps->vs.length=ps.length
 |_,_,.nil=>rfl
 |_,_,.cons _ r=>by rw[Fc,Fc,y1.length r]
noncomputable def AS(K:Vo)(H:Hp)(a:Addr):SO->Prop
 | .lst xs=>∃vs,H a=some (.lst vs)/\Reps K H vs xs
 | .dct kvs=>∃kv,H a=some (.dK kv)/\y1 K H kv kvs
 | .ins c fs=>∃C dx f',qq K c C/\H a=some (.ins C dx f')/\y1 K H f' fs
theorem AS.stay{K:Vo}{H H':Hp}(g:Grow K H H'){a:Addr}(e:H' a=H a):∀{o:SO},AS K H a o->AS K H' a o
 | .lst _,⟨vs,h,r⟩=>⟨vs,e.trans h,r.mono g⟩
 | .dct _,⟨vs,h,r⟩=>⟨vs,e.trans h,r.mono g⟩
 | .ins _ _,⟨C,dx,vs,n,h,r⟩=>⟨C,dx,vs,n,e.trans h,r.mono g⟩
theorem AS.some{K:Vo}{H:Hp}{a:Addr}:∀{o:SO},AS K H a o->∃u,H a=Option.some u/\Mu u
 | .lst _,⟨_,h,_⟩=>⟨_,h,trivial⟩
 | .dct _,⟨_,h,_⟩=>⟨_,h,trivial⟩
 | .ins _ _,⟨_,_,_,_,h,_⟩=>⟨_,h,trivial⟩
def yR(K:Vo)(H:Hp)(S:ap):Prop:=∀a o,S a=some o->AS K H a o
def yR.free{K:Vo}{H:Hp}{S:ap}(r:yR K H S){p:Addr}(h:H p=none):S p=none:=by
 cases e:S p with
 |none=>rfl
 |some o=>
  obtain⟨u,q,_⟩:=(r p o e).some
  rw[h]at q;cases q
def yR.grow{K:Vo}{H H':Hp}{S:ap}(r:yR K H S)(h:∀c o,H c=some o->H' c=some o):yR K H' S:=fun a o e=>by
 obtain⟨u,q,_⟩:=(r a o e).some
 exact(r a o e).stay (.same h) ((h a u q).trans q.symm)
def yR.other{K:Vo}{H:Hp}{S:ap}(r:yR K H S){p:Addr}{o:HO}(h:H p=none):yR K (upd H p o) S:=r.grow fun c u q=>by rw[aB (aO q h)];exact q
theorem yR.new{K:Vo}{H:Hp}{S:ap}(r:yR K H S){p:Addr}{u:HO}{o:SO}(h:H p=none)(q:AS K (upd H p u) p o):yR K (upd H p u) (yO S p o):=fun a x e=>by
 by_cases z:a=p
 ·subst z;rw[aa]at e;cases e;exact q
 ·rw[ao z]at e;exact(r a x e).stay (.new h) (aB z)
def yR.put{K:Vo}{H:Hp}{S:ap}(r:yR K H S){p:Addr}{u0 u:HO}{o:SO}(h:H p=some u0)(m:Mu u0)(q:AS K (upd H p u) p o):yR K (upd H p u) (yO S p o):=fun a x e=>by
 by_cases z:a=p
 ·subst z;rw[aa]at e;cases e;exact q
 ·rw[ao z]at e;exact(r a x e).stay (.mut h m) (aB z)
abbrev bH:=List (Option PV)
noncomputable def lk:bH->Nat->Option PV
 |[],_=>none
 |x::_,0=>x
 |_::r,i+1=>lk r i
def nO{σ:bH}{i:Nat}{p:PV}(h:lk σ i=some p):σ[i]?=some (some p):=by
 induction σ generalizing i with
 |nil=>cases h
 |cons x r ih=>
  cases i with
  |zero=>exact FA some h
  |succ i=>exact ih h
structure yT (K:Vo) (H:Hp) (σ:St) (σ3:bH):Prop where
 len:σ.length=σ3.length
 at':∀(i:Nat) (p:PV),σ3[i]?=some (some p)->∃v,σ[i]?=some (some v)/\Rep K H v p
theorem yT.mono{K:Vo}{H H':Hp}{σ:St}{σ3:bH}(r:yT K H σ σ3)(g:Grow K H H'):yT K H' σ σ3:=⟨r.len,fun i p e=>let ⟨v,h,q⟩:=r.at' i p e;⟨v,h,q.mono g⟩⟩
theorem yT.set{K:Vo}{H:Hp}{σ:St}{σ3:bH}(r:yT K H σ σ3){v:V}{p:PV}(q:Rep K H v p)(i:Nat):yT K H (σ.set i (some v)) (σ3.set i (some p)):=by
 refine⟨by rw[List.length_set,List.length_set,r.len],fun j x e=>?_⟩
 rw[List.getElem?_set]at e ⊢
 split at e
 ·rename_i hij
  rw[if_pos hij]
  subst hij
  split at e
  ·rename_i hl
   cases e
   rw[if_pos (by rw[r.len];exact hl)]
   exact⟨v,rfl,q⟩
  ·cases e
 ·rename_i hij
  rw[if_neg hij]
  exact r.at' j x e
abbrev bv:=PV->ap->Prop
abbrev b6:=PV->bH->ap->Prop
abbrev aJ:=bH->ap->bv->b6->Prop
abbrev fZ:=bH->ap->(Bool->ap->Prop)->b6->Prop
abbrev yw:=bH->ap->(List PV->ap->Prop)->b6->Prop
structure iA where
 nx:bH->ap->Prop
 rt:bv
 ex:b6
 bk:bH->ap->Prop:=fun _ _=>False
 ct:bH->ap->Prop:=fun _ _=>False
abbrev bc:=iA->bH->ap->Prop
def Bs(X:Cx)(H:Hp)(E:b6):Prop:=∀(c:Str) (ks:Vs) (ps:List PV) (σ3:bH) (S':ap) (H':Hp) (pins:Va) (σ:St) (s':Shared) (a C dx:Addr) (od:Obj) (vs:List V),E (.exc c ks ps) σ3 S'->qq X.K c C->vs.length=ks.length->
 H' dx=some (.frz od (.ext (XD dx (ks.zip vs))))->Reps X.K H' vs ps->yR X.K H' S'->yT X.K H' σ σ3->Grow X.K H H'->Inv X pins σ H' s'->yv X pins H' s'.heap a C dx->X.xe (.ref a) s'
def Bs.mono{X:Cx}{H H':Hp}{E:b6}(x:Bs X H E)(g:Grow X.K H H'):Bs X H' E:=fun c ks ps σ3 S' H2 pins σ s' a C dx od vs h1 h2 h3 h4 h5 h6 h7 h8 h9 Eu=>x c ks ps σ3 S' H2 pins σ s' a C dx od vs h1 h2 h3 h4 h5 h6 h7 (g.trans h8) h9 Eu
def Bt(K:Vo)(H:Hp)(Q3:bv)(Q:VK):Prop:=∀p S' v H',Q3 p S'->Rep K H' v p->yR K H' S'->Grow K H H'->Q v H'
def Bt.mono{K:Vo}{H H':Hp}{Q3:bv}{Q:VK}(r:Bt K H Q3 Q)(g:Grow K H H'):Bt K H' Q3 Q:=fun p S' v H2 h1 h2 h3 h4=>r p S' v H2 h1 h2 h3 (g.trans h4)
def Cn(K:Vo)(H:Hp)(N3:bH->ap->Prop)(N:St->Hp->Prop):Prop:=∀σ3 S' σ H',N3 σ3 S'->yT K H' σ σ3->yR K H' S'->Grow K H H'->N σ H'
def Cn.mono{K:Vo}{H H':Hp}{Q3:bH->ap->Prop}{Q:St->Hp->Prop}(r:Cn K H Q3 Q)(g:Grow K H H'):Cn K H' Q3 Q:=fun p S' v H2 h1 h2 h3 h4=>r p S' v H2 h1 h2 h3 (g.trans h4)
inductive LE (X:Cx) (t:aJ) (σ:L2.St) (H:Hp) (Q:VK):Prop
 |mk (σ3 S Q3 E3) (rσ:yT X.K H σ σ3) (rS:yR X.K H S) (h:t σ3 S Q3 E3) (xo:Bs X H E3) (k:Bt X.K H Q3 Q):LE X t σ H Q
inductive LT (X:Cx) (t:fZ) (σ:L2.St) (H:Hp) (Q:Bool->Hp->Prop):Prop
 |mk (σ3 S Q3 E3) (rσ:yT X.K H σ σ3) (rS:yR X.K H S) (h:t σ3 S Q3 E3) (xo:Bs X H E3) (k:∀b S' H',Q3 b S'->yR X.K H' S'->Grow X.K H H'->Q b H'):LT X t σ H Q
inductive LS (X:Cx) (t:bc) (D:hJ) (σ:L2.St) (H:Hp):Prop
 |mk (σ3 S D3) (rσ:yT X.K H σ σ3) (rS:yR X.K H S) (h:t D3 σ3 S) (xo:Bs X H D3.ex) (nx:Cn X.K H D3.nx D.nx) (rt:Bt X.K H D3.rt D.rt) (bk:Cn X.K H D3.bk D.bk) (ct:Cn X.K H D3.ct D.ct):LS X t D σ H
structure aM (X:Cx) (e:Expr) (t:aJ):Prop where
 ok:PE X e (LE X t)
structure kN (X:Cx) (e:Expr) (t:fZ):Prop where
 ok:PT X e (LT X t)
structure tS (X:Cx) (e:Expr) (t:fZ):Prop where
 ok:PW X e (LT X t)
structure kO (X:Cx) (st:Stmt) (t:bc):Prop where
 ok:PS X st (LS X t)
structure fT (X:Cx) (st:List Stmt) (t:bc):Prop where
 ok:AQ X st (LS X t)
def aE{X:Cx}{e:Expr}{t t':TE}(h:PE X e t)(k:∀σ H Q,t' σ H Q->t σ H Q):PE X e t':=fun pins s σ H Q I q=>h pins s σ H Q I (k σ H Q q)
def ja{X:Cx}{e:Expr}{t t':TT}(h:PT X e t)(k:∀σ H Q,t' σ H Q->t σ H Q):PT X e t':=fun pins s σ H Q I q=>h pins s σ H Q I (k σ H Q q)
def nP{X:Cx}{e:Expr}{t t':TT}(h:PW X e t)(k:∀σ H Q,t' σ H Q->t σ H Q):PW X e t':=fun wh pins s σ H Q I q=>h wh pins s σ H Q I (k σ H Q q)
def bW{X:Cx}{e:Stmt}{t t':TS}(h:PS X e t)(k:∀D σ H,t' D σ H->t D σ H):PS X e t':=fun pins s σ H D I q=>h pins s σ H D I (k D σ H q)
def lA{X:Cx}{e:List Stmt}{t t':TS}(h:AQ X e t)(k:∀D σ H,t' D σ H->t D σ H):AQ X e t':=fun pins s σ H D I q=>h pins s σ H D I (k D σ H q)
section
variable {X:Cx} {a b c e o:Expr} {es:List Expr} {ta tb tc te:aJ} {pos:Pos}
def v3(i:Nat):aJ:=fun σ S Q _=>match lk σ i with|some p=>Q p S|none=>False
def af(i:Nat){x:Str}(hN:X.N[i]?=some x:=by rfl)(hv:wI X.env.scope x:=by first|exact Or.inl rfl|exact Or.inr (Or.inl rfl)|exact Or.inr (Or.inr rfl))(hd:(x == ("__debug__":Str))=false:=by decide)
  (hcd:(x == ("__classdict__":Str))=false:=by decide):aM X (.Name x pos) (v3 i):=
 ⟨aE (sy hN hv hd hcd) fun σ H Q ⟨σ3,S,Q3,E3,rσ,rS,h,xo,k⟩=>by
  unfold v3 at h
  split at h
  ·rename_i p e
   obtain⟨v,ev,rv⟩:=rσ.at' i p (nO e)
   exact⟨v,ev,k p S v H h rv rS .refl⟩
  ·exact h.elim⟩
def c3(p:PV):aJ:=fun _ S Q _=>Q p S
def ac{i:Int}{j:Nat}:aM X (.Constant (.int i) j pos) (c3 (.int i)):=⟨aE sA fun σ H Q ⟨σ3,S,Q3,E3,rσ,rS,h,xo,k⟩=>k _ S _ H h (.int i) rS .refl⟩
def qr{i:Bool}{j:Nat}:aM X (.Constant (.bool i) j pos) (c3 (.bl i)):=⟨aE vi fun σ H Q ⟨σ3,S,Q3,E3,rσ,rS,h,xo,k⟩=>k _ S _ H h (.bl i) rS .refl⟩
def ag{i:Str}{j:Nat}:aM X (.Constant (.str i) j pos) (c3 (.str i)):=⟨aE sB fun σ H Q ⟨σ3,S,Q3,E3,rσ,rS,h,xo,k⟩=>k _ S _ H h (.str i) rS .refl⟩
def xI{x:Str}{n:String}(hg:Gl X x)(hm:X.mg x=none)(hv:bootBuiltins x=some (.type n))(hn:x ≠ "__name__":=by decide)(hd:(x == ("__debug__":Str))=false:=by decide):aM X (.Name x pos) (c3 (.ty n)):=
 ⟨aE (pN (v:=.ty n) hg hm hv rfl hn hd) fun σ H Q ⟨σ3,S,Q3,E3,rσ,rS,h,xo,k⟩=>k _ S _ H h (.ty n) rS .refl⟩
def tT{x z:Str}{t:Tok}(hg:Gl X x)(hm:X.mg x=some (.str z t))(hd:(x == ("__debug__":Str))=false:=by decide):aM X (.Name x pos) (c3 (.str z)):=
 ⟨aE (fY (v:=.str z) hg hm ⟨t,rfl⟩ hd) fun σ H Q ⟨σ3,S,Q3,E3,rσ,rS,h,xo,k⟩=>k _ S _ H h (.str z) rS .refl⟩
noncomputable def am:List aJ->yw
 |[],_,S,Q,_=>Q [] S
 |t::ts,σ,S,Q,E=>t σ S (fun x S1=>am ts σ S1 (fun xs S2=>Q (x::xs) S2) E) E
noncomputable def wP:List TE->TA
 |[]=>sZ
 |t::ts=>rD t (wP ts)
structure iB (X:Cx) (es:List Expr) (ts:List aJ):Prop where
 ok:PA X es (wP (ts.map (LE X)))
def j1:iB X [] []:=⟨s9⟩
def nQ{ts:List aJ}(hs:starEach (e::es) X.env=(false,eval e X.env)::starEach es X.env)(ha:aM X e te)(hr:iB X es ts):iB X (e::es) (te::ts):=⟨p0 ha.ok hr.ok hs⟩
theorem bT:∀{ts:List aJ} {σ:L2.St} {H:Hp} {Q:List V->Hp->Prop} {σ3:bH} {S:ap} {Q3:List PV->ap->Prop} {E3:b6},yT X.K H σ σ3->yR X.K H S->am ts σ3 S Q3 E3->Bs X H E3->
  (∀ps S' vs H',ps.length=ts.length->Q3 ps S'->Reps X.K H' vs ps->yR X.K H' S'->Grow X.K H H'->Q vs H')->wP (ts.map (LE X)) σ H Q
 |[],σ,H,Q,σ3,S,Q3,E3,rσ,rS,h,xo,k=>k [] S [] H rfl h .nil rS .refl
 |t::ts,σ,H,Q,σ3,S,Q3,E3,rσ,rS,h,xo,k=>
  ⟨σ3,S,_,E3,rσ,rS,h,xo,fun p S1 v H1 h1 rv yW g1=>bT (rσ.mono g1) yW h1 (xo.mono g1) fun ps S2 vs H2 hl h2 Dm Ag g2=>k (p::ps) S2 (v::vs) H2 (by rw[Fc,Fc,hl]) h2 (.cons (rv.mono g2) Dm) Ag (g1.trans g2)⟩
def bA(ts:List aJ):aJ:=fun σ S Q E=>am ts σ S (fun xs S1=>Q (.tup xs) S1) E
def bm{ts:List aJ}{x1:Nat}(h:iB X es ts)(hn:ts.length<=1000:=by exact G2 rfl):aM X (.Tuple es x1 pos) (bA ts):=
 ⟨aE (s_ h.ok) fun σ H Q ⟨σ3,S,Q3,E3,rσ,rS,hq,xo,k⟩=>bT rσ rS hq xo fun ps S' vs H' hl q rv z_ g=>
  ⟨GQ (dS (by rw[rv.length,hl];exact hn)),fun p hp=>k _ S' _ _ q (.tup (z7.of az) (rv.mono (.new hp))) (z_.other hp) (g.trans (.new hp))⟩⟩
def bM(ts:List aJ):aJ:=fun σ S Q E=>am ts σ S (fun xs S1=>∀p,S1 p=none->Q (.ref p) (yO S1 p (.lst xs))) E
def bX{ts:List aJ}(h:iB X es ts)(hn:ts.length<=1000:=by exact G2 rfl):aM X (.List es pos) (bM ts):=
 ⟨aE (td h.ok) fun σ H Q ⟨σ3,S,Q3,E3,rσ,rS,hq,xo,k⟩=>bT rσ rS hq xo fun ps S' vs H' hl q rv z_ g=>
  ⟨GQ (dS (by rw[rv.length,hl];exact hn)),fun p hp=>k _ _ _ _ (q p (z_.free hp)) (.ref p) (z_.new hp ⟨vs,az,rv.mono (.new hp)⟩) (g.trans (.new hp))⟩⟩
abbrev R3:=PV->PV->ap->bv->Prop
inductive LR (X:Cx) (r:R3) (x y:V) (H:Hp) (Q:VK):Prop
 |mk (px py S Q3) (rx:Rep X.K H x px) (ry:Rep X.K H y py) (rS:yR X.K H S) (h:r px py S Q3) (k:Bt X.K H Q3 Q):LR X r x y H Q
structure fF (X:Cx) (f:Value->Value->Sem Value) (r:R3):Prop where
 ok:eZ X f (LR X r)
def aj(r:R3)(ta tb:aJ):aJ:=fun σ S Q E=>ta σ S (fun x S1=>tb σ S1 (fun y S2=>r x y S2 Q) E) E
def f6{r:R3}{σ:L2.St}{H:Hp}{Q:VK}:LE X (aj r ta tb) σ H Q->vz (LR X r) (LE X ta) (LE X tb) σ H Q:=fun⟨σ3,S,Q3,E3,rσ,rS,h,xo,k⟩=>
 ⟨σ3,S,_,E3,rσ,rS,h,xo,fun x S1 v H1 h1 rx yW g1=>⟨σ3,S1,_,E3,rσ.mono g1,yW,h1,xo.mono g1,fun y S2 u H2 h2 ry Ag g2=>⟨x,y,S2,Q3,rx.mono g2,ry,Ag,h2,k.mono (g1.trans g2)⟩⟩⟩
def av{op:Operator}{r:R3}(ho:fF X (binaryOp op) r)(ha:aM X a ta)(hb:aM X b tb):aM X (.BinOp a op b pos) (aj r ta tb):=⟨aE (vA ho.ok ha.ok hb.ok) fun _ _ _=>f6⟩
def nR{op:CmpOp}{r:R3}(ho:fF X (compareOp op) r)(ha:aM X a ta)(hb:aM X b tb)(hm:behindInMarks op b=false):aM X (.Compare a [op] [b] pos) (aj r ta tb):=⟨aE (pZ ho.ok ha.ok hb.ok hm) fun _ _ _=>f6⟩
def aT(t:aJ):fZ:=fun σ S Q E=>t σ S (fun v S'=>match v with | .bl k=>Q k S'|_=>False) E
def nS{σ:L2.St}{H:Hp}{Q:Bool->Hp->Prop}:LT X (aT te) σ H Q->LE X te σ H (fun x H'=>∃k,x = .bl k/\Q k H'):=fun⟨σ3,S,Q3,E3,rσ,rS,h,xo,k⟩=>
 ⟨σ3,S,_,E3,rσ,rS,h,xo,fun p S' v H' h1 rv z_ g=>by
  cases p with
  |bl z=>cases rv;exact⟨z,rfl,k z S' H' h1 z_ g⟩
  |_=>exact h1.elim⟩
def bi{op:CmpOp}{r:R3}(ho:fF X (compareOp op) r)(ha:aM X a ta)(hb:aM X b tb)(hm:behindInMarks op b=false):kN X (.Compare a [op] [b] pos) (aT (aj r ta tb)):=
 ⟨ja (lr ho.ok ha.ok hb.ok hm) fun σ H Q ⟨σ3,S,Q3,E3,rσ,rS,h,xo,k⟩=>f6 ⟨σ3,S,_,E3,rσ,rS,h,xo,fun p S' v H' h1 rv z_ g=>by
  cases p with
  |bl z=>cases rv;exact⟨z,rfl,k z S' H' h1 z_ g⟩
  |_=>exact h1.elim⟩⟩
def j2(h:aM X e te)(he:∀whole,isTrue e X.env whole=(do let v <-whole;standAt e.pos;holding [v] (truthy v)):=by intro _;rfl):kN X e (aT te):=
 ⟨ja (sC h.ok he) fun σ H Q q=>nS q⟩
end
section
variable {X:Cx} {a b c:Expr} {rest:List Expr} {ta tb te:aJ} {tA tB:fZ} {pos:Pos}
def ms(t u:fZ):fZ:=fun σ S Q E=>t σ S (fun c S1=>if c=true then u σ S1 Q E else Q false S1) E
def jb(t u:fZ):fZ:=fun σ S Q E=>t σ S (fun c S1=>if c=true then Q true S1 else u σ S1 Q E) E
def mv(t:fZ):fZ:=fun σ S Q E=>t σ S (fun c S1=>Q (!c) S1) E
def nT(ha:kN X a tA):tS X (.BoolOp .And [a] pos) tA:=⟨pO ha.ok⟩
def d6(ha:kN X a tA):tS X (.BoolOp .Or [a] pos) tA:=⟨sD ha.ok⟩
def rN(ha:kN X a tA)(hb:tS X (.BoolOp .And (b::rest) pos) tB):tS X (.BoolOp .And (a::b::rest) pos) (ms tA tB):=
 ⟨nP (sE ha.ok hb.ok) fun σ H Q ⟨σ3,S,Q3,E3,rσ,rS,h,xo,k⟩=>⟨σ3,S,_,E3,rσ,rS,h,xo,fun c S1 H1 h1 yW g1=>by
  cases c with
  |true=>rw[if_pos rfl]at h1 ⊢;exact⟨σ3,S1,Q3,E3,rσ.mono g1,yW,h1,xo.mono g1,fun b S2 H2 h2 Ag g2=>k b S2 H2 h2 Ag (g1.trans g2)⟩
  |false=>rw[if_neg (by decide)]at h1 ⊢;exact k false S1 H1 h1 yW g1⟩⟩
def gu(ha:kN X a tA)(hb:tS X (.BoolOp .Or (b::rest) pos) tB):tS X (.BoolOp .Or (a::b::rest) pos) (jb tA tB):=
 ⟨nP (vj ha.ok hb.ok) fun σ H Q ⟨σ3,S,Q3,E3,rσ,rS,h,xo,k⟩=>⟨σ3,S,_,E3,rσ,rS,h,xo,fun c S1 H1 h1 yW g1=>by
  cases c with
  |true=>rw[if_pos rfl]at h1 ⊢;exact k true S1 H1 h1 yW g1
  |false=>rw[if_neg (by decide)]at h1 ⊢;exact⟨σ3,S1,Q3,E3,rσ.mono g1,yW,h1,xo.mono g1,fun b S2 H2 h2 Ag g2=>k b S2 H2 h2 Ag (g1.trans g2)⟩⟩⟩
def m7(h:tS X a tA):kN X a tA:=⟨h.ok.pt⟩
def rO(ha:kN X a tA):kN X (.UnaryOp .Not a pos) (mv tA):=
 ⟨ja (sF ha.ok) fun σ H Q ⟨σ3,S,Q3,E3,rσ,rS,h,xo,k⟩=>⟨σ3,S,_,E3,rσ,rS,h,xo,fun c S1 H1 h1 yW g1=>k (!c) S1 H1 h1 yW g1⟩⟩
def eK(t u:aJ):aJ:=fun σ S Q E=>t σ S (fun v S1=>match v with | .bl c=>if c=true then u σ S1 Q E else Q (.bl false) S1|_=>False) E
def rP{op:BoolOp}(h:aM X a ta):aM X (.BoolOp op [a] pos) ta:=⟨sG h.ok⟩
def nU(ha:aM X a ta)(hb:aM X (.BoolOp .And (b::rest) pos) tb):aM X (.BoolOp .And (a::b::rest) pos) (eK ta tb):=
 ⟨aE (sH ha.ok hb.ok) fun σ H Q ⟨σ3,S,Q3,E3,rσ,rS,h,xo,k⟩=>⟨σ3,S,_,E3,rσ,rS,h,xo,fun p S1 v H1 h1 rv yW g1=>by
  cases p with
  |bl z=>
   cases rv
   refine⟨z,rfl,?_⟩
   cases z with
   |true=>rw[if_pos rfl];exact⟨σ3,S1,Q3,E3,rσ.mono g1,yW,h1,xo.mono g1,k.mono g1⟩
   |false=>rw[if_neg (by decide)];exact k _ S1 _ H1 h1 (.bl false) yW g1
  |_=>exact h1.elim⟩⟩
abbrev vV:=PV->ap->bv->Prop
noncomputable def yx(X:Cx)(r:vV):V->Hp->VK->Prop:=fun x H Q=>∃px S Q3,Rep X.K H x px/\yR X.K H S/\r px S Q3/\Bt X.K H Q3 Q
structure yd (X:Cx) (f:Value->Sem Value) (r:vV):Prop where
 ok:wL X f (yx X r)
def tU(r:vV)(ta:aJ):aJ:=fun σ S Q E=>ta σ S (fun x S1=>r x S1 Q) E
def vW{op:UnaryOp}{r:vV}(ho:yd X (unaryOp op) r)(ha:aM X a ta):aM X (.UnaryOp op a pos) (tU r ta):=
 ⟨aE (vB ho.ok ha.ok) fun σ H Q ⟨σ3,S,Q3,E3,rσ,rS,h,xo,k⟩=>⟨σ3,S,_,E3,rσ,rS,h,xo,fun p S1 v H1 h1 rv yW g1=>⟨p,S1,Q3,rv,yW,h1,k.mono g1⟩⟩⟩
noncomputable def kP:vV:=fun x S Q=>match x with | .int i=>Q (.int (-i)) S|_=>False
def nV:yd X (unaryOp .USub) kP:=⟨fun pins s σ H x v Q I rx ⟨px,S,Q3,r1,rS,h,k⟩=>by
 cases px with
 |int i=>cases r1;exact sY pins s σ H _ v Q I rx ⟨i,rfl,k _ S _ H h (.int _) rS .refl⟩
 |_=>exact h.elim⟩
end
section
variable {X:Cx}
def eL(g:Int->Int->PV):R3:=fun x y S Q=>match x,y with | .int i,.int j=>Q (g i j) S|_,_=>False
def d8(C:Int->Int->Prop)(g:Int->Int->PV):R3:=fun x y S Q=>match x,y with | .int i,.int j=>C i j/\Q (g i j) S|_,_=>False
def tV{f:Value->Value->Sem Value}{g:Int->Int->Int}(h:eZ X f (pW fun i j=>.int (g i j))):fF X f (eL fun i j=>.int (g i j)):=⟨fun pins s σ H x y v u Q I rx ry ⟨px,py,S,Q3,r1,r2,rS,q,k⟩=>by
 cases px with
 |int i=>
  cases py with
  |int j=>cases r1;cases r2;exact h pins s σ H _ _ v u Q I rx ry ⟨i,j,rfl,rfl,k _ S _ H q (.int _) rS .refl⟩
  |_=>exact q.elim
 |_=>exact q.elim⟩
def jc{f:Value->Value->Sem Value}{g:Int->Int->Bool}(h:eZ X f (pW fun i j=>.bl (g i j))):fF X f (eL fun i j=>.bl (g i j)):=⟨fun pins s σ H x y v u Q I rx ry ⟨px,py,S,Q3,r1,r2,rS,q,k⟩=>by
 cases px with
 |int i=>
  cases py with
  |int j=>cases r1;cases r2;exact h pins s σ H _ _ v u Q I rx ry ⟨i,j,rfl,rfl,k _ S _ H q (.bl _) rS .refl⟩
  |_=>exact q.elim
 |_=>exact q.elim⟩
def jd{f:Value->Value->Sem Value}{C:Int->Int->Prop}{g:Int->Int->Int}(h:eZ X f (rI C fun i j=>.int (g i j))):fF X f (d8 C fun i j=>.int (g i j)):=⟨fun pins s σ H x y v u Q I rx ry ⟨px,py,S,Q3,r1,r2,rS,q,k⟩=>by
 cases px with
 |int i=>
  cases py with
  |int j=>cases r1;cases r2;exact h pins s σ H _ _ v u Q I rx ry ⟨i,j,rfl,rfl,q.1,k _ S _ H q.2 (.int _) rS .refl⟩
  |_=>exact q.elim
 |_=>exact q.elim⟩
def j3(i j:Int):Prop:=j≠0/\j.natAbs < 2 ^ 8000
def kQ{n:Nat}(h:n < 2 ^ 8000):n.log2 < 9000:=by
 by_cases z:n=0
 ·rw[z];decide +kernel
 ·exact Hr ((Nat.log2_lt z).mpr h) (by decide)
def tW:fF X (binaryOp .Sub) (eL fun i j=>.int (i - j)):=tV sW
def tX:fF X (binaryOp .Mod) (d8 (fun _ j=>j≠0) fun i j=>.int (i.fmod j)):=jd pY
def qt:fF X (binaryOp .FloorDiv) (d8 j3 fun i j=>.int (i.fdiv j)):=jd (wM fun _ _ _ _ _ _ _ hc q=>PyProof.Rows.floordiv_int hc.1 q (.inl (PyProof.noPylong_of_log2 (kQ hc.2))))
def tY:fF X (binaryOp .Pow) (d8 pX fun i j=>.int (i ^ j.toNat)):=jd sX
def vX:fF X (compareOp .Lt) (eL fun i j=>.bl (decide (i < j))):=jc vE
def vY:fF X (compareOp .Gt) (eL fun i j=>.bl (decide (j < i))):=jc vF
def vZ:fF X (compareOp .GtE) (eL fun i j=>.bl (decide (j<=i))):=jc vG
end
end L3
namespace L2
open PySem PySem.Spec PyProof.Rows
section
variable {X:Cx}
def v0(K:Vo):R2:=fun x y H Q=>∃a b xs ys,x = .ref a/\y = .ref b/\z7 K H a xs/\z7 K H b ys/\xs.length+ys.length<=sizeLine/\∀r H',(∀c o,H c=some o->H' c=some o)->z7 K H' r (xs++ys)->Q (.ref r) H'
def qu:eZ X (binaryOp .Add) (v0 X.K):=by
 intro pins s σ H x y v u Q I rx ry h
 obtain⟨a,b,xs,ys,rfl,rfl,ha,hb,hz,q⟩:=h
 by_cases hx:xs=[]
 ·subst hx
  cases rx
  cases ry
  obtain⟨its,r1,p1,_⟩:=I.tuple ha
  obtain⟨its2,r2,p2,_⟩:=I.tuple hb
  cases r1
  obtain⟨⟨cls,dd,data,sl⟩,ho,hc,n,hd⟩:=id p1
  obtain⟨⟨C_,dd2,data2,sl2⟩,ho2,hc2,n2,hd2⟩:=id p2
  simp only at hc hd hc2 hd2
  subst hc hd hc2 hd2
  exact concat_meets ⟨_,ho,rfl⟩ ⟨_,ho2,rfl⟩ noFill_tuple_add seq_tuple_add GV GO (GC _ _)
   (tuple_addW0 a b _ its2.toArray n n2 dd dd2 sl sl2 rfl) ⟨ho,ho2,⟨.ref b,H,I,rfl,q b H (fun _ _ e=>e) hb⟩⟩
 ·exact p_ pins s σ H _ _ v u Q I rx ry ⟨a,b,xs,ys,rfl,rfl,ha,hb,hx,hz,fun e=>q a H (fun _ _ e=>e) (by rw[e,F2];exact ha),
   fun _ p hp=>q p _ (fun c o e=>by rw[aB (aO e hp)];exact e) (z7.of az)⟩
end
end L2
namespace L3
open PySem L2
section
variable {X:Cx}
def aF:R3:=fun x y S Q=>match x,y with
 | .int i,.int j=>Q (.int (i+j)) S
 | .str i,.str j=>i.length+j.length<=sizeLine/\Q (.str (i++j)) S
 | .tup i,.tup j=>i.length+j.length<=sizeLine/\Q (.tup (i++j)) S
 | .ref i,.ref j=>match S i,S j with
  |some (.lst xs),some (.lst ys)=>xs.length+ys.length<=sizeLine/\∀p,S p=none->Q (.ref p) (yO S p (.lst (xs++ys)))
  |_,_=>False
 |_,_=>False
def au:fF X (binaryOp .Add) aF:=⟨fun pins s σ H x y v u Q I rx ry ⟨px,py,S,Q3,r1,r2,rS,q,k⟩=>by
 unfold aF at q
 split at q
 ·cases r1;cases r2
  exact sV pins s σ H _ _ v u Q I rx ry ⟨_,_,rfl,rfl,k _ S _ H q (.int _) rS .refl⟩
 ·cases r1;cases r2
  exact kE pins s σ H _ _ v u Q I rx ry ⟨_,_,rfl,rfl,q.1,k _ S _ H q.2 (.str _) rS .refl⟩
 ·cases r1 with
  |tup h1 s1=>
   cases r2 with
   |tup h2 s2=>
    refine qu pins s σ H _ _ v u Q I rx ry ⟨_,_,_,_,rfl,rfl,h1,h2,by rw[s1.length,s2.length];exact q.1,fun r H' hs hr=>?_⟩
    exact k _ S _ H' q.2 (.tup hr ((s1.mono (.same hs)).append (s2.mono (.same hs)))) (rS.grow hs) (.same hs)
 ·cases r1;cases r2
  split at q
  ·rename_i i j xs ys e1 e2
   obtain⟨vs,h1,s1⟩:=rS _ _ e1
   obtain⟨us,h2,s2⟩:=rS _ _ e2
   exact tG pins s σ H _ _ v u Q I rx ry ⟨_,_,_,_,rfl,rfl,h1,h2,by rw[s1.length,s2.length];exact q.1,fun p hp=>k _ _ _ _ (q.2 p (rS.free hp)) (.ref p) (rS.new hp ⟨_,az,(s1.append s2).mono (.new hp)⟩) (.new hp)⟩
  ·exact q.elim
 ·exact q.elim⟩
end
mutual
inductive Dat (S:ap):PV->PyData->Prop
 |non:Dat S .non .none
 |bl (b:Bool):Dat S (.bl b) (.bool b)
 |int (i:Int):Dat S (.int i) (.int i)
 |str (x:Str):Dat S (.str x) (.str x)
 |tup {ps:List PV} {ds:List PyData}:zT S ps ds->Dat S (.tup ps) (.tuple ds)
 |cl {ps:List PV} {ds:List PyData}:zT S ps ds->Dat S (.cl ps) (.list ds)
 |ref {a:Addr} {ps:List PV} {ds:List PyData}:S a=some (.lst ps)->zT S ps ds->Dat S (.ref a) (.list ds)
inductive zT (S:ap):List PV->List PyData->Prop
 |nil:zT S [] []
 |cons {p:PV} {d:PyData} {ps:List PV} {ds:List PyData}:Dat S p d->zT S ps ds->zT S (p::ps) (d::ds)
end
section
variable {X:Cx} {pins:Va} {σ:L2.St} {H:Hp} {s:Shared} {S:ap}
def kR(I:Inv X pins σ H s)(rS:yR X.K H S):(∀{p:PV} {d:PyData},Dat S p d->∀{v:V} {u:Value},Rep X.K H v p->RelV v u->∃as,Reads s.heap u d as)/\∀{ps:List PV} {ds:List PyData},zT S ps ds->∀{vs:List V} {us:Vv},Reps X.K H vs ps->Vals vs us->∃as,ReadsAll s.heap us ds as:=by
 have one:=@Dat.rec S (motive_1:=fun p d _=>∀{v:V} {u:Value},Rep X.K H v p->RelV v u->∃as,Reads s.heap u d as) (motive_2:=fun ps ds _=>∀{vs:List V} {us:Vv},Reps X.K H vs ps->Vals vs us->∃as,ReadsAll s.heap us ds as)
 have two:=@zT.rec S (motive_1:=fun p d _=>∀{v:V} {u:Value},Rep X.K H v p->RelV v u->∃as,Reads s.heap u d as) (motive_2:=fun ps ds _=>∀{vs:List V} {us:Vv},Reps X.K H vs ps->Vals vs us->∃as,ReadsAll s.heap us ds as)
 have c1:∀{v:V} {u:Value},Rep X.K H v .non->RelV v u->∃as,Reads s.heap u .none as:=fun h r=>by cases h;cases r;exact⟨_,.none⟩
 have c2:∀(b:Bool) {v:V} {u:Value},Rep X.K H v (.bl b)->RelV v u->∃as,Reads s.heap u (.bool b) as:=fun b _ _ h r=>by cases h;cases r;exact⟨_,.bool b⟩
 have c3:∀(i:Int) {v:V} {u:Value},Rep X.K H v (.int i)->RelV v u->∃as,Reads s.heap u (.int i) as:=fun i _ _ h r=>by cases h;obtain⟨t,rfl⟩:=r;exact⟨_,.int i t⟩
 have c4:∀(x:Str) {v:V} {u:Value},Rep X.K H v (.str x)->RelV v u->∃as,Reads s.heap u (.str x) as:=fun x _ _ h r=>by cases h;obtain⟨t,rfl⟩:=r;exact⟨_,.str x t⟩
 have c5:∀{ps:List PV} {ds:List PyData},zT S ps ds->(∀{vs:List V} {us:Vv},Reps X.K H vs ps->Vals vs us->∃as,ReadsAll s.heap us ds as)->∀{v:V} {u:Value},Rep X.K H v (.tup ps)->RelV v u->∃as,Reads s.heap u (.tuple ds) as:=fun _ ih _ _ h r=>by
  cases h with
  |tup h rs=>
   cases r
   obtain⟨its,rv,⟨o,ho,hc,n,hd⟩,hz⟩:=I.tuple h
   obtain⟨as,q⟩:=ih rs rv
   exact⟨as,.tuple ho hc hd (by simpa using q)⟩
 have c6:∀{ps:List PV} {ds:List PyData},zT S ps ds->(∀{vs:List V} {us:Vv},Reps X.K H vs ps->Vals vs us->∃as,ReadsAll s.heap us ds as)->∀{v:V} {u:Value},Rep X.K H v (.cl ps)->RelV v u->∃as,Reads s.heap u (.list ds) as:=fun _ ih _ _ h r=>by
  cases h with
  |cl h rs=>
   cases r
   obtain⟨its,rv,⟨o,n,ho,hc,_,hd⟩,hz⟩:=I.list h.sq
   obtain⟨as,q⟩:=ih rs rv
   exact⟨_,.list ho hc hd (by simpa using q)⟩
 have c7:∀{a:Addr} {ps:List PV} {ds:List PyData},S a=some (.lst ps)->zT S ps ds->(∀{vs:List V} {us:Vv},Reps X.K H vs ps->Vals vs us->∃as,ReadsAll s.heap us ds as)->∀{v:V} {u:Value},Rep X.K H v (.ref a)->RelV v u->∃as,Reads s.heap u (.list ds) as:=fun e _ ih _ _ h r=>by
  cases h
  cases r
  obtain⟨vs,hv,rs⟩:=rS _ _ e
  obtain⟨its,rv,⟨o,n,ho,hc,_,hd⟩,hz⟩:=I.list (SqL.of hv)
  obtain⟨as,q⟩:=ih rs rv
  exact⟨_,.list ho hc hd (by simpa using q)⟩
 have c8:∀{vs:List V} {us:Vv},Reps X.K H vs []->Vals vs us->∃as,ReadsAll s.heap us [] as:=fun h r=>by cases h;cases r;exact⟨_,.nil⟩
 have c9:∀{p:PV} {d:PyData} {ps:List PV} {ds:List PyData},Dat S p d->zT S ps ds->(∀{v:V} {u:Value},Rep X.K H v p->RelV v u->∃as,Reads s.heap u d as)->(∀{vs:List V} {us:Vv},Reps X.K H vs ps->Vals vs us->∃as,ReadsAll s.heap us ds as)->∀{vs:List V} {us:Vv},Reps X.K H vs (p::ps)->Vals vs us->∃as,ReadsAll s.heap us (d::ds) as:=fun _ _ i1 i2 _ _ h r=>by
  cases h with
  |cons a rs=>
   cases r with
   |cons r1 r2=>
    obtain⟨as,q⟩:=i1 a r1
    obtain⟨bs,q2⟩:=i2 rs r2
    exact⟨_,.cons q q2⟩
 exact⟨fun h=>one c1 c2 c3 c4 c5 c6 c7 c8 c9 h,fun h=>two c1 c2 c3 c4 c5 c6 c7 c8 c9 h⟩
def Dat.reads(I:Inv X pins σ H s)(rS:yR X.K H S){p:PV}{d:PyData}{v:V}{u:Value}(h:Dat S p d)(r:Rep X.K H v p)(r2:RelV v u):∃as,Reads s.heap u d as:=(kR I rS).1 h r r2
end
section
variable {X:Cx}
def bL(neg:Bool):R3:=fun x y S Q=>match x,y with
 | .int i,.int j=>Q (.bl (neg != decide (i=j))) S
 | .str i,.str j=>Q (.bl (neg != decide (i=j))) S
 | .bl i,.bl j=>Q (.bl (neg != decide (i=j))) S
 |x,y=>∃d d',Dat S x d/\Dat S y d'/\d.canLay0=true/\d'.canLay0=true/\min d.depth d'.depth<=150/\Q (.bl (neg != PyData.eqv d d')) S
def v1(hu:X.A.units+150 < cLine):fF X (compareOp .Eq) (bL false):=⟨fun pins s σ H x y v u Q I rx ry ⟨px,py,S,Q3,r1,r2,rS,q,k⟩=>by
 unfold bL at q
 split at q
 ·cases r1;cases r2
  exact nk pins s σ H _ _ v u Q I rx ry ⟨rfl,k _ S _ H (by simpa using q) (.bl _) rS .refl⟩
 ·cases r1;cases r2
  exact nk pins s σ H _ _ v u Q I rx ry ⟨rfl,k _ S _ H (by simpa using q) (.bl _) rS .refl⟩
 ·cases r1;cases r2
  exact nk pins s σ H _ _ v u Q I rx ry ⟨rfl,k _ S _ H (by simpa using q) (.bl _) rS .refl⟩
 ·obtain⟨d,d',h1,h2,c1,c2,hd,q⟩:=q
  obtain⟨as,a1⟩:=h1.reads I rS r1 rx
  obtain⟨bs,a2⟩:=h2.reads I rS r2 ry
  exact SeqAt.compareEq_reads a1 a2 c1 c2 (by omega) ⟨.bl _,H,I,rfl,k _ S _ H (by simpa using q) (.bl _) rS .refl⟩⟩
def v4(hu:X.A.units+150 < cLine):fF X (compareOp .NotEq) (bL true):=⟨fun pins s σ H x y v u Q I rx ry ⟨px,py,S,Q3,r1,r2,rS,q,k⟩=>by
 unfold bL at q
 split at q
 ·cases r1;cases r2
  exact nl pins s σ H _ _ v u Q I rx ry ⟨rfl,k _ S _ H (by simpa using q) (.bl _) rS .refl⟩
 ·cases r1;cases r2
  exact nl pins s σ H _ _ v u Q I rx ry ⟨rfl,k _ S _ H (by simpa using q) (.bl _) rS .refl⟩
 ·cases r1;cases r2
  exact nl pins s σ H _ _ v u Q I rx ry ⟨rfl,k _ S _ H (by simpa using q) (.bl _) rS .refl⟩
 ·obtain⟨d,d',h1,h2,c1,c2,hd,q⟩:=q
  obtain⟨as,a1⟩:=h1.reads I rS r1 rx
  obtain⟨bs,a2⟩:=h2.reads I rS r2 ry
  exact SeqAt.compareNe_reads a1 a2 c1 c2 (by omega) ⟨.bl _,H,I,rfl,k _ S _ H (by simpa using q) (.bl _) rS .refl⟩⟩
noncomputable def je(S:ap):PV->Option (List PV)
 | .tup xs=>some xs
 | .cl xs=>some xs
 | .ref a=>match S a with|some (.lst xs)=>some xs|_=>none
 |_=>none
def tZ{H:Hp}{S:ap}{v:V}{p:PV}{xs:List PV}(rS:yR X.K H S)(r:Rep X.K H v p)(h:je S p=some xs):∃a vs,v = .ref a/\(SqL X.K H a vs\/z7 X.K H a vs)/\Reps X.K H vs xs:=by
 unfold je at h
 split at h
 ·cases h;cases r with|tup h1 rs=>exact⟨_,_,rfl,.inr h1,rs⟩
 ·cases h;cases r with|cl h1 rs=>exact⟨_,_,rfl,.inl h1.sq,rs⟩
 ·cases r
  split at h
  ·rename_i e
   cases h
   obtain⟨vs,hv,rs⟩:=rS _ _ e
   exact⟨_,vs,rfl,.inl (SqL.of hv),rs⟩
  ·cases h
 ·cases h
noncomputable def fG(x:PyData)(xs:List PyData):Bool:=xs.any fun y=>PyData.eqv y x
def lB(neg:Bool):R3:=fun x y S Q=>match x,y with
 | .str i,.str j=>Q (.bl (neg != !(Builtin.Str.occurrences j i 0 j.length 1).isEmpty)) S
 |x,y=>match y with
  | .ref a=>match S a with
   |some (.lst xs)=>∃d ds,Dat S x d/\zT S xs ds/\d.canLay0=true/\PyData.canLayAll0 ds=true/\d.depth<=150/\Q (.bl (neg != fG d ds)) S
   |some (.dct kvs)=>match x with
    | .str z=>Q (.bl (neg != (kvs.any fun kv=>decide (kv.1=Sum.inr z)))) S
    | .int z=>Q (.bl (neg != (kvs.any fun kv=>decide (kv.1=Sum.inl z)))) S
    |_=>False
   |_=>False
  | .tup xs=>∃d ds,Dat S x d/\zT S xs ds/\d.canLay0=true/\PyData.canLayAll0 ds=true/\d.depth<=150/\Q (.bl (neg != fG d ds)) S
  |_=>False
theorem y1.any{K:Vo}{H:Hp}{κ:Type} [DecidableEq κ](k:κ):∀{vs:List (κ×V)} {ps:List (κ×PV)},y1 K H vs ps->(cM vs k).isSome=ps.any fun kv=>decide (kv.1=k)
 |_,_,.nil=>rfl
 |_,_,.cons (k:=k') a r=>by
  rw[G6,<-y1.any k r]
  by_cases e:k'=k
  ·rw[zk e];simp[e]
  ·rw[zl e];simp[e]
def nW(hu:X.A.units+160 < cLine):fF X (compareOp .In) (lB false):=⟨fun pins s σ H x y v u Q I rx ry ⟨px,py,S,Q3,r1,r2,rS,q,k⟩=>by
 unfold lB at q
 split at q
 ·cases r1;cases r2
  exact ma pins s σ H _ _ v u Q I rx ry ⟨_,_,rfl,rfl,k _ S _ H (by simpa using q) (.bl _) rS .refl⟩
 ·split at q
  ·cases r2
   cases ry
   split at q
   ·rename_i xs e
    obtain⟨d,ds,h1,h2,c1,c2,hd,q⟩:=q
    obtain⟨as,a1⟩:=h1.reads I rS r1 rx
    obtain⟨bs,a2⟩:=(Dat.ref e h2).reads I rS (.ref _) (rfl:RelV (.ref _) (.ref _))
    exact SeqAt.in_list_reads a2 a1 c2 c1 (by omega) ⟨.bl _,H,I,rfl,k _ S _ H (by simpa [fG]using q) (.bl _) rS .refl⟩
   ·rename_i kvs e
    obtain⟨kv,hv,rk⟩:=rS _ _ e
    split at q
    ·cases r1
     exact vP (by omega) I (DGet.k (k:=Sum.inr _) hv) rx fun s3 I3=>⟨.bl _,H,I3,rfl,k _ S _ H (by rw[rk.any];simpa using q) (.bl _) rS .refl⟩
    ·cases r1
     exact vP (by omega) I (DGet.k (k:=Sum.inl _) hv) rx fun s3 I3=>⟨.bl _,H,I3,rfl,k _ S _ H (by rw[rk.any];simpa using q) (.bl _) rS .refl⟩
    ·exact q.elim
   ·exact q.elim
  ·rename_i xs
   obtain⟨d,ds,h1,h2,c1,c2,hd,q⟩:=q
   obtain⟨as,a1⟩:=h1.reads I rS r1 rx
   obtain⟨bs,a2⟩:=(Dat.tup h2).reads I rS r2 ry
   exact SeqAt.in_tuple_reads a2 a1 c2 c1 (by omega) ⟨.bl _,H,I,rfl,k _ S _ H (by simpa [fG]using q) (.bl _) rS .refl⟩
  ·exact q.elim⟩
def j4(hu:X.A.units+160 < cLine):fF X (compareOp .NotIn) (lB true):=⟨fun pins s σ H x y v u Q I rx ry ⟨px,py,S,Q3,r1,r2,rS,q,k⟩=>by
 unfold lB at q
 split at q
 ·cases r1;cases r2
  exact i0 pins s σ H _ _ v u Q I rx ry ⟨_,_,rfl,rfl,k _ S _ H (by simpa using q) (.bl _) rS .refl⟩
 ·split at q
  ·cases r2
   cases ry
   split at q
   ·rename_i xs e
    obtain⟨d,ds,h1,h2,c1,c2,hd,q⟩:=q
    obtain⟨as,a1⟩:=h1.reads I rS r1 rx
    obtain⟨bs,a2⟩:=(Dat.ref e h2).reads I rS (.ref _) (rfl:RelV (.ref _) (.ref _))
    exact SeqAt.notIn_list_reads a2 a1 c2 c1 (by omega) ⟨.bl _,H,I,rfl,k _ S _ H (by simpa [fG]using q) (.bl _) rS .refl⟩
   ·rename_i kvs e
    obtain⟨kv,hv,rk⟩:=rS _ _ e
    split at q
    ·cases r1
     exact lx (by omega) I (DGet.k (k:=Sum.inr _) hv) rx fun s3 I3=>⟨.bl _,H,I3,rfl,k _ S _ H (by rw[rk.any];simpa using q) (.bl _) rS .refl⟩
    ·cases r1
     exact lx (by omega) I (DGet.k (k:=Sum.inl _) hv) rx fun s3 I3=>⟨.bl _,H,I3,rfl,k _ S _ H (by rw[rk.any];simpa using q) (.bl _) rS .refl⟩
    ·exact q.elim
   ·exact q.elim
  ·rename_i xs
   obtain⟨d,ds,h1,h2,c1,c2,hd,q⟩:=q
   obtain⟨as,a1⟩:=h1.reads I rS r1 rx
   obtain⟨bs,a2⟩:=(Dat.tup h2).reads I rS r2 ry
   exact SeqAt.notIn_tuple_reads a2 a1 c2 c1 (by omega) ⟨.bl _,H,I,rfl,k _ S _ H (by simpa [fG]using q) (.bl _) rS .refl⟩
  ·exact q.elim⟩
end
end L3
namespace HT
open PySem PySem.Spec PyProof.Rows
section
variable {prog:Program} {w:World} {A:Around} {E:Vq} {s:Shared}
def eM{t sl:Addr}{items:Vw}{vl vu:Value}{lo hi:Option Int}{Q:Vq}(ht:IsTup s.heap t items)(hs:s.heap.IsSliceOf sl vl vu .none)(pl:IsPart vl lo)(pu:IsPart vu hi)
  (hw:yY items.size 0 lo=0/\yY items.size items.size hi=items.size)
  (h:Q (.ref t) s):wpAny (model prog w) A (getItem (.ref t) (.ref sl)) Q E s:=by
 obtain⟨os,hos,hcs,hds⟩:=id hs
 have Db:s.TypeIs (.ref sl) "slice":=⟨os,hos,hcs⟩
 unfold getItem
 try with_reducible refine Gu ?_
 first|refine EW (E7 ?_)|skip
 refine EW (wpAny_sequenceKey ht.typeIs (by decide) ?_)
 refine EW (wpAny_callSpecial?_slot (name:=Str.ofString "__getitem__") ht.typeIs FD
  (wpAny_call_entry FD ht.typeIs entry_tuple_getitem ?_ (args_tuple_getitem _ _)))
 show wpAny _ _ (Builtin.Tuple.tupleItemsOf (.ref t) >>= _) _ _ s
 refine EW (tupleItemsOf_ ht ?_)
 refine EW (GW Db ?_)
 rw[if_pos (by decide)]
 refine EW (cA hs pl pu ?_)
 have hyes:(((yY items.size 0 lo:Nat):Int) == 0&&(1:Int) == 1&&(yY items.size items.size hi - yY items.size 0 lo) == items.size)=true:=by
  rw[hw.1,hw.2];simp
 show wpAny _ _ (if (((yY items.size 0 lo:Nat):Int) == 0&&(1:Int) == 1&&(yY items.size items.size hi - yY items.size 0 lo) == items.size)=true then _ else _) _ _ s
 rw[if_pos hyes]
 unfold Builtin.Tuple.tupleIsExact
 refine EW (EW (GW ht.typeIs (E7 ?_)))
 rw[if_pos (by decide)]
 first
  |exact EW (wpAny_rule (E7 ⟨_,rfl,E7 h⟩))
  |exact EW (wpAny_rule (EW (E7 (E7 ⟨_,rfl,E7 h⟩))))
  |exact EW (wpAny_rule (EW (E7 ⟨_,rfl,E7 h⟩)))
end
end HT
namespace L2
open PySem PySem.Spec PyProof.Rows
section
variable {X:Cx}
noncomputable def v5(K:Vo):V->Option Int->Option Int->Hp->VK->Prop:=fun x lo hi H Q=>∃a xs,x = .ref a/\z7 K H a xs/\∀r H',(∀c o,H c=some o->H' c=some o)->z7 K H' r (gk xs lo hi)->Q (.ref r) H'
def qv:u8 X (v5 X.K):=by
 intro pins s σ H x v vl vu lo hi sl Q I rx hs pl pu h
 obtain⟨a,xs,rfl,hx,q⟩:=h
 by_cases hw:HT.yY xs.length 0 lo=0/\HT.yY xs.length xs.length hi=xs.length
 ·cases rx
  obtain⟨its,r,ht,hz⟩:=I.tuple hx
  have hlen:its.toArray.size=xs.length:=by rw[E4];exact r.length.symm
  refine⟨"tuple",_,FD.lookup,ht.typeIs,HT.eM ht hs pl pu (by rw[hlen];exact hw) ⟨.ref a,H,I,rfl,q a H (fun _ _ e=>e) ?_⟩⟩
  have e:gk xs lo hi=xs:=by unfold gk;rw[hw.1,hw.2];simp
  rw[e];exact hx
 ·exact tm pins s σ H _ v vl vu lo hi sl Q I rx hs pl pu ⟨a,xs,rfl,hx,hw,fun p hp=>q p _ (fun c o e=>by rw[aB (aO e hp)];exact e) (z7.of az)⟩
def qw(hu:X.A.units+1 < cLine):tq X (fun x y H Q=>∃a v,x = .ref a/\DGet H a y (some v)/\Q v H):=by
 intro value slice pins s σ H x y v u Q I rx ry h hs
 obtain⟨a,z,rfl,g,q⟩:=h
 cases rx
 exact tail_any (jV I g) PySem.F.slot_dict_getitem.lookup (mi hu I g ry fun w' s3 I3 rw'=>⟨z,H,I3,rw',q⟩) hs
def nX(hu:X.A.units+1 < cLine):pS X (fun o i v H Q=>∃a H',o = .ref a/\By H a i v H'/\Q H'):=by
 intro pins s σ H o i v ov iv u Q I ro ri rv h
 obtain⟨a,H',rfl,g,q⟩:=h
 cases ro
 exact mj hu I g ri rv fun s' I'=>⟨H',I',q⟩
end
end L2
namespace L3
open PySem L2
theorem Reps.zN{K:Vo}{H:Hp}{vs:List V}{ps:List PV}{i:Int}{p:PV}(r:Reps K H vs ps)(h:L2.zN ps i=some p):∃v,L2.zN vs i=some v/\Rep K H v p:=by
 unfold L2.zN at h ⊢
 rw[r.length]
 cases e:pJ ps.length i with
 |none=>rw[e]at h;cases h
 |some j=>
  rw[e]at h
  obtain⟨v,h1,h2⟩:=r.get h
  exact⟨v,h1,h2⟩
noncomputable def jf:PV->Option aL
 | .int i=>some (.inl i)
 | .str x=>some (.inr x)
 |_=>none
def cp{K:Vo}{H:Hp}{v:V}{p:PV}{k:aL}(r:Rep K H v p)(h:jf p=some k):v=kV k:=by
 cases p with
 |int i=>cases h;cases r;rfl
 |str i=>cases h;cases r;rfl
 |_=>cases h
noncomputable def ia{κ:Type} [DecidableEq κ]:List (κ×PV)->κ->Option PV
 |[],_=>none
 |(k',v)::r,k=>if k'=k then some v else ia r k
theorem y1.val{K:Vo}{H:Hp}{κ:Type} [DecidableEq κ]{k:κ}{p:PV}:∀{vs:List (κ×V)} {ps:List (κ×PV)},y1 K H vs ps->ia ps k=some p->∃v,cM vs k=some v/\Rep K H v p
 |_,_,.nil,h=>by cases h
 |_,_,.cons (k:=k') a r,h=>by
  unfold ia at h
  split at h
  ·rename_i e;cases h;exact⟨_,zk e,a⟩
  ·rename_i e;rw[zl e];exact y1.val r h
section
variable {X:Cx} {a b e lo hi:Expr} {ta tb te:aJ} {pos p2:Pos}
structure ye (X:Cx) (r:R3):Prop where
 ok:tq X (LR X r)
def v6{r:R3}(hr:ye X r)(ha:aM X a ta)(hb:aM X b tb)(hs:eG b):aM X (.Subscript a b pos) (aj r ta tb):=⟨aE (rF hr.ok ha.ok hb.ok hs) fun _ _ _=>f6⟩
def aw:R3:=fun x y S Q=>match x with
 | .tup xs=>match y with | .int i=>(match zN xs i with|some v=>Q v S|none=>False)|_=>False
 | .cl xs=>match y with | .int i=>(match zN xs i with|some v=>Q v S|none=>False)|_=>False
 | .str z=>match y with | .int i=>z.length<=sizeLine/\(match zN z.cps.toList i with|some c=>Q (.str ⟨#[c]⟩) S|none=>False)|_=>False
 | .ref a=>match S a with
  |some (.lst xs)=>(match y with | .int i=>(match zN xs i with|some v=>Q v S|none=>False)|_=>False)
  |some (.dct kvs)=>(match jf y with|some k=>(match ia kvs k with|some v=>Q v S|none=>False)|none=>False)
  |_=>False
 |_=>False
def yf(hu:X.A.units+1 < cLine):ye X aw:=⟨fun value slice pins s σ H x y v u Q I rx ry ⟨px,py,S,Q3,r1,r2,rS,q,k⟩ hs=>by
 unfold aw at q
 split at q
 ·split at q
  ·split at q
   ·rename_i e
    cases r2
    cases r1 with
    |tup h1 rs=>
     obtain⟨w,hw,rw'⟩:=rs.zN e
     exact tu value slice pins s σ H _ _ v u Q I rx ry ⟨_,_,_,w,rfl,rfl,h1,hw,k _ S _ H q rw' rS .refl⟩ hs
   ·exact q.elim
  ·exact q.elim
 ·split at q
  ·split at q
   ·rename_i e
    cases r2
    cases r1 with
    |cl h1 rs=>
     obtain⟨w,hw,rw'⟩:=rs.zN e
     exact lv value slice pins s σ H _ _ v u Q I rx ry ⟨_,_,_,w,rfl,rfl,h1.sq,hw,k _ S _ H q rw' rS .refl⟩ hs
   ·exact q.elim
  ·exact q.elim
 ·split at q
  ·obtain⟨hz,q⟩:=q
   split at q
   ·rename_i e
    cases r1;cases r2
    exact tw value slice pins s σ H _ _ v u Q I rx ry ⟨_,_,_,rfl,rfl,hz,e,k _ S _ H q (.str _) rS .refl⟩ hs
   ·exact q.elim
  ·exact q.elim
 ·split at q
  ·rename_i e0
   split at q
   ·split at q
    ·rename_i e
     cases r1;cases r2
     obtain⟨vs,hv,rs⟩:=rS _ _ e0
     obtain⟨w,hw,rw'⟩:=rs.zN e
     exact lv value slice pins s σ H _ _ v u Q I rx ry ⟨_,_,_,w,rfl,rfl,SqL.of hv,hw,k _ S _ H q rw' rS .refl⟩ hs
    ·exact q.elim
   ·exact q.elim
  ·rename_i e0
   split at q
   ·rename_i ek
    split at q
    ·rename_i ev
     cases r1
     have e1:=cp r2 ek
     subst e1
     obtain⟨kv,hv,rk⟩:=rS _ _ e0
     obtain⟨w,hw,rw'⟩:=rk.val ev
     refine qw hu value slice pins s σ H _ _ v u Q I rx ry ⟨_,w,rfl,?_,k _ S _ H q rw' rS .refl⟩ hs
     rw[<-hw]
     exact DGet.k hv
    ·exact q.elim
   ·exact q.elim
  ·exact q.elim
 ·exact q.elim⟩
abbrev u9:=bH->ap->(Option Int->ap->Prop)->b6->Prop
inductive LO (X:Cx) (t:u9) (σ:L2.St) (H:Hp) (Q:Option Int->Hp->Prop):Prop
 |mk (σ3 S Q3 E3) (rσ:yT X.K H σ σ3) (rS:yR X.K H S) (h:t σ3 S Q3 E3) (xo:Bs X H E3) (k:∀o S' H',Q3 o S'->yR X.K H' S'->Grow X.K H H'->Q o H'):LO X t σ H Q
structure wQ (X:Cx) (e:Option Expr) (t:u9):Prop where
 ok:PO X e (LO X t)
noncomputable def kS:u9:=fun _ S Q _=>Q none S
noncomputable def jg(t:aJ):u9:=fun σ S Q E=>t σ S (fun v S'=>match v with | .int i=>Q (some i) S'|_=>False) E
def nY{e:Option Expr}{t t':TO}(h:PO X e t)(k:∀σ H Q,t' σ H Q->t σ H Q):PO X e t':=fun pins s σ H Q I q=>h pins s σ H Q I (k σ H Q q)
def fb:wQ X none kS:=⟨nY p8 fun σ H Q ⟨σ3,S,Q3,E3,rσ,rS,h,xo,k⟩=>k none S H h rS .refl⟩
def cq(h:aM X e te):wQ X (some e) (jg te):=⟨nY (p9 h.ok) fun σ H Q ⟨σ3,S,Q3,E3,rσ,rS,h,xo,k⟩=>⟨σ3,S,_,E3,rσ,rS,h,xo,fun p S' v H' h1 rv z_ g=>by
 cases p with
 |int i=>cases rv;exact⟨i,rfl,k _ S' H' h1 z_ g⟩
 |_=>exact h1.elim⟩⟩
noncomputable def cr{α:Type}(xs:List α)(lo hi:Option Int):List α:=(xs.drop (HT.yY xs.length 0 lo)).take (HT.yY xs.length xs.length hi - HT.yY xs.length 0 lo)
def Reps.cut{K:Vo}{H:Hp}{vs:List V}{ps:List PV}(r:Reps K H vs ps)(lo hi:Option Int):Reps K H (gk vs lo hi) (cr ps lo hi):=by
 unfold gk cr
 rw[r.length]
 exact(r.drop _).take _
def gv(x:PV)(lo hi:Option Int)(S:ap)(Q:bv):Prop:=match x with
 | .tup xs=>Q (.tup (cr xs lo hi)) S
 | .cl xs=>∀p,S p=none->Q (.ref p) (yO S p (.lst (cr xs lo hi)))
 | .str z=>z.length<=sizeLine/\Q (.str (Txt.slice z lo hi)) S
 | .ref a=>match S a with|some (.lst xs)=>∀p,S p=none->Q (.ref p) (yO S p (.lst (cr xs lo hi)))|_=>False
 |_=>False
noncomputable def yy(X:Cx):V->Option Int->Option Int->Hp->VK->Prop:=fun x lo hi H Q=>∃px S Q3,Rep X.K H x px/\yR X.K H S/\gv px lo hi S Q3/\Bt X.K H Q3 Q
def yz:u8 X (yy X):=by
 intro pins s σ H x v vl vu lo hi sl Q I rx hs pl pu ⟨px,S,Q3,r1,rS,q,k⟩
 unfold gv at q
 split at q
 ·cases r1 with
  |tup h1 rs=>exact qv pins s σ H _ v vl vu lo hi sl Q I rx hs pl pu ⟨_,_,rfl,h1,fun r H' hh hr=>k _ S _ H' q (.tup hr ((rs.cut lo hi).mono (.same hh))) (rS.grow hh) (.same hh)⟩
 ·cases r1 with
  |cl h1 rs=>exact lw pins s σ H _ v vl vu lo hi sl Q I rx hs pl pu ⟨_,_,rfl,h1.sq,fun p hp=>k _ _ _ _ (q p (rS.free hp)) (.ref p) (rS.new hp ⟨_,az,(rs.cut lo hi).mono (.new hp)⟩) (.new hp)⟩
 ·cases r1
  exact tL pins s σ H _ v vl vu lo hi sl Q I rx hs pl pu ⟨_,rfl,q.1,k _ S _ H q.2 (.str _) rS .refl⟩
 ·split at q
  ·rename_i e
   cases r1
   obtain⟨vs,hv,rs⟩:=rS _ _ e
   exact lw pins s σ H _ v vl vu lo hi sl Q I rx hs pl pu ⟨_,_,rfl,SqL.of hv,fun p hp=>k _ _ _ _ (q p (rS.free hp)) (.ref p) (rS.new hp ⟨_,az,(rs.cut lo hi).mono (.new hp)⟩) (.new hp)⟩
  ·exact q.elim
 ·exact q.elim
def aY(te:aJ)(tl th:u9):aJ:=fun σ S Q E=>te σ S (fun x S1=>tl σ S1 (fun l S2=>th σ S2 (fun u S3=>gv x l u S3 Q) E) E) E
def b8{lo hi:Option Expr}{tl th:u9}(he:aM X e te)(hl:wQ X lo tl)(hu:wQ X hi th):aM X (.Subscript e (.Slice lo hi none p2) pos) (aY te tl th):=
 ⟨aE (ny yz he.ok hl.ok hu.ok) fun σ H Q ⟨σ3,S,Q3,E3,rσ,rS,h,xo,k⟩=>⟨σ3,S,_,E3,rσ,rS,h,xo,fun x S1 v H1 h1 rx yW g1=>⟨σ3,S1,_,E3,rσ.mono g1,yW,h1,xo.mono g1,fun l S2 H2 h2 Ag g2=>
  ⟨σ3,S2,_,E3,rσ.mono (g1.trans g2),Ag,h2,xo.mono (g1.trans g2),fun u S3 H3 h3 BK g3=>⟨x,S3,Q3,rx.mono (g2.trans g3),BK,h3,k.mono (g1.trans (g2.trans g3))⟩⟩⟩⟩⟩
def qx:eZ X (binaryOp .Mult) (rI IntMulOk fun i j=>.int (i * j)):=wM fun _ _ _ _ _ _ _ hc q=>PyProof.Rows.mul_int q hc
def fU:R3:=fun x y S Q=>match x,y with
 | .int i,.int j=>IntMulOk i j/\Q (.int (i * j)) S
 | .ref a,.int j=>(match S a with|some (.lst xs)=>-(2 ^ 63)<=j/\j < 2 ^ 63/\xs.length * j.toNat<=sizeLine/\∀p,S p=none->Q (.ref p) (yO S p (.lst (List.replicate j.toNat xs).flatten))|_=>False)
 |_,_=>False
theorem Reps.rep{K:Vo}{H:Hp}{vs:List V}{ps:List PV}(r:Reps K H vs ps):∀n:Nat,Reps K H (List.replicate n vs).flatten (List.replicate n ps).flatten
 |0=>.nil
 |n+1=>by
  rw[FZ,FZ,Gj,Gj]
  exact r.append (Reps.rep r n)
def ei:fF X (binaryOp .Mult) fU:=⟨fun pins s σ H x y v u Q I rx ry ⟨px,py,S,Q3,r1,r2,rS,q,k⟩=>by
 unfold fU at q
 split at q
 ·cases r1;cases r2
  exact qx pins s σ H _ _ v u Q I rx ry ⟨_,_,rfl,rfl,q.1,k _ S _ H q.2 (.int _) rS .refl⟩
 ·split at q
  ·rename_i e
   cases r1;cases r2
   obtain⟨vs,hv,rs⟩:=rS _ _ e
   exact tH pins s σ H _ _ v u Q I rx ry ⟨_,_,_,rfl,rfl,hv,q.1,q.2.1,by rw[rs.length];exact q.2.2.1,fun p hp=>k _ _ _ _ (q.2.2.2 p (rS.free hp)) (.ref p) (rS.new hp ⟨_,az,(rs.rep _).mono (.new hp)⟩) (.new hp)⟩
  ·exact q.elim
 ·exact q.elim⟩
end
end L3
namespace L2
open PySem PySem.Spec PyProof.Rows
section
variable {X:Cx}
def kT{pins:Va}{σ:St}{H:Hp}{s:Shared}{x:Value}{t:Value}{p:Heap->Prop}{vs:List V}{tp:Addr}{b:Bool}{Q:Vq}{E:Vq}(I:Inv X pins σ H s)(Z:PySem.W.KitX X.K x t p)(hp:p s.heap)(hx:x ≠ .builtin "__main__.__loader__#opaque")
  (ht:z7 X.K H tp vs) (e:∀its,Vals vs its->PySem.W.kitAny X.K t its=some b) (h:∀tk,Q (.bool b) { s with toks:=tk }):wpAny (model X.prog X.w) X.A (call (.builtin "isinstance") [x,.ref tp]) Q E s:=by
 obtain⟨its,rv,⟨⟨cls,dd,data,sl⟩,ho,hc,n,hd⟩,hz⟩:=I.tuple ht
 simp only at hc hd
 subst hc hd
 exact PySem.W.kia_tup Z I.Bw hp ho (e its rv) hx h
end
end L2
namespace L3
open PySem L2
abbrev iC:=List PV->ap->bv->Prop
section
variable {X:Cx} {e o:Expr} {es:List Expr} {te to:aJ} {ts:List aJ} {x:Str} {p pos apos cpos:Pos}
inductive LC (X:Cx) (r:iC) (xs:List V) (H:Hp) (Q:VK):Prop
 |mk (ps S Q3) (rx:Reps X.K H xs ps) (rS:yR X.K H S) (h:r ps S Q3) (k:Bt X.K H Q3 Q):LC X r xs H Q
structure bS (X:Cx) (f:Value) (r:iC):Prop where
 ok:cz X f (LC X r)
def ah(r:iC)(ts:List aJ):aJ:=fun σ S Q E=>am ts σ S (fun ps S1=>r ps S1 Q) E
def lC{r:iC}{σ:L2.St}{H:Hp}{Q:VK}:LE X (ah r ts) σ H Q->wP (ts.map (LE X)) σ H fun vs H1=>LC X r vs H1 Q:=fun⟨σ3,S,Q3,E3,rσ,rS,h,xo,k⟩=>
 bT rσ rS h xo fun ps S' vs H' hl q rv z_ g=>⟨ps,S',Q3,rv,z_,q,k.mono g⟩
def qy{id:String}{r:iC}(hc:bS X (.builtin id) r)(hg:Gl X x)(hm:X.mg x=none)(hv:bootBuiltins x=some (.builtin id))(he:starEach (e::es) X.env=(false,eval e X.env)::starEach es X.env)(ha:iB X (e::es) ts)
  (hn:x ≠ "__name__":=by decide) (hdb:(x == ("__debug__":Str))=false:=by decide) (hpl:(backTo pos (starEach es X.env)).any (·.1)=false:=by rfl):aM X (.Call (.Name x p) (e::es) [] pos) (ah r ts):=
 ⟨aE (nv hc.ok hg hm hv ha.ok hn hdb he hpl) fun _ _ _=>lC⟩
def qz{id:String}{r:iC}(hc:bS X (.type id) r)(hg:Gl X x)(hm:X.mg x=none)(hv:bootBuiltins x=some (.type id))(he:starEach (e::es) X.env=(false,eval e X.env)::starEach es X.env)(ha:iB X (e::es) ts)
  (hn:x ≠ "__name__":=by decide) (hdb:(x == ("__debug__":Str))=false:=by decide) (hpl:(backTo pos (starEach es X.env)).any (·.1)=false:=by rfl):aM X (.Call (.Name x p) (e::es) [] pos) (ah r ts):=
 ⟨aE (mf hc.ok hg hm hv ha.ok hn hdb he hpl) fun _ _ _=>lC⟩
def bt:iC:=fun ps S Q=>match ps with
 |[.tup xs]=>Q (.int xs.length) S
 |[.cl xs]=>Q (.int xs.length) S
 |[.str z]=>z.length<=sizeLine/\Q (.int z.length) S
 |[.ref a]=>(match S a with|some (.lst xs)=>Q (.int xs.length) S|some (.dct kvs)=>Q (.int kvs.length) S|_=>False)
 |_=>False
def bn:bS X (.builtin "len") bt:=⟨fun pins s σ H xs us Q I r ⟨ps,S,Q3,rp,rS,q,k⟩=>by
 unfold bt at q
 split at q
 ·cases rp with|cons a rr=>cases rr;cases a with|tup h rs=>exact cL pins s σ H _ us Q I r ⟨_,_,rfl,.inr h,by rw[rs.length];exact k _ S _ H q (.int _) rS .refl⟩
 ·cases rp with|cons a rr=>cases rr;cases a with|cl h rs=>exact cL pins s σ H _ us Q I r ⟨_,_,rfl,.inl h.sq,by rw[rs.length];exact k _ S _ H q (.int _) rS .refl⟩
 ·cases rp with|cons a rr=>cases rr;cases a;exact i3 pins s σ H _ us Q I r ⟨_,rfl,q.1,k _ S _ H q.2 (.int _) rS .refl⟩
 ·cases rp with
  |cons a rr=>
   cases rr;cases a
   split at q
   ·rename_i e
    obtain⟨vs,hv,rs⟩:=rS _ _ e
    exact cL pins s σ H _ us Q I r ⟨_,_,rfl,.inl (SqL.of hv),by rw[rs.length];exact k _ S _ H q (.int _) rS .refl⟩
   ·rename_i e
    obtain⟨vs,hv,rs⟩:=rS _ _ e
    exact mn pins s σ H _ us Q I r ⟨_,_,rfl,hv,by rw[rs.length];exact k _ S _ H q (.int _) rS .refl⟩
   ·exact q.elim
 ·exact q.elim⟩
def kU:iC:=fun ps S Q=>match ps with|[.int i]=>Q (.int (if i < 0 then -i else i)) S|_=>False
def rQ:bS X (.builtin "abs") kU:=⟨fun pins s σ H xs us Q I r ⟨ps,S,Q3,rp,rS,q,k⟩=>by
 unfold kU at q
 split at q
 ·cases rp with|cons a rr=>cases rr;cases a;exact nn pins s σ H _ us Q I r ⟨_,rfl,k _ S _ H q (.int _) rS .refl⟩
 ·exact q.elim⟩
def gw:iC:=fun ps S Q=>match ps with|[.int i,.int j]=>Q (.int (if j > i then j else i)) S|_=>False
def nZ(hc:X.calm=true):bS X (.builtin "max") gw:=⟨fun pins s σ H xs us Q I r ⟨ps,S,Q3,rp,rS,q,k⟩=>by
 unfold gw at q
 split at q
 ·cases rp with|cons a rr=>cases rr with|cons b r3=>cases r3;cases a;cases b;exact md hc pins s σ H _ us Q I r ⟨_,_,rfl,k _ S _ H q (.int _) rS .refl⟩
 ·exact q.elim⟩
def iD:iC:=fun ps S Q=>match ps with|[.int i]=>Q (.int i) S|[.bl b]=>Q (.int (if b then 1 else 0)) S|_=>False
def CA:bS X (.type "int") iD:=⟨fun pins s σ H xs us Q I r ⟨ps,S,Q3,rp,rS,q,k⟩=>by
 unfold iD at q
 split at q
 ·cases rp with|cons a rr=>cases rr;cases a;exact il pins s σ H _ us Q I r (.inl ⟨_,rfl,k _ S _ H q (.int _) rS .refl⟩)
 ·cases rp with|cons a rr=>cases rr;cases a;exact il pins s σ H _ us Q I r (.inr ⟨_,rfl,k _ S _ H q (.int _) rS .refl⟩)
 ·exact q.elim⟩
def cD:iC:=fun ps S Q=>match ps with|[.int i]=>i.natAbs.log2 < 1920/\Q (.str (toString i)) S|_=>False
def Ay:bS X (.type "str") cD:=⟨fun pins s σ H xs us Q I r ⟨ps,S,Q3,rp,rS,q,k⟩=>by
 unfold cD at q
 split at q
 ·cases rp with|cons a rr=>cases rr;cases a;exact iV pins s σ H _ us Q I r ⟨_,rfl,q.1,k _ S _ H q.2 (.str _) rS .refl⟩
 ·exact q.elim⟩
def a6:iC:=fun ps S Q=>match ps with
 |[v]=>(match je S v with|some xs=>Q (.tup xs) S|none=>False)
 |_=>False
def eN:bS X (.type "tuple") a6:=⟨fun pins s σ H xs us Q I r ⟨ps,S,Q3,rp,rS,q,k⟩=>by
 unfold a6 at q
 split at q
 ·cases rp with
  |cons a rr=>
   cases rr
   split at q
   ·rename_i e
    obtain⟨b,vs,rfl,hs,rs⟩:=tZ rS a e
    rcases hs with hs|hs
    ·exact d4 pins s σ H _ us Q I r ⟨_,_,rfl,.inl ⟨hs,fun p hp=>k _ S _ _ q (.tup (z7.of az) (rs.mono (.new hp))) (rS.other hp) (.new hp)⟩⟩
    ·exact d4 pins s σ H _ us Q I r ⟨_,_,rfl,.inr ⟨hs,k _ S _ _ q (.tup hs rs) rS .refl⟩⟩
   ·exact q.elim
 ·exact q.elim⟩
noncomputable def gx:List PV->Option (List Bool)
 |[]=>some []
 | .bl b::r=>(gx r).map (b::·)
 |_::_=>none
theorem gy{K:Vo}{H:Hp}:∀{vs:List V} {ps:List PV} {bs:List Bool},Reps K H vs ps->gx ps=some bs->vs=bs.map V.bl
 |_,_,_,.nil,h=>by cases h;rfl
 |_,_,bs,.cons (p:=p) a r,h=>by
  cases p with
  |bl b=>
   cases a
   unfold gx at h
   cases e:gx _ with
   |none=>rw[e]at h;cases h
   |some l=>rw[e]at h;cases h;rw[gy r e];rfl
  |_=>cases h
def mw:iC:=fun ps S Q=>match ps with
 |[.ref a]=>(match S a with|some (.lst xs)=>(match gx xs with|some bs=>Q (.bl (bs.all id)) S|none=>False)|_=>False)
 |_=>False
def rR(hc:X.calm=true):bS X (.builtin "all") mw:=⟨fun pins s σ H xs us Q I r ⟨ps,S,Q3,rp,rS,q,k⟩=>by
 unfold mw at q
 split at q
 ·cases rp with
  |cons a rr=>
   cases rr;cases a
   split at q
   ·rename_i e
    split at q
    ·rename_i eb
     obtain⟨vs,hv,rs⟩:=rS _ _ e
     have e2:=gy rs eb
     subst e2
     exact mq hc pins s σ H _ us Q I r ⟨_,_,rfl,SqL.of hv,k _ S _ H q (.bl _) rS .refl⟩
    ·exact q.elim
   ·exact q.elim
 ·exact q.elim⟩
def j5:iC:=fun ps S Q=>match ps with
 |[.int _]=>False
 |[.str _]=>False
 |[.bl _]=>False
 |[.non]=>False
 |[.ty _]=>False
 |[v]=>∃d,Dat S v d/\d.showable=true/\d.hasDict=false/\d.depth<=100/\d.shown.length<=sizeLine/\Q (.str d.shown) S
 |_=>False
def t0(hu:X.A.units+150 < cLine)(hg:X.A.guards=some []):bS X (.builtin "repr") j5:=⟨fun pins s σ H xs us Q I r ⟨ps,S,Q3,rp,rS,q,k⟩=>by
 unfold j5 at q
 have main:∀{v:PV} {x:V} {u:Value} {a:Addr},u = .ref a->Rep X.K H x v->RelV x u->(∃d,Dat S v d/\d.showable=true/\d.hasDict=false/\d.depth<=100/\d.shown.length<=sizeLine/\Q3 (.str d.shown) S)->wpAny (model X.prog X.w) X.A (call (.builtin "repr") [u]) (EP X pins σ Q) X.xe s:=by
  rintro v x u a rfl rv rx ⟨d,hd,h1,h2,h3,h4,q⟩
  obtain⟨as,R⟩:=hd.reads I rS rv rx
  exact Fj I.tk (repr_of_reads' R h1 (PyData.noDict_hsm h2) hg (by omega) (fun _ _ e=>e) (fun h' u tk hk ht=>⟨.str _,H,I.kept hk,⟨u,rfl⟩,k _ S _ H q (.str _) rS .refl⟩) h4)
 split at q
 ·exact q.elim
 ·exact q.elim
 ·exact q.elim
 ·exact q.elim
 ·exact q.elim
 ·rename_i n1 n2 n3 n4 n5
  cases rp with
  |cons a rr=>
   cases rr
   cases r with
   |cons r1 r2=>
    cases r2
    cases a with
    |non=>exact absurd rfl n4
    |bl b=>exact absurd rfl (n3 b)
    |int i=>exact absurd rfl (n1 i)
    |str i=>exact absurd rfl (n2 i)
    |ty i=>exact absurd rfl (n5 i)
    |ref b=>cases r1;exact main rfl (.ref b) rfl q
    |tup h rs=>cases r1;exact main rfl (.tup h rs) rfl q
    |cl h rs=>cases r1;exact main rfl (.cl h rs) rfl q
    |exc h1 h2 rs=>cases r1;exact main rfl (.exc h1 h2 rs) rfl q
    |cls h=>cases r1;exact main rfl (.cls h) rfl q
 ·exact q.elim⟩
end
noncomputable def eO(t c:String):Bool:=t == c || (t == "bool" && c == "int")
noncomputable def qA(S:ap):PV->Option String
 | .non=>some "NoneType"
 | .bl _=>some "bool"
 | .int _=>some "int"
 | .str _=>some "str"
 | .tup _=>some "tuple"
 | .cl _=>some "list"
 | .ref a=>(match S a with|some (.lst _)=>some "list" | some (.dct _)=>some "dict" | _=>none)
 | .ty _=>none
 | .exc _ _ _=>none
 | .cls _=>none
noncomputable def cN(c:String):Bool:=["int","str","bool","tuple","list","dict"].contains c
def n6(K:Vo)(t c:String):PySem.W.kitCls K (.type t) (.type c)=(if PySem.W.kitMeta c=true then (PySem.fastBuiltinMro t).map (·.contains (Value.type c)) else none):=rfl
def lD{K:Vo}{t c:String}(ht:t∈["NoneType","bool","int","str","tuple","list","dict"])(hc:cN c=true):PySem.W.kitOne K (.type t) (.type c)=some (eO t c):=by
 have hc':c∈["int","str","bool","tuple","list","dict"]:=by
  have:=hc
  unfold cN at this
  simpa using this
 simp only[E1,Fb,FU]at ht hc'
 rcases ht with rfl|rfl|rfl|rfl|rfl|rfl|rfl<;>rcases hc' with rfl|rfl|rfl|rfl|rfl|rfl <;>
  first
   |(unfold PySem.W.kitOne;rw[if_pos (by decide)];rfl)
   |(unfold PySem.W.kitOne;rw[if_neg (by decide),n6];decide +kernel)
def n9{S:ap}{p:PV}{t:String}(h:qA S p=some t):t∈["NoneType","bool","int","str","tuple","list","dict"]:=by
 unfold qA at h
 split at h<;>first|(cases h;decide)|(split at h<;>first|(cases h;decide)|cases h)|cases h
section
variable {X:Cx}
noncomputable def v7:List PV->Option (List String)
 |[]=>some []
 | .ty c::r=>if cN c then (v7 r).map (c::·) else none
 |_::_=>none
def kW:iC:=fun ps S Q=>match ps with
 |[x,.ty c]=>(match qA S x with|some t=>cN c=true/\Q (.bl (eO t c)) S|none=>False)
 |[x,.tup cs]=>(match qA S x,v7 cs with|some t,some l=>Q (.bl (l.any (eO t))) S|_,_=>False)
 |_=>False
def qB{K:Vo}{H:Hp}{t:String}(ht:t∈["NoneType","bool","int","str","tuple","list","dict"]):∀(cs:List PV) {l:List String} {vs:List V} {its:Vv},v7 cs=some l->Reps K H vs cs->Vals vs its->PySem.W.kitAny K (.type t) its=some (l.any (eO t)):=by
 intro cs
 induction cs with
 |nil=>intro l vs its h rs r;cases h;cases rs;cases r;rfl
 |cons p cs ih=>
  intro l vs its h rs r
  cases p with
  |ty c=>
   unfold v7 at h
   split at h
   ·rename_i hc
    cases e:v7 cs with
    |none=>rw[e]at h;cases h
    |some l'=>
     rw[e]at h
     cases h
     cases rs with
     |cons a rs=>
      cases a
      cases r with
      |@cons _ u _ us r1 r2=>
       cases (show u=Value.type c from r1)
       show(match PySem.W.kitOne K (.type t) (.type c)with|some true=>some true|some false=>PySem.W.kitAny K (.type t) us|none=>none)=_
       rw[lD ht hc,G6]
       cases eO t c with
       |true=>rfl
       |false=>exact ih e rs r2
   ·cases h
  |_=>cases h
def n_:bS X (.builtin "isinstance") kW:=⟨fun pins s σ H xs us Q I r ⟨ps,S,Q3,rp,rS,q,k⟩=>by
 have main:∀{v:PV} {x:V} {u:Value} {t:String},Rep X.K H x v->RelV x u->qA S v=some t->∃(h:Heap->Prop),PySem.W.KitX X.K u (.type t) h/\h s.heap/\u ≠ .builtin "__main__.__loader__#opaque":=by
  intro v x u t rv rx ht
  cases rv with
  |non=>cases ht;cases rx;exact⟨_,PySem.W.kitx_none,True.intro,fun z=>nomatch z⟩
  |bl b=>cases ht;cases rx;exact⟨_,PySem.W.kitx_bool,True.intro,fun z=>nomatch z⟩
  |int b=>cases ht;obtain⟨t,rfl⟩:=rx;exact⟨_,PySem.W.kitx_int,True.intro,fun z=>nomatch z⟩
  |str b=>cases ht;obtain⟨t,rfl⟩:=rx;exact⟨_,PySem.W.kitx_str,True.intro,fun z=>nomatch z⟩
  |ty b=>cases ht
  |exc _ _ _=>cases ht
  |cls _=>cases ht
  |tup h rs=>
   cases ht;cases rx
   obtain⟨its,_,⟨o,ho,hc,_⟩,_⟩:=I.tuple h
   exact⟨_,PySem.W.kitx_tuple,⟨o,ho,hc⟩,fun z=>nomatch z⟩
  |cl h rs=>
   cases ht;cases rx
   obtain⟨its,_,⟨o,n,ho,hc,_⟩,_⟩:=I.list h.sq
   exact⟨_,PySem.W.kitx_list,⟨o,ho,hc⟩,fun z=>nomatch z⟩
  |ref a=>
   cases rx
   unfold qA at ht
   simp only at ht
   split at ht
   ·rename_i e
    cases ht
    obtain⟨vs,hv,_⟩:=rS _ _ e
    obtain⟨its,_,⟨o,n,ho,hc,_⟩,_⟩:=I.list (SqL.of hv)
    exact⟨_,PySem.W.kitx_list,⟨o,ho,hc⟩,fun z=>nomatch z⟩
   ·rename_i e
    cases ht
    obtain⟨vs,hv,_⟩:=rS _ _ e
    obtain⟨_,_,vs',_,p⟩:=(show yZ X.prog X.w H s.heap _ (.dK vs)from I.hok _ _ hv)
    obtain⟨o,es,ep,h1,h2,_⟩:=p
    exact⟨_,PySem.W.kitx_dict,⟨o,h1,h2.1⟩,fun z=>nomatch z⟩
   ·cases ht
 unfold kW at q
 split at q
 ·split at q
  ·rename_i ht
   cases rp with
   |cons a rr=>
    cases rr with
    |cons b r3=>
     cases r3;cases b
     cases r with
     |cons r1 r2=>
      cases r2 with
      |cons r4 r5=>
       cases r5
       cases (show _=Value.type _ from r4)
       obtain⟨h,Z,hp,hx⟩:=main a r1 ht
       exact Fj I.tk (PySem.W.kia_one Z I.Bw hp (lD (n9 ht) q.1) hx fun tk ht=>⟨.bl _,H,I.tok _,rfl,k _ S _ H q.2 (.bl _) rS .refl⟩)
  ·exact q.elim
 ·split at q
  ·rename_i ht hl
   cases rp with
   |cons a rr=>
    cases rr with
    |cons b r3=>
     cases r3
     cases b with
     |tup h1 rs=>
      cases r with
      |cons r1 r2=>
       cases r2 with
       |cons r4 r5=>
        cases r5
        cases r4
        obtain⟨h,Z,hp,hx⟩:=main a r1 ht
        exact Fj I.tk (kT I Z hp hx h1 (fun its rv=>qB (n9 ht) _ hl rs rv) fun tk ht=>⟨.bl _,H,I.tok _,rfl,k _ S _ H q (.bl _) rS .refl⟩)
  ·exact q.elim
 ·exact q.elim⟩
end
abbrev m8:=PV->List PV->ap->bv->Prop
section
variable {X:Cx} {e o:Expr} {es:List Expr} {te to:aJ} {ts:List aJ} {name:Str} {p pos apos cpos:Pos} {T id:String}
inductive LM (X:Cx) (r:m8) (x:V) (xs:List V) (H:Hp) (Q:VK):Prop
 |mk (px ps S Q3) (rx:Rep X.K H x px) (rs:Reps X.K H xs ps) (rS:yR X.K H S) (h:r px ps S Q3) (k:Bt X.K H Q3 Q):LM X r x xs H Q
structure pK (X:Cx) (id:String) (r:m8):Prop where
 ok:tt X id (LM X r)
def f7(T:String)(x:PV)(S:ap):Prop:=match x with
 | .str _=>T = "str"
 | .ref a=>(match S a with|some (.lst _)=>T = "list" | some (.dct _)=>T = "dict" | _=>False)
 | .cl _=>T = "list"
 |_=>False
def oa{H:Hp}{S:ap}{v:V}{p:PV}(rS:yR X.K H S)(r:Rep X.K H v p)(h:f7 T p S):wN X.K T v H:=by
 cases r with
 |str x=>exact h
 |ref a=>
  unfold f7 at h
  simp only at h
  split at h
  ·rename_i e
   obtain⟨vs,hv,_⟩:=rS _ _ e
   exact .inl ⟨h,_,SqL.of hv⟩
  ·rename_i e
   obtain⟨vs,hv,_⟩:=rS _ _ e
   exact .inr (.inr (.inl ⟨h,.inl ⟨_,hv⟩⟩))
  ·exact h.elim
 |cl h1 _=>exact .inl ⟨h,_,h1.sq⟩
 |_=>exact h.elim
def bI(T:String)(r:m8)(to:aJ)(ts:List aJ):aJ:=fun σ S Q E=>to σ S (fun x S1=>f7 T x S1/\am ts σ S1 (fun ps S2=>r x ps S2 Q) E) E
def xJ{r:m8}(pa:PlainAttrs T)(slot:Slot T name id)(hty:typeOf (.builtin id)=pure (.type "method_descriptor"))(hm:pK X id r)(hs:starEach (e::es) X.env=(false,eval e X.env)::starEach es X.env)(ho:aM X o to)(ha:iB X (e::es) ts)
  (hbase:attributeBase o name X.env (eval o X.env)=eval o X.env:=by rfl)
  (hfew:((backTo cpos (starEach (e::es) X.env)).all (fun x=>!x.1)&&(backToKw cpos (keywordEach [] X.env)).all (fun x=>x.1.isSome)
   && decide ((e::es).length+([]:List Keyword).length+(if ([]:List Keyword).isEmpty then 0 else 1) < 30))=true:=by rfl)
  (hline:(apos.endLine == cpos.line)=true:=by rfl) (hplain:(backTo cpos (starEach es X.env)).any (·.1)=false:=by rfl):aM X (.Call (.Attribute o name apos) (e::es) [] cpos) (bI T r to ts):=
 ⟨aE (vN pa slot hty hm.ok ho.ok ha.ok hbase hfew hline hs hplain) fun σ H Q ⟨σ3,S,Q3,E3,rσ,rS,h,xo,k⟩=>⟨σ3,S,_,E3,rσ,rS,h,xo,fun x S1 v H1 h1 rx yW g1=>
  ⟨oa yW rx h1.1,bT (rσ.mono g1) yW h1.2 (xo.mono g1) fun ps S2 vs H2 hl q rv Ag g2=>⟨x,ps,S2,Q3,rx.mono g2,rv,Ag,q,k.mono (g1.trans g2)⟩⟩⟩⟩
def v8{r:m8}(pa:PlainAttrs T)(slot:Slot T name id)(hty:typeOf (.builtin id)=pure (.type "method_descriptor"))(hm:pK X id r)(ho:aM X o to)
  (hbase:attributeBase o name X.env (eval o X.env)=eval o X.env:=by rfl) (hline:(apos.endLine == cpos.line)=true:=by rfl):aM X (.Call (.Attribute o name apos) [] [] cpos) (bI T r to []):=
 ⟨aE (tD pa slot hty hm.ok ho.ok hbase hline) fun σ H Q ⟨σ3,S,Q3,E3,rσ,rS,h,xo,k⟩=>⟨σ3,S,_,E3,rσ,rS,h,xo,fun x S1 v H1 h1 rx yW g1=>
  ⟨oa yW rx h1.1,⟨x,[],S1,Q3,rx,.nil,yW,h1.2,k.mono g1⟩⟩⟩⟩
def aD:m8:=fun x ps S Q=>match x,ps with
 | .ref a,[y]=>(match S a with|some (.lst xs)=>xs.length < sizeLine/\Q .non (yO S a (.lst (xs++[y])))|_=>False)
 |_,_=>False
def aZ:pK X "list.append" aD:=⟨fun pins s σ H x xs v us Q I rx rs ⟨px,ps,S,Q3,r1,rp,rS,q,k⟩=>by
 unfold aD at q
 split at q
 ·split at q
  ·rename_i e
   cases r1
   cases rp with
   |cons b rr=>
    cases rr
    obtain⟨vs,hv,rl⟩:=rS _ _ e
    exact mh pins s σ H _ _ v us Q I rx rs ⟨_,_,_,rfl,rfl,hv,by rw[rl.length];exact q.1,k _ _ _ _ q.2 .non (rS.put hv trivial ⟨_,az,(rl.append (.cons b .nil)).mono (.mut hv trivial)⟩) (.mut hv trivial)⟩
  ·exact q.elim
 ·exact q.elim⟩
def mx:m8:=fun x ps S Q=>match x,ps with
 | .ref a,[]=>(match S a with|some (.lst xs)=>(match xs[xs.length - 1]? with|some y=>Q y (yO S a (.lst xs.dropLast))|none=>False)|_=>False)
 | .ref a,[.int i]=>(match S a with|some (.lst xs)=>-(2 ^ 63)<=i/\i < 2 ^ 63/\(match seqIndex? i xs.length with|some j=>(match xs[j]? with|some y=>Q y (yO S a (.lst (xs.eraseIdx j)))|none=>False)|none=>False)|_=>False)
 |_,_=>False
def v9:pK X "list.pop" mx:=⟨fun pins s σ H x xs v us Q I rx rs ⟨px,ps,S,Q3,r1,rp,rS,q,k⟩=>by
 unfold mx at q
 split at q
 ·split at q
  ·rename_i e
   split at q
   ·rename_i ey
    cases r1
    cases rp
    obtain⟨vs,hv,rl⟩:=rS _ _ e
    rw[<-rl.length]at ey
    obtain⟨y',Dn,ry⟩:=rl.get ey
    exact tE pins s σ H _ _ v us Q I rx rs ⟨_,_,_,rfl,rfl,hv,Dn,k _ _ _ _ q (ry.mono (.mut hv trivial)) (rS.put hv trivial ⟨_,az,rl.dropLast.mono (.mut hv trivial)⟩) (.mut hv trivial)⟩
   ·exact q.elim
  ·exact q.elim
 ·split at q
  ·rename_i e
   obtain⟨h1,h2,q⟩:=q
   split at q
   ·rename_i ej
    split at q
    ·rename_i ey
     cases r1
     cases rp with
     |cons b rr=>
      cases rr;cases b
      obtain⟨vs,hv,rl⟩:=rS _ _ e
      obtain⟨y',Dn,ry⟩:=rl.get ey
      rw[<-rl.length]at ej
      exact nB pins s σ H _ _ v us Q I rx rs ⟨_,_,_,_,_,rfl,rfl,hv,h1,h2,ej,Dn,k _ _ _ _ q (ry.mono (.mut hv trivial)) (rS.put hv trivial ⟨_,az,(rl.eraseIdx _).mono (.mut hv trivial)⟩) (.mut hv trivial)⟩
    ·exact q.elim
   ·exact q.elim
  ·exact q.elim
 ·exact q.elim⟩
noncomputable def texts:List PV->Option (List Str)
 |[]=>some []
 | .str b::r=>(texts r).map (b::·)
 |_::_=>none
theorem cO{K:Vo}{H:Hp}:∀{vs:List V} {ps:List PV} {bs:Vs},Reps K H vs ps->texts ps=some bs->vs=bs.map V.str
 |_,_,_,.nil,h=>by cases h;rfl
 |_,_,bs,.cons (p:=p) a r,h=>by
  cases p with
  |str b=>
   cases a
   unfold texts at h
   cases e:texts _ with
   |none=>rw[e]at h;cases h
   |some l=>rw[e]at h;cases h;rw[cO r e];rfl
  |_=>cases h
def b9:m8:=fun x ps S Q=>match x,ps with
 | .str z,[.ref a]=>(match S a with|some (.lst xs)=>(match texts xs with|some ys=>(ys.map (·.length)).sum+ys.length * z.length<=1000000/\Q (.str (Txt.join z ys)) S|none=>False)|_=>False)
 |_,_=>False
def fc:pK X "str.join" b9:=⟨fun pins s σ H x xs v us Q I rx rs ⟨px,ps,S,Q3,r1,rp,rS,q,k⟩=>by
 unfold b9 at q
 split at q
 ·split at q
  ·rename_i e
   split at q
   ·rename_i et
    cases r1
    cases rp with
    |cons b rr=>
     cases rr;cases b
     obtain⟨vs,hv,rl⟩:=rS _ _ e
     have e2:=cO rl et
     subst e2
     exact qj pins s σ H _ _ v us Q I rx rs ⟨_,_,_,rfl,rfl,SqL.of hv,q.1,k _ S _ H q.2 (.str _) rS .refl⟩
   ·exact q.elim
  ·exact q.elim
 ·exact q.elim⟩
end
section
variable {X:Cx} {e c:Expr} {te:aJ} {st:Stmt} {rest a b:List Stmt} {t u:bc} {tc:fZ} {pos:Pos}
def aQ:bc:=fun D σ S=>D.nx σ S
def ae(t u:bc):bc:=fun D σ S=>t { D with nx:=u D } σ S
def aK:fT X [] aQ:=⟨lA pP fun D σ H ⟨σ3,S,D3,rσ,rS,h,xo,n,r,bk,ct⟩=>n σ3 S σ H h rσ rS .refl⟩
def ab(h1:kO X st t)(h2:fT X rest u):fT X (st::rest) (ae t u):=
 ⟨lA (nc h1.ok h2.ok) fun D σ H ⟨σ3,S,D3,rσ,rS,h,xo,n,r,bk,ct⟩=>⟨σ3,S,{ D3 with nx:=u D3 },rσ,rS,h,xo,fun σ4 S' σ' H' h' BF z_ g=>⟨σ4,S',D3,BF,z_,h',xo.mono g,n.mono g,r.mono g,bk.mono g,ct.mono g⟩,r,bk,ct⟩⟩
def ai(h1:kO X st t):fT X [st] t:=⟨pQ h1.ok⟩
def a3(te:aJ):bc:=fun D σ S=>te σ S (fun _ S1=>D.nx σ S1) D.ex
def bY(he:aM X e te)(hs:swapsWith e none pos.line X.env=pure false:=by rfl):kO X (.Expr e pos) (a3 te):=
 ⟨bW (pR he.ok hs) fun D σ H ⟨σ3,S,D3,rσ,rS,h,xo,n,r,bk,ct⟩=>⟨σ3,S,_,D3.ex,rσ,rS,h,xo,fun p S1 v H1 h1 rv yW g1=>n σ3 S1 σ H1 h1 (rσ.mono g1) yW g1⟩⟩
def aG(te:aJ):bc:=fun D σ S=>te σ S D.rt D.ex
def ax(he:aM X e te):kO X (.Return (some e) pos) (aG te):=
 ⟨bW (sI he.ok) fun D σ H ⟨σ3,S,D3,rσ,rS,h,xo,n,r,bk,ct⟩=>⟨σ3,S,D3.rt,D3.ex,rσ,rS,h,xo,r⟩⟩
def bu(c:fZ)(t u:bc):bc:=fun D σ S=>c σ S (fun b S1=>if b=true then t D σ S1 else u D σ S1) D.ex
def aU(hc:kN X c tc)(ha:fT X a t)(hb:fT X b u):kO X (.If c a b pos) (bu tc t u):=
 ⟨bW (vo hc.ok ha.ok hb.ok) fun D σ H ⟨σ3,S,D3,rσ,rS,h,xo,n,r,bk,ct⟩=>⟨σ3,S,_,D3.ex,rσ,rS,h,xo,fun z S1 H1 h1 yW g1=>by
  cases z with
  |true=>rw[if_pos rfl]at h1 ⊢;exact⟨σ3,S1,D3,rσ.mono g1,yW,h1,xo.mono g1,n.mono g1,r.mono g1,bk.mono g1,ct.mono g1⟩
  |false=>rw[if_neg (by decide)]at h1 ⊢;exact⟨σ3,S1,D3,rσ.mono g1,yW,h1,xo.mono g1,n.mono g1,r.mono g1,bk.mono g1,ct.mono g1⟩⟩⟩
def bB:bc:=fun _ _ _=>False
def bd:kO X st bB:=⟨bW ng fun D σ H ⟨σ3,S,D3,rσ,rS,h,xo,n,r,bk,ct⟩=>h.elim⟩
def aq(i:Nat)(te:aJ):bc:=fun D σ S=>te σ S (fun v S1=>D.nx (σ.set i (some v)) S1) D.ex
def og{i:Nat}{D:hJ}{σ:L2.St}{H:Hp}:LS X (aq i te) D σ H->pV (LE X te) (jQ i) D σ H:=fun⟨σ3,S,D3,rσ,rS,h,xo,n,r,bk,ct⟩=>
 ⟨σ3,S,_,D3.ex,rσ,rS,h,xo,fun p S1 v H1 h1 rv yW g1=>n _ S1 _ H1 h1 ((rσ.mono g1).set rv i) yW g1⟩
def v_{i:Nat}{x:Str}{pos':Pos}(hN:X.N.Nodup)(hi:X.N[i]?=some x)(hx:rA X.env.scope x)(he:aM X e te)(hs:swapsWith e (some (.Name x pos')) pos.line X.env=pure false:=by rfl)
  (hf:X.fn x=true\/X.env.scope.names.lookup x=some .local:=by first|exact .inl rfl|exact .inr rfl|assumption):kO X (.Assign [.Name x pos'] e pos) (aq i te):=⟨bW (sO hN hi hx he.ok hs hf) fun _ _ _=>og⟩
def my(i j:Nat)(ta tb:aJ):bc:=fun D σ S=>ta σ S (fun v S1=>tb σ S1 (fun w S2=>D.nx ((σ.set i (some v)).set j (some w)) S2) D.ex) D.ex
def rT{i j:Nat}{x y:Str}{a b:Expr}{ta tb:aJ}{px py pt:Pos}{kt k2 B7}(hc:X.calm=true)(hN:X.N.Nodup)(hi:X.N[i]?=some x)(hj:X.N[j]?=some y)(hij:i≠j)
  (hx:X.env.scope.names.lookup x=some .local) (hy:X.env.scope.names.lookup y=some .local) (ha:iB X [a,b] [ta,tb])
  (hw:swappedStores [.Tuple [.Name x px,.Name y py] kt pt] (.Tuple [a,b] k2 B7) X.env=pure (some [x,y]):=by rfl)
  (hs:swapsWithSole [.Tuple [.Name x px,.Name y py] kt pt] (.Tuple [a,b] k2 B7) pos.line X.env=pure false:=by rfl) :
  kO X (.Assign [.Tuple [.Name x px,.Name y py] kt pt] (.Tuple [a,b] k2 B7) pos) (my i j ta tb):=
 ⟨bW (sP hc hN hi hj hij hx hy ha.ok hw hs) fun D σ H ⟨σ3,S,D3,rσ,rS,h,xo,n,r,bk,ct⟩=>
  ⟨σ3,S,_,D3.ex,rσ,rS,h,xo,fun v S1 v' H1 h1 rv yW g1=>⟨σ3,S1,_,D3.ex,rσ.mono g1,yW,h1,xo.mono g1,fun w S2 w' H2 h2 rw' Ag g2=>
   ⟨v',w',rfl,n _ S2 _ H2 h2 (((rσ.mono (g1.trans g2)).set (rv.mono g2) i).set rw' j) Ag (g1.trans g2)⟩⟩⟩⟩
inductive Tg where
 |n (i:Nat)|tp (l:Tg)|nil|cons (a r:Tg)
mutual
noncomputable def Tg.put:Tg->PV->bH->Option bH
 | .n i,p,σ=>some (σ.set i (some p))
 | .tp l,.tup xs,σ=>l.zH xs σ
 |_,_,_=>none
noncomputable def Tg.zH:Tg->List PV->bH->Option bH
 | .nil,[],σ=>some σ
 | .cons a r,x::xs,σ=>(match a.put x σ with|some σ'=>r.zH xs σ'|none=>none)
 |_,_,_=>none
end
noncomputable def Tg.len:Tg->Nat
 | .cons _ r=>r.len+1
 |_=>0
mutual
noncomputable def Tg.g2(K:Vo):Tg->TG
 | .n i=>jQ i
 | .tp l=>vt K l.len (l.BX K)
 |_=>fun _ _ _ _=>False
noncomputable def Tg.BX(K:Vo):Tg->rB
 | .nil=>vq
 | .cons a r=>rC (a.g2 K) (r.BX K)
 |_=>fun _ _ _ _=>False
end
noncomputable def Tg.under(own:Nat):Tg->Bool
 | .n i=>decide (i < own)
 | .tp l=>l.under own
 | .nil=>true
 | .cons a r=>a.under own&&r.under own
theorem Tg.AT:∀(g:Tg) {ps:List PV} {σ3 σ4:bH},g.zH ps σ3=some σ4->ps.length=g.len
 | .nil,ps,σ3,σ4,h=>by
  cases ps with
  |nil=>rfl
  |cons _ _=>unfold Tg.zH at h;cases h
 | .cons a r,ps,σ3,σ4,h=>by
  cases ps with
  |nil=>unfold Tg.zH at h;cases h
  |cons x xs=>
   unfold Tg.zH at h
   split at h
   ·rw[Fc,Tg.AT r h];rfl
   ·cases h
 | .n _,ps,σ3,σ4,h=>by unfold Tg.zH at h;cases h
 | .tp _,ps,σ3,σ4,h=>by unfold Tg.zH at h;cases h
mutual
theorem Tg.A6{K:Vo}{H:Hp}{own:Nat}:∀(g:Tg) {v:V} {p:PV} {σ:L2.St} {σ3 σ4:bH} {Q:L2.St->Hp->Prop},Rep K H v p->yT K H σ σ3->g.put p σ3=some σ4->(∀σ',yT K H σ' σ4->(g.under own=true->σ'.drop own=σ.drop own)->Q σ' H)->g.g2 K v σ H Q
 | .n i,v,p,σ,σ3,σ4,Q,r,rσ,h,k=>by
  unfold Tg.put at h
  cases h
  unfold Tg.g2
  refine k _ (rσ.set r i) fun hb=>?_
  have hi:i < own:=of_decide_eq_true hb
  rw[List.drop_set]
  rw[if_pos hi]
 | .tp l,v,p,σ,σ3,σ4,Q,r,rσ,h,k=>by
  cases p with
  |tup xs=>
   unfold Tg.put at h
   cases r with
   |tup hq rs=>
    have hg:=Tg.Be (own:=own) l rs rσ h k
    unfold Tg.g2
    exact⟨_,_,rfl,hq,rs.length.trans (Tg.AT l h),hg⟩
  |_=>unfold Tg.put at h;cases h
 | .nil,v,p,σ,σ3,σ4,Q,r,rσ,h,k=>by unfold Tg.put at h;cases h
 | .cons _ _,v,p,σ,σ3,σ4,Q,r,rσ,h,k=>by unfold Tg.put at h;cases h
theorem Tg.Be{K:Vo}{H:Hp}{own:Nat}:∀(g:Tg) {vs:List V} {ps:List PV} {σ:L2.St} {σ3 σ4:bH} {Q:L2.St->Hp->Prop},Reps K H vs ps->yT K H σ σ3->g.zH ps σ3=some σ4->(∀σ',yT K H σ' σ4->(g.under own=true->σ'.drop own=σ.drop own)->Q σ' H)->g.BX K vs σ H Q
 | .nil,vs,ps,σ,σ3,σ4,Q,r,rσ,h,k=>by
  cases ps with
  |nil=>
   unfold Tg.zH at h
   cases h
   cases r
   unfold Tg.BX
   exact⟨rfl,k _ rσ fun _=>rfl⟩
  |cons _ _=>unfold Tg.zH at h;cases h
 | .cons a r',vs,ps,σ,σ3,σ4,Q,r,rσ,h,k=>by
  cases ps with
  |nil=>unfold Tg.zH at h;cases h
  |cons x xs=>
   unfold Tg.zH at h
   split at h
   ·rename_i σ5 e5
    cases r with
    |cons r1 r2=>
     unfold Tg.BX
     refine⟨_,_,rfl,Tg.A6 (own:=own) a r1 rσ e5 fun σ' BF d1=>Tg.Be (own:=own) r' r2 BF h fun Ev Do d2=>k Ev Do fun hb=>?_⟩
     have hb':a.under own=true/\r'.under own=true:=by simpa [Tg.under]using hb
     rw[d2 hb'.2,d1 hb'.1]
   ·cases h
 | .n _,vs,ps,σ,σ3,σ4,Q,r,rσ,h,k=>by unfold Tg.zH at h;cases h
 | .tp _,vs,ps,σ,σ3,σ4,Q,r,rσ,h,k=>by unfold Tg.zH at h;cases h
end
structure qC (X:Cx) (e:Expr) (g:Tg):Prop where
 ok:PG X e (g.g2 X.K)
structure qD (X:Cx) (es:List Expr) (g:Tg):Prop where
 ok:vp X es (g.BX X.K)
 len:(assignEach es X.env).length=g.len
def yA(i:Nat){x:Str}(hN:X.N.Nodup)(hi:X.N[i]?=some x)(hx:rA X.env.scope x)(hf:X.fn x=true\/X.env.scope.names.lookup x=some .local:=by first|exact .inl rfl|exact .inr rfl|assumption):qC X (.Name x pos) (.n i):=⟨by
 have h:=pT (pos:=pos) hN hi hx hf
 unfold Tg.g2
 exact h⟩
def rV:qD X [] .nil:=⟨by unfold Tg.BX;exact pU,rfl⟩
def jh{es:List Expr}{a r:Tg}(h1:qC X e a)(h2:qD X es r)(hs:(assignEach (e::es) X.env).map (·.2)=assign e X.env::(assignEach es X.env).map (·.2):=by rfl)(hl:(assignEach (e::es) X.env).length=(assignEach es X.env).length+1:=by rfl):qD X (e::es) (.cons a r):=
 ⟨by unfold Tg.BX;exact nh h1.ok h2.ok hs,by rw[hl,h2.len];rfl⟩
def yg{es:List Expr}{k:Nat}{l:Tg}(hc:X.calm=true)(h:qD X es l)(hst:(assignEach es X.env).findIdx? (·.1)=none:=by rfl):qC X (.Tuple es k pos) (.tp l):=⟨by
 have h:=sL (pos:=pos) (k:=k) hc h.ok h.len hst
 unfold Tg.g2
 exact h⟩
end
noncomputable def ji{κ:Type} [DecidableEq κ](kvs:List (κ×PV))(k:κ)(v:PV):List (κ×PV):=
 if (kvs.any fun kv=>decide (kv.1=k))=true then kvs.map (fun kv=>if kv.1=k then (kv.1,v) else kv) else kvs++[(k,v)]
theorem y1.append{K:Vo}{H:Hp}{κ:Type}:∀{vs us:List (κ×V)} {ps qs:List (κ×PV)},y1 K H vs ps->y1 K H us qs->y1 K H (vs++us) (ps++qs)
 |_,_,_,_,.nil,s=>s
 |_,_,_,_,.cons a r,s=>.cons a (y1.append r s)
def y1.put{K:Vo}{H:Hp}{κ:Type} [DecidableEq κ]{k:κ}{v:V}{p:PV}(q:Rep K H v p){vs:List (κ×V)}{ps:List (κ×PV)}(r:y1 K H vs ps):y1 K H (dm vs k v) (ji ps k p):=by
 have e:(vs.any fun kv=>decide (kv.1=k))=(ps.any fun kv=>decide (kv.1=k)):=by rw[gm,r.any]
 unfold dm ji
 rw[e]
 split
 ·clear e
  rename_i h
  clear h
  induction r with
  |nil=>exact .nil
  |@cons k' v' p' vs' ps' a r ih=>
   rw[EV,EV]
   by_cases z:k'=k
   ·rw[if_pos z,if_pos z];exact .cons q ih
   ·rw[if_neg z,if_neg z];exact .cons a ih
 ·exact r.append (.cons q .nil)
def fe(o i v:PV)(S:ap)(Q:ap->Prop):Prop:=match o with
 | .ref a=>(match S a with
  |some (.lst xs)=>(match i with | .int k=>(match pJ xs.length k with|some j=>Q (yO S a (.lst (xs.set j v)))|none=>False)|_=>False)
  |some (.dct kvs)=>(match jf i with|some k=>kvs.length < sizeLine/\Q (yO S a (.dct (ji kvs k v)))|none=>False)
  |_=>False)
 |_=>False
section
variable {X:Cx} {e o i:Expr} {te to ti:aJ} {pos pos':Pos}
noncomputable def xK(X:Cx):V->V->V->Hp->(Hp->Prop)->Prop:=fun o i v H Q=>∃po pi pv S Q3,Rep X.K H o po/\Rep X.K H i pi/\Rep X.K H v pv/\yR X.K H S/\fe po pi pv S Q3/\∀S' H',Q3 S'->yR X.K H' S'->Grow X.K H H'->Q H'
def t3(hu:X.A.units+1 < cLine):pS X (xK X):=by
 intro pins s σ H o i v ov iv u Q I ro ri rv ⟨po,pi,pv,S,Q3,r1,r2,r3,rS,q,k⟩
 unfold fe at q
 split at q
 ·split at q
  ·rename_i e
   split at q
   ·split at q
    ·rename_i ej
     cases r1;cases r2
     obtain⟨vs,hv,rl⟩:=rS _ _ e
     rw[<-rl.length]at ej
     exact nz pins s σ H _ _ _ ov iv u Q I ro ri rv ⟨_,_,_,_,rfl,rfl,hv,ej,k _ _ q (rS.put hv trivial ⟨_,az,((rl.set r3 _).mono (.mut hv trivial))⟩) (.mut hv trivial)⟩
    ·exact q.elim
   ·exact q.elim
  ·rename_i e
   split at q
   ·rename_i ek
    cases r1
    have e1:=cp r2 ek
    subst e1
    obtain⟨kv,hv,rk⟩:=rS _ _ e
    exact nX hu pins s σ H _ _ _ ov iv u Q I ro ri rv ⟨_,_,rfl,By.k hv (by rw[rk.length];exact q.1),k _ _ q.2 (rS.put hv trivial ⟨_,az,(rk.put r3).mono (.mut hv trivial)⟩) (.mut hv trivial)⟩
   ·exact q.elim
  ·exact q.elim
 ·exact q.elim
def kX(te to ti:aJ):bc:=fun D σ S=>te σ S (fun v S1=>to σ S1 (fun o S2=>ti σ S2 (fun i S3=>fe o i v S3 (fun S4=>D.nx σ S4)) D.ex) D.ex) D.ex
def oh(hu:X.A.units+1 < cLine)(he:aM X e te)(ho:aM X o to)(hi:aM X i ti)
  (ha:∀v,assign (.Subscript o i pos') X.env v=(do
   let ov <-holding [v] (eval o X.env)
   let iv <-holding [v,ov] (eval i X.env)
   standAt pos'
   holding [v,ov,iv] (setItem ov iv v)
   release [v,ov,iv] []):=by intro _;rfl)
  (hs:swapsWithSole [.Subscript o i pos'] e pos.line X.env=pure false:=by rfl) (hw:swappedStores [.Subscript o i pos'] e X.env=pure none:=by rfl)
  (h1:(assignEach [.Subscript o i pos'] X.env).map (·.2)=[assign (.Subscript o i pos') X.env]:=by rfl):kO X (.Assign [.Subscript o i pos'] e pos) (kX te to ti):=
 ⟨bW (sN he.ok (sM ho.ok hi.ok (t3 hu) ha) hs hw h1) fun D σ H ⟨σ3,S,D3,rσ,rS,h,xo,n,r,bk,ct⟩=>⟨σ3,S,_,D3.ex,rσ,rS,h,xo,fun v S1 v' H1 h1 rv yW g1=>
  ⟨σ3,S1,_,D3.ex,rσ.mono g1,yW,h1,xo.mono g1,fun o S2 o' H2 h2 ro Ag g2=>⟨σ3,S2,_,D3.ex,rσ.mono (g1.trans g2),Ag,h2,xo.mono (g1.trans g2),fun i S3 i' H3 h3 ri BK g3=>
   ⟨o,i,v,S3,_,ro.mono g3,ri,rv.mono (g2.trans g3),BK,h3,fun S4 H4 h4 Ew g4=>n _ S4 _ H4 h4 (rσ.mono (g1.trans (g2.trans (g3.trans g4)))) Ew (g1.trans (g2.trans (g3.trans g4)))⟩⟩⟩⟩⟩
end
end L3
namespace L2
open PySem PySem.Spec PyProof.Rows
section
variable {X:Cx} {tg:Expr}
def xL(K:Vo)(tl:TE):TI:=fun σ H R=>tl σ H fun x H1=>(∃a,x = .ref a/\(∃xs,SqL K H1 a xs)/\R (wK K a) H1)\/(∃a,x = .ref a/\(∃xs,z7 K H1 a xs)/\R (xm K a) H1)\/∃z,x = .str z/\R (xF z) H1
def t4{l:Expr}{tl:TE}(hl:PE X l tl):PI X tg l (xL X.K tl):=by
 intro pins s σ H R I h
 refine yS (hl pins s σ H _ I h) fun v s1 ⟨x,H1,I1,r1,q1⟩=>?_
 rcases q1 with⟨a,e,⟨xs,hq⟩,q⟩|⟨a,e,⟨xs,hq⟩,q⟩|⟨z,e,q⟩
 ·subst e
  cases r1
  obtain⟨its,rv,p,hz⟩:=I1.list hq
  refine wpAny_pyIter_list p.isList ?_
  refine⟨s1.heap.objs.size,[s1.heap.objs.size],_,_,H1,rfl,I1.kept (t':=s1.toks) fun b o e=>EY _ e,l7 a _,⟨_,Ff _ rfl,rfl,rfl⟩,fun b hb=>?_,q⟩
  have e:b=s1.heap.objs.size:=by simpa using hb
  subst e
  exact I1.A5 (EZ _) (I1.hok.fresh (EZ _))
 ·subst e
  cases r1
  obtain⟨its,rv,p,hz⟩:=I1.tuple hq
  refine wpAny_pyIter_tuple (show s1.heap.IsTuple a its.toArray from p) ?_
  refine⟨s1.heap.objs.size,[s1.heap.objs.size],_,_,H1,rfl,I1.kept (t':=s1.toks) fun b o e=>EY _ e,kC a _,⟨_,Ff _ rfl,rfl,rfl⟩,fun b hb=>?_,q⟩
  have e:b=s1.heap.objs.size:=by simpa using hb
  subst e
  exact I1.A5 (EZ _) (I1.hok.fresh (EZ _))
 ·subst e
  obtain⟨t,rfl⟩:=r1
  have fin:∀ty,(ty = "str_ascii_iterator" \/ ty = "str_iterator")->wJ X pins σ tg R (.ref s1.heap.objs.size) { s1 with heap:=s1.heap.push { cls:=.type ty,data:=.fields #[.str z t,.int 0 0] } }:=fun ty hty=>by
   refine⟨s1.heap.objs.size,[s1.heap.objs.size],_,_,H1,rfl,I1.kept (t':=s1.toks) fun b o e=>EY _ e,nK hty _ z t,⟨FE _,_,Ff _ rfl,rfl,rfl⟩,fun b hb=>?_,q⟩
   have e:b=s1.heap.objs.size:=by simpa using hb
   subst e
   exact I1.A5 (EZ _) (I1.hok.fresh (EZ _))
  cases ha:z.cps.all (· < 128)
  ·exact wpAny_pyIter_wide ha (fin _ (.inr rfl))
  ·exact wpAny_pyIter_ascii ha (fin _ (.inl rfl))
end
end L2
namespace L3
open PySem L2
structure xM where
 items:List PV
 keep:ap->Prop
def gz(K:Vo)(H0:Hp)(J:It)(src:xM):Prop:=∀(i:Nat) (S:ap) (H:Hp),Grow K H0 H->yR K H S->src.keep S->
 (∀p,src.items[i]?=some p->J.go i H/\∀x H',J.CN i H x H'->Rep K H' x p/\yR K H' S/\Grow K H H')/\(i=src.items.length->J.stop i H)
abbrev oi:=bH->ap->(xM->ap->Prop)->b6->Prop
inductive LI (X:Cx) (t:oi) (σ:L2.St) (H:Hp) (R:It->Hp->Prop):Prop
 |mk (σ3 S R3 E3) (rσ:yT X.K H σ σ3) (rS:yR X.K H S) (h:t σ3 S R3 E3) (xo:Bs X H E3) (k:∀src S' J H',R3 src S'->gz X.K H' J src->yR X.K H' S'->Grow X.K H H'->R J H'):LI X t σ H R
structure qE (X:Cx) (tg iter:Expr) (t:oi):Prop where
 ok:PI X tg iter (LI X t)
def jj{X:Cx}{tg iter:Expr}{t t':TI}(h:PI X tg iter t)(k:∀σ H R,t' σ H R->t σ H R):PI X tg iter t':=fun pins s σ H R I q=>h pins s σ H R I (k σ H R q)
section
variable {X:Cx} {e tg:Expr} {es:List Expr} {te:aJ} {ts:List aJ} {p pos:Pos}
noncomputable def c_(S:ap):PV->Option xM
 | .tup xs=>some ⟨xs,fun _=>True⟩
 | .cl xs=>some ⟨xs,fun _=>True⟩
 | .str z=>some ⟨z.cps.toList.map fun c=>.str (fE c),fun _=>True⟩
 | .ref a=>(match S a with|some (.lst xs)=>some ⟨xs,fun S'=>S' a=some (.lst xs)⟩|_=>none)
 |_=>none
def aX(te:aJ):oi:=fun σ S R E=>te σ S (fun v S1=>match c_ S1 v with|some src=>R src S1|none=>False) E
end
section
variable {X:Cx} {e tg a b:Expr} {es:List Expr} {te ta tb:aJ} {ts:List aJ} {p pos:Pos}
def oj{K:Vo}{H0:Hp}{a:Addr}{xs:List PV}:gz K H0 (wK K a) ⟨xs,fun S'=>S' a=some (.lst xs)⟩:=by
 intro i S H g rS hk
 obtain⟨vs,hv,rs⟩:=rS a _ hk
 refine⟨fun p hp=>?_,fun hi=>⟨vs,SqL.of hv,by rw[rs.length,hi];exact EZ _⟩⟩
 obtain⟨v,hx,rv⟩:=rs.get hp
 refine⟨⟨vs,v,SqL.of hv,hx⟩,fun x H' ⟨e,h⟩=>?_⟩
 subst e
 have:=h vs (SqL.of hv)
 rw[hx]at this
 cases this
 exact⟨rv,rS,.refl⟩
def qF{K:Vo}{H0:Hp}{a:Addr}{vs:List V}{xs:List PV}(h:z7 K H0 a vs)(rs:Reps K H0 vs xs):gz K H0 (xm K a) ⟨xs,fun _=>True⟩:=by
 intro i S H g rS _
 have hv:=g.t _ _ h
 refine⟨fun p hp=>?_,fun hi=>⟨vs,hv,by rw[rs.length,hi];exact EZ _⟩⟩
 obtain⟨v,hx,rv⟩:=rs.get hp
 refine⟨⟨vs,v,hv,hx⟩,fun x H' ⟨e,h⟩=>?_⟩
 subst e
 have:=h vs hv
 rw[hx]at this
 cases this
 exact⟨rv.mono g,rS,.refl⟩
def t5{K:Vo}{H0:Hp}{a:Addr}{vs:List V}{xs:List PV}(h:Cm K H0 a vs)(rs:Reps K H0 vs xs):gz K H0 (wK K a) ⟨xs,fun _=>True⟩:=by
 intro i S H g rS _
 have hv:=(g.c _ _ h).sq
 refine⟨fun p hp=>?_,fun hi=>⟨vs,hv,by rw[rs.length,hi];exact EZ _⟩⟩
 obtain⟨v,hx,rv⟩:=rs.get hp
 refine⟨⟨vs,v,hv,hx⟩,fun x H' ⟨e,h⟩=>?_⟩
 subst e
 have:=h vs hv
 rw[hx]at this
 cases this
 exact⟨rv.mono g,rS,.refl⟩
def qG{K:Vo}{H0:Hp}{z:Str}:gz K H0 (xF z) ⟨z.cps.toList.map fun c=>.str (fE c),fun _=>True⟩:=by
 intro i S H g rS _
 refine⟨fun p hp=>?_,fun hi=>by show z.cps.size<=i;rw[hi,E2,Hi];exact EZ _⟩
 rw[Fv]at hp
 cases hc:z.cps.toList[i]? with
 |none=>rw[hc]at hp;cases hp
 |some c=>
  rw[hc]at hp
  cases hp
  have hc':z.cps[i]?=some c:=by simpa using hc
  refine⟨?_,fun x H' ⟨e,c',h1,h2⟩=>?_⟩
  ·show i < z.cps.size
   by_cases hi:i < z.cps.size
   ·exact hi
   ·rw[Array.getElem?_eq_none (by omega)]at hc';cases hc'
  ·subst e
   rw[hc']at h1
   cases h1
   subst h2
   exact⟨.str _,rS,.refl⟩
def cE(he:aM X e te):qE X tg e (aX te):=⟨jj (t4 he.ok) fun σ H R ⟨σ3,S,R3,E3,rσ,rS,h,xo,k⟩=>⟨σ3,S,_,E3,rσ,rS,h,xo,fun v S1 v' H1 h1 rv yW g1=>by
 split at h1
 ·rename_i src hs
  unfold c_ at hs
  split at hs
  ·cases hs
   cases rv with
   |tup hq rs=>exact .inr (.inl ⟨_,rfl,⟨_,hq⟩,k _ S1 _ H1 h1 (qF hq rs) yW g1⟩)
  ·cases hs
   cases rv with
   |cl hq rs=>exact .inl ⟨_,rfl,⟨_,hq.sq⟩,k _ S1 _ H1 h1 (t5 hq rs) yW g1⟩
  ·cases hs
   cases rv
   exact .inr (.inr ⟨_,rfl,k _ S1 _ H1 h1 qG yW g1⟩)
  ·cases rv
   split at hs
   ·rename_i ea
    cases hs
    obtain⟨vs,hv,rs⟩:=yW _ _ ea
    exact .inl ⟨_,rfl,⟨_,SqL.of hv⟩,k _ S1 _ H1 h1 oj yW g1⟩
   ·cases hs
  ·cases hs
 ·exact h1.elim⟩⟩
noncomputable def aR(lo:Int)(n:Nat):List PV:=(List.range n).map fun(i:Nat)=>PV.int (lo+i)
def iE{K:Vo}{H0:Hp}{lo:Int}{n:Nat}:gz K H0 (vv lo n) ⟨aR lo n,fun _=>True⟩:=by
 intro i S H g rS _
 refine⟨fun p hp=>?_,fun hi=>by show n<=i;rw[hi];simp[aR]⟩
 unfold aR at hp
 rw[Fv]at hp
 by_cases hi:i < n
 ·rw[Hl hi]at hp
  cases hp
  refine⟨hi,fun x H' ⟨e,h⟩=>?_⟩
  subst e h
  exact⟨.int _,rS,.refl⟩
 ·rw[FQ (by simpa using hi)]at hp
  cases hp
def j6(ta:aJ):oi:=fun σ S R E=>ta σ S (fun v S1=>match v with | .int j=>-(2 ^ 62)<=j/\j < 2 ^ 62/\R ⟨aR 0 j.toNat,fun _=>True⟩ S1|_=>False) E
def eP(hs:starEach [a] X.env=[(false,eval a X.env)])(hg:Gl X "range")(hm:X.mg "range" = none)(ha:iB X [a] [ta]):qE X tg (.Call (.Name "range" p) [a] [] pos) (j6 ta):=
 ⟨jj (l8 hg hm ha.ok hs) fun σ H R ⟨σ3,S,R3,E3,rσ,rS,h,xo,k⟩=>⟨σ3,S,_,E3,rσ,rS,h,xo,fun v S1 v' H1 h1 rv yW g1=>by
  split at h1
  ·cases rv
   exact⟨_,rfl,h1.1,h1.2.1,k _ S1 _ H1 h1.2.2 iE yW g1⟩
  ·exact h1.elim⟩⟩
def mz(ta tb:aJ):oi:=fun σ S R E=>ta σ S (fun v S1=>tb σ S1 (fun w S2=>match v,w with | .int i,.int j=>(-(2 ^ 62)<=i/\i < 2 ^ 62/\-(2 ^ 62)<=j/\j < 2 ^ 62)/\R ⟨aR i (j - i).toNat,fun _=>True⟩ S2|_,_=>False) E) E
def ol(hs:starEach [a,b] X.env=[(false,eval a X.env),(false,eval b X.env)])(hs2:starEach [b] X.env=[(false,eval b X.env)])(hg:Gl X "range")(hm:X.mg "range" = none)(ha:iB X [a,b] [ta,tb]):qE X tg (.Call (.Name "range" p) [a,b] [] pos) (mz ta tb):=
 ⟨jj (l9 hg hm ha.ok hs hs2) fun σ H R ⟨σ3,S,R3,E3,rσ,rS,h,xo,k⟩=>⟨σ3,S,_,E3,rσ,rS,h,xo,fun v S1 v' H1 h1 rv yW g1=>⟨σ3,S1,_,E3,rσ.mono g1,yW,h1,xo.mono g1,fun w S2 w' H2 h2 rw' Ag g2=>by
  split at h2
  ·cases rv;cases rw'
   exact⟨_,_,rfl,h2.1,k _ S2 _ H2 h2.2 iE Ag (g1.trans g2)⟩
  ·exact h2.elim⟩⟩⟩
end
section
variable {X:Cx} {iter tg c:Expr} {body:List Stmt} {ti:oi} {g:Tg} {tb:bc} {tc:fZ} {pos:Pos}
noncomputable def jk(g:Tg)(tb:bc)(D:iA)(keep:ap->Prop):List PV->bH->ap->Prop
 |[],σ,S=>keep S/\D.nx σ S
 |x::r,σ,S=>keep S/\match g.put x σ with|some σ'=>tb { D with nx:=jk g tb D keep r,ct:=jk g tb D keep r,bk:=D.nx } σ' S|none=>False
def du(ti:oi)(g:Tg)(tb:bc):bc:=fun D σ S=>ti σ S (fun src S1=>jk g tb D src.keep src.items σ S1) D.ex
def fH(hp:PassesOwn (model X.prog X.w) X.A X.env X.xe)(hc:X.calm=true)(hi:qE X tg iter ti)(hg:qC X tg g)(hb:fT X body tb)(hs:∀x,foldedSetIterable iter X.env x=pure x:=by intro _;rfl):kO X (.For tg iter body [] pos) (du ti g tb):=
 ⟨bW (sR hp hc hi.ok hg.ok hb.ok hs) fun D σ H ⟨σ3,S,D3,rσ,rS,h,xo,n,r,bk,ct⟩=>⟨σ3,S,_,D3.ex,rσ,rS,h,xo,fun src S1 J H1 h1 sim yW g1=>by
  refine⟨fun i m σ' H'=>i+m=src.items.length/\∃σ4 S',yT X.K H' σ' σ4/\yR X.K H' S'/\Grow X.K H1 H'/\jk g tb D3 src.keep (src.items.drop i) σ4 S',⟨src.items.length,Hy _,σ3,S1,rσ.mono g1,yW,.refl,by simpa using h1⟩,?_⟩
  rintro i m σ' H' ⟨hm,σ4,S',BF,z_,g',hw⟩
  cases hd:src.items.drop i with
  |nil=>
   rw[hd]at hw
   have hi:i=src.items.length:=by
    have:=FA List.length hd
    rw[Gn,Gs]at this
    omega
   exact .inl ⟨(sim i S' H' g' z_ hw.1).2 hi,n _ S' _ H' hw.2 BF z_ (g1.trans g')⟩
  |cons x rest=>
   rw[hd]at hw
   have hx:src.items[i]?=some x:=by
    have:=FA (fun l=>l[0]?) hd
    simpa using this
   have hrest:src.items.drop (i+1)=rest:=by
    have:=FA List.tail hd
    simpa [List.tail_drop]using this
   have hlt:i < src.items.length:=by
    by_cases z:i < src.items.length
    ·exact z
    ·rw[FQ (by omega)]at hx;cases hx
   obtain⟨go,yl⟩:=(sim i S' H' g' z_ hw.1).1 x hx
   refine .inr ⟨go,fun σ5 H5=>∃σ6 S6,yT X.K H5 σ5 σ6/\yR X.K H5 S6/\Grow X.K H1 H5/\jk g tb D3 src.keep rest σ6 S6,?_,fun v H5 hv=>?_⟩
   ·rintro σ5 H5 ⟨σ6,S6,q1,q2,q3,q4⟩
    exact⟨m - 1,by omega,by omega,σ6,S6,q1,q2,q3,by rw[hrest];exact q4⟩
   ·obtain⟨rv,Dp,g5⟩:=yl v H5 hv
    obtain⟨_,hw⟩:=hw
    split at hw
    ·rename_i σ6 e6
     refine Tg.A6 (own:=0) g rv (BF.mono g5) e6 fun σ7 CT _=>?_
     exact⟨σ6,S',_,CT,Dp,hw,xo.mono (g1.trans (g'.trans g5)),fun σ8 S8 σ9 H9 q1 q2 q3 q4=>⟨σ8,S8,q2,q3,g'.trans (g5.trans q4),q1⟩,r.mono (g1.trans (g'.trans g5)),n.mono (g1.trans (g'.trans g5)),
      fun σ8 S8 σ9 H9 q1 q2 q3 q4=>⟨σ8,S8,q2,q3,g'.trans (g5.trans q4),q1⟩⟩
    ·exact hw.elim⟩⟩
def gA(tc:fZ)(tb:bc):bc:=fun D σ S=>∃W:Nat->bH->ap->Prop,(∃m,W m σ S)/\∀m σ S,W m σ S->
 tc σ S (fun b S1=>if b=true then ∃N:bH->ap->Prop,(∀σ' S',N σ' S'->∃m',m' < m/\W m' σ' S')/\tb { D with nx:=N,ct:=N,bk:=D.nx } σ S1 else D.nx σ S1) D.ex
def f8(hp:PassesOwn (model X.prog X.w) X.A X.env X.xe)(hc:kN X c tc)(hb:fT X body tb):kO X (.While c body [] pos) (gA tc tb):=
 ⟨bW (ni hp hc.ok hb.ok) fun D σ H ⟨σ3,S,D3,rσ,rS,⟨W,⟨m0,w0⟩,turn⟩,xo,n,r,bk,ct⟩=>by
  refine⟨fun m σ' H'=>∃σ4 S',yT X.K H' σ' σ4/\yR X.K H' S'/\Grow X.K H H'/\W m σ4 S',⟨m0,σ3,S,rσ,rS,.refl,w0⟩,?_⟩
  rintro m σ' H' ⟨σ4,S',BF,z_,g',w'⟩
  refine⟨σ4,S',_,D3.ex,BF,z_,turn m σ4 S' w',xo.mono g',fun b S1 H1 h1 yW g1=>?_⟩
  cases b with
  |true=>
   rw[if_pos rfl]at h1 ⊢
   obtain⟨N,hN,h1⟩:=h1
   refine⟨fun σ5 H5=>∃σ6 S6,yT X.K H5 σ5 σ6/\yR X.K H5 S6/\Grow X.K H H5/\N σ6 S6,?_,?_⟩
   ·rintro σ5 H5 ⟨σ6,S6,q1,q2,q3,q4⟩
    obtain⟨m',hm,w6⟩:=hN σ6 S6 q4
    exact⟨m',hm,σ6,S6,q1,q2,q3,w6⟩
   ·exact⟨σ4,S1,_,BF.mono g1,yW,h1,xo.mono (g'.trans g1),fun σ8 S8 σ9 H9 q1 q2 q3 q4=>⟨σ8,S8,q2,q3,g'.trans (g1.trans q4),q1⟩,r.mono (g'.trans g1),n.mono (g'.trans g1),
     fun σ8 S8 σ9 H9 q1 q2 q3 q4=>⟨σ8,S8,q2,q3,g'.trans (g1.trans q4),q1⟩⟩
  |false=>
   rw[if_neg (by decide)]at h1 ⊢
   exact n _ S1 _ H1 h1 (BF.mono g1) yW (g'.trans g1)⟩
end
noncomputable def ff:b6:=fun _ _ _=>False
def Bs.no{X:Cx}{H:Hp}:Bs X H ff:=fun _ _ _ _ _ _ _ _ _ _ _ _ _ _ h=>h.elim
section
variable {X:Cx} {elt iter tg c:Expr} {ifs:List Expr} {scope:Scope} {pos:Pos} {ti:oi} {g:Tg} {tc:fZ} {te:aJ} {fs N:Vs} {own:Nat} {fr:List Nat}
noncomputable def b_(g:Tg)(tc:fZ)(te:aJ)(σ':bH)(keep:ap->Prop)(fin:List PV->ap->Prop):List PV->List PV->ap->Prop
 |[],ys,S=>keep S/\ys.length<=sizeLine/\fin ys S
 |x::r,ys,S=>keep S/\ys.length<=sizeLine/\match g.put x σ' with
  |some σ2=>tc σ2 S (fun b S3=>if b=true then te σ2 S3 (fun y S4=>b_ g tc te σ' keep fin r (ys++[y]) S4) ff else b_ g tc te σ' keep fin r ys S3) ff
  |none=>False
def cF:fZ:=fun _ S Q _=>Q true S
structure u_ (X:Cx) (ifs:List Expr) (t:fZ):Prop where
 ok:PF X ifs (LT X t)
def kY{t t':TT}(h:PF X ifs t)(k:∀σ H Q,t' σ H Q->t σ H Q):PF X ifs t':=fun pins s σ H Q I q=>h pins s σ H Q I (k σ H Q q)
def d9:u_ X [] cF:=⟨kY tJ fun σ H Q ⟨σ3,S,Q3,E3,rσ,rS,h,xo,k⟩=>k true S H h rS .refl⟩
def wa(h:kN X c tc):u_ X [c] tc:=⟨tK h.ok⟩
noncomputable def fV(own:Nat)(fr:List Nat)(σ:bH):bH:=List.replicate own none++fr.map fun j=>lk σ j
def qH{K:Vo}{H:Hp}{σ:L2.St}{σ3:bH}(r:yT K H σ σ3)(own:Nat)(fr:List Nat):yT K H (cC own fr σ) (fV own fr σ3):=by
 refine⟨by unfold cC fV;simp,fun i p e=>?_⟩
 unfold fV at e
 unfold cC
 by_cases hi:i < own
 ·rw[FY (by simpa using hi),F9,if_pos hi]at e
  cases e
 ·rw[Gf (by simpa using hi),F0,Fv]at e ⊢
  cases hj:fr[i - own]? with
  |none=>rw[hj]at e;cases e
  |some j=>
   rw[hj]at e
   simp only[Option.map_some,Option.some.injEq]at e ⊢
   obtain⟨v,hv,rv⟩:=r.at' j p (nO e)
   exact⟨v,by rw[hv];rfl,rv⟩
def a9(ti:oi)(g:Tg)(tc:fZ)(te:aJ)(own:Nat)(fr:List Nat):aJ:=fun σ S Q E=>ti σ S (fun src S1=>b_ g tc te (fV own fr σ) src.keep (fun ys S2=>∀p,S2 p=none->Q (.ref p) (yO S2 p (.lst ys))) src.items [] S1) E
def iF{σ:L2.St}{H:Hp}{Q:VK}(BL:g.under own=true)(B0:Bk):LE X (a9 ti g tc te own fr) σ H Q->nI (LI X ti) (g.g2 X.K) (fun σ H Q=>∃σ3 S Q3,yT X.K H σ σ3/\yR X.K H S/\tc σ3 S Q3 ff/\∀b S' H',Q3 b S'->yR X.K H' S'->Grow X.K H H'->Q b H')
  (fun σ H Q=>∃σ3 S Q3,yT X.K H σ σ3/\yR X.K H S/\te σ3 S Q3 ff/\Bt X.K H Q3 Q) own fr σ H Q:=fun⟨σ3,S,Q3,E3,rσ,rS,h,xo,k⟩=>by
 refine⟨σ3,S,_,E3,rσ,rS,h,xo,fun src S1 J H1 h1 sim yW g1=>?_⟩
 refine⟨fun i m ys H'=>i+m=src.items.length/\∃zs S',Reps X.K H' ys zs/\yR X.K H' S'/\Grow X.K H1 H'/\b_ g tc te (fV own fr σ3) src.keep (fun ys S2=>∀p,S2 p=none->Q3 (.ref p) (yO S2 p (.lst ys))) (src.items.drop i) zs S',⟨src.items.length,Hy _,[],S1,.nil,yW,.refl,by simpa using h1⟩,?_⟩
 rintro i m ys H' ⟨hm,zs,S',rz,z_,g',hw⟩
 cases hd:src.items.drop i with
 |nil=>
  rw[hd]at hw
  have hi:i=src.items.length:=by
   have:=FA List.length hd
   rw[Gn,Gs]at this
   omega
  refine .inl ⟨(sim i S' H' g' z_ hw.1).2 hi,by rw[rz.length];exact hw.2.1,fun D hD=>?_⟩
  exact k _ _ _ _ (hw.2.2 D (z_.free hD)) (.ref D) (z_.new hD ⟨_,az,rz.mono (.new hD)⟩) (g1.trans (g'.trans (.new hD)))
 |cons x rest=>
  rw[hd]at hw
  have hx:src.items[i]?=some x:=by
   have:=FA (fun l=>l[0]?) hd
   simpa using this
  have hrest:src.items.drop (i+1)=rest:=by
   have:=FA List.tail hd
   simpa [List.tail_drop]using this
  have hlt:i < src.items.length:=by
   by_cases z:i < src.items.length
   ·exact z
   ·rw[FQ (by omega)]at hx;cases hx
  obtain⟨go,yl⟩:=(sim i S' H' g' z_ hw.1).1 x hx
  refine .inr ⟨go,by rw[rz.length];exact hw.2.1,fun ys' H5=>∃zs' S6,Reps X.K H5 ys' zs'/\yR X.K H5 S6/\Grow X.K H1 H5/\b_ g tc te (fV own fr σ3) src.keep (fun ys S2=>∀p,S2 p=none->Q3 (.ref p) (yO S2 p (.lst ys))) rest zs' S6,?_,fun v H5 hv=>?_⟩
  ·rintro ys' H5 ⟨zs',S6,q1,q2,q3,q4⟩
   exact⟨m - 1,by omega,by omega,zs',S6,q1,q2,q3,by rw[hrest];exact q4⟩
  ·obtain⟨rv,Dp,g5⟩:=yl v H5 hv
   obtain⟨_,_,hw⟩:=hw
   split at hw
   ·rename_i σ6 e6
    refine Tg.A6 (own:=own) g rv ((qH rσ own fr).mono (g1.trans (g'.trans g5))) e6 fun σ7 CT d7=>⟨d7 BL,?_⟩
    refine⟨σ6,S',_,CT,Dp,hw,fun b S8 H8 h8 DV g8=>?_⟩
    cases b with
    |true=>
     rw[if_pos rfl]at h8 ⊢
     exact⟨σ6,S8,_,CT.mono g8,DV,h8,fun y S9 y' H9 h9 ry Ex g9=>⟨zs++[y],S9,(rz.mono (g5.trans (g8.trans g9))).append (.cons ry .nil),Ex,g'.trans (g5.trans (g8.trans g9)),h9⟩⟩
    |false=>
     rw[if_neg (by decide)]at h8 ⊢
     exact⟨zs,S8,rz.mono (g5.trans g8),DV,g'.trans (g5.trans g8),h8⟩
   ·exact hw.elim
def t6(fs:Vs)(own:Nat)(fr:List Nat)(N:Vs)(BL:g.under own=true)(hc:X.calm=true)(hclos:closureFor scope X.env=pure (bz X.env fs))(hcell:∀y∈scope.names,y.2 ≠ .cell)(hkind:scope.kind = .function)
  (hnames:∀x∈scope.names,x.2 = .local->scope.names.lookup x.1=some .local) (hcl:bj X.env fs) (hhas:i9 (relabel scope X.env).names (bz X.env fs)=true)
  (hlen:N.length=own+fr.length) (hN:(N.drop own).map some=fr.map fun j=>X.N[j]?) (hF:zg X.env scope (bz X.env fs) (N.drop own))
  (hi:qE X tg iter ti) (hg:∀B,qC (X.z5 N scope fs B) tg g) (hf:∀B,u_ (X.z5 N scope fs B) ifs tc) (he:∀B,aM (X.z5 N scope fs B) elt te)
  (hs:∀x,foldedSetIterable iter X.env x=pure x:=by intro _;rfl):aM X (.ListComp elt [⟨tg,iter,ifs,0⟩] scope pos) (a9 ti g tc te own fr):=
 ⟨aE (qh fs own fr N hc hclos hcell hkind hnames hcl hhas hlen hN hF hi.ok (fun B=>(hg B).ok)
  (fun B=>kY (hf B).ok fun σ H Q ⟨σ3,S,Q3,rσ,rS,h,k⟩=>⟨σ3,S,Q3,ff,rσ,rS,h,.no,k⟩) (fun B=>aE (he B).ok fun σ H Q ⟨σ3,S,Q3,rσ,rS,h,k⟩=>⟨σ3,S,Q3,ff,rσ,rS,h,.no,k⟩) hs) fun _ _ _=>iF BL ⟨0,X.s₀,X.H₀,[],[]⟩⟩
def t7(fs:Vs)(own:Nat)(fr:List Nat)(N:Vs){i:Nat}{y:Str}{py spos:Pos}(hX:X.N.Nodup)(hix:X.N[i]?=some y)(hy:X.env.scope.names.lookup y=some .local)
  (hsw:swapsWith (.ListComp elt [⟨tg,iter,ifs,0⟩] scope pos) (some (.Name y py)) spos.line X.env=pure true)
  (BL:g.under own=true) (hc:X.calm=true) (hclos:closureFor scope X.env=pure (bz X.env fs)) (hcell:∀y∈scope.names,y.2 ≠ .cell) (hkind:scope.kind = .function)
  (hnames:∀x∈scope.names,x.2 = .local->scope.names.lookup x.1=some .local) (hcl:bj X.env fs) (hhas:i9 (relabel scope X.env).names (bz X.env fs)=true)
  (hlen:N.length=own+fr.length) (hN:(N.drop own).map some=fr.map fun j=>X.N[j]?) (hF:zg X.env scope (bz X.env fs) (N.drop own))
  (hi:qE X tg iter ti) (hg:∀B,qC (X.z5 N scope fs B) tg g) (hf:∀B,u_ (X.z5 N scope fs B) ifs tc) (he:∀B,aM (X.z5 N scope fs B) elt te)
  (hs:∀x,foldedSetIterable iter X.env x=pure x:=by intro _;rfl):kO X (.Assign [.Name y py] (.ListComp elt [⟨tg,iter,ifs,0⟩] scope pos) spos) (aq i (a9 ti g tc te own fr)):=
 ⟨bW (qi fs own fr N hX hix hy hsw hc hclos hcell hkind hnames hcl hhas hlen hN hF hi.ok (fun B=>(hg B).ok)
  (fun B=>kY (hf B).ok fun σ H Q ⟨σ3,S,Q3,rσ,rS,h,k⟩=>⟨σ3,S,Q3,ff,rσ,rS,h,.no,k⟩) (fun B=>aE (he B).ok fun σ H Q ⟨σ3,S,Q3,rσ,rS,h,k⟩=>⟨σ3,S,Q3,ff,rσ,rS,h,.no,k⟩) hs)
  fun D σ H ⟨σ3,S,D3,rσ,rS,h,xo,n,r,bk,ct⟩=>iF BL ⟨0,X.s₀,X.H₀,[],[]⟩ ⟨σ3,S,_,D3.ex,rσ,rS,h,xo,fun p S1 v H1 h1 rv yW g1=>n _ S1 _ H1 h1 ((rσ.mono g1).set rv i) yW g1⟩⟩
end
abbrev aH:=List PV->ap->bv->b6->Prop
noncomputable def wb(K:Vo)(n:Nat)(sp:aH):Sp:=fun vs H Q _=>vs.length=n/\∃ps S Q3 E3,Reps K H vs ps/\yR K H S/\sp ps S Q3 E3/\Bt K H Q3 Q
structure BY (P:Program) (w:World) (K:Vo) (mg:Vr) (base:Heap) (k:Nat) (f:Addr) (fd:FuncData) (ps:Vs) (sp:aH):Prop where
 ok:hU P w K mg base rJ k f fd ps (wb K ps.length sp)
section
variable {X:Cx} {e o:Expr} {es:List Expr} {te to:aJ} {ts:List aJ} {x:Str} {p pos apos cpos:Pos} {k:Nat} {f:Addr} {fd:FuncData} {ps:Vs} {sp:aH}
def ad(sp:aH)(ts:List aJ):aJ:=fun σ S Q E=>am ts σ S (fun ps S1=>sp ps S1 Q E) E
def t8(F:BY X.prog X.w X.K X.mg X.base k f fd ps sp)(hr:Room k X.A)(hg:Gl X x)(hm:X.mg x=some (.ref f))(hk:PySem.W.keepIn X.K (.ref f)=true)(hb:Binds X.K fd ps [])(he:starEach (e::es) X.env=(false,eval e X.env)::starEach es X.env)(ha:iB X (e::es) ts)
  (hl:ts.length=ps.length:=by rfl) (hdb:(x == ("__debug__":Str))=false:=by decide) (hpl:(backTo pos (starEach es X.env)).any (·.1)=false:=by rfl):aM X (.Call (.Name x p) (e::es) [] pos) (ad sp ts):=
 ⟨aE (p5 F.ok hr hg hm hk hb .nil rK ha.ok hdb he hpl) fun σ H Q ⟨σ3,S,Q3,E3,rσ,rS,h,xo,k⟩=>bT rσ rS h xo fun ps' S' vs H' hl' q rv z_ g=>by
  rw[F2]
  exact⟨by rw[rv.length,hl',hl],ps',S',Q3,E3,rv,z_,q,k.mono g⟩⟩
def qI(F:BY X.prog X.w X.K X.mg X.base k f fd [] sp)(hr:Room k X.A)(hg:Gl X x)(hm:X.mg x=some (.ref f))(hk:PySem.W.keepIn X.K (.ref f)=true)(hb:Binds X.K fd [] [])
  (hdb:(x == ("__debug__":Str))=false:=by decide):aM X (.Call (.Name x p) [] [] pos) (ad sp []):=
 ⟨aE (nq F.ok hr hg hm hk hb .nil rK hdb) fun σ H Q ⟨σ3,S,Q3,E3,rσ,rS,h,xo,k⟩=>⟨rfl,[],S,Q3,E3,.nil,rS,h,k⟩⟩
end
noncomputable def ay(n:Nat)(args:List PV):bH:=args.map some++List.replicate (n - args.length) none
def a4(n:Nat)(t:bc):aH:=fun args S Q _=>t { nx:=fun _ S'=>Q .non S',rt:=Q,ex:=ff } (ay n args) S
def mB{K:Vo}{H:Hp}{N:Vs}{vs:List V}{ps:List PV}(r:Reps K H vs ps):yT K H (L2.dk N vs) (ay N.length ps):=by
 refine⟨by unfold L2.dk ay;simp[r.length],fun i p e=>?_⟩
 unfold ay at e
 unfold L2.dk
 by_cases hi:i < ps.length
 ·rw[FY (by simpa using hi),Fv]at e
  cases hp:ps[i]? with
  |none=>rw[hp]at e;cases e
  |some q=>
   rw[hp]at e
   cases e
   obtain⟨v,hv,rv⟩:=r.get hp
   rw[FY (by rw[E2,r.length];exact hi),Fv,hv]
   exact⟨v,rfl,rv⟩
 ·rw[Gf (by simpa using hi),F9]at e
  split at e
  ·cases e
  ·cases e
section
variable {P:Program} {w:World} {K:Vo} {mg:Vr} {base:Heap}
noncomputable abbrev xN(P:Program)(w:World)(K:Vo)(mg:Vr)(base:Heap)(N:Vs)(qual:Str)(st:Stmt)(f:Addr)(cdv:Value)(A:Around)(outer:List Env)(s:Shared)(H:Hp)(E:XK):Cx:=(kF rJ P w K mg base N qual (aI st) f cdv A outer s H E).Cu
def yh{x qual:Str}{st:Stmt}{f:Addr}{fd:FuncData}{N ps:Vs}{k:Nat}{t:bc}(F:BW K x qual st f fd)(S:dQ N ps (aI st))
  (hbody:∀(cdv:Value) (A:Around) (outer:List Env) (s:Shared) (H:Hp) (E:XK),Room k (A.deeper (PyProof.Rows.envOfC qual (aI st) s.heap.objs.size f cdv))->fT (xN P w K mg base N qual st f cdv A outer s H E) (bb st) t) :
  BY P w K mg base (k+1) f fd ps (a4 N.length t):=
 ⟨F.ok S (fun vs H Q E h=>h.1) fun cdv A outer s H vs Q E hr ⟨hl,ps',S',Q3,E3,rv,rS,q,kk⟩=>⟨_,(hbody cdv A outer s H E hr).ok,ay N.length ps',S',_,mB rv,rS,q,.no,fun σ3 S2 σ2 H2 h2 _ Ag g2=>kk _ S2 _ H2 h2 .non Ag g2,kk,fun _ _ _ _ h2=>h2.elim,fun _ _ _ _ h2=>h2.elim⟩⟩
end
section
variable {X:Cx} {o e f:Expr} {to te tf:aJ} {pos apos cpos:Pos}
noncomputable def fg:List (aJ×aJ)->bH->ap->(List (PV×PV)->ap->Prop)->b6->Prop
 |[],_,S,Q,_=>Q [] S
 |(tk,tv)::r,σ,S,Q,E=>tk σ S (fun x S1=>tv σ S1 (fun y S2=>fg r σ S2 (fun ps S3=>Q ((x,y)::ps) S3) E) E) E
noncomputable def j7:List (PV×PV)->Option (List (aL×PV))
 |[]=>some []
 |(x,y)::r=>match jf x,j7 r with|some k,some l=>some ((k,y)::l)|_,_=>none
noncomputable def jm(kvs more:List (aL×PV)):List (aL×PV):=more.foldl (fun acc kv=>ji acc kv.1 kv.2) kvs
structure wR (X:Cx) (pos:Pos) (keys:List (Option Expr)) (values:List Expr) (Au:List (aJ×aJ)):Prop where
 ok:vR X pos keys values (Au.map fun t=>(LE X t.1,LE X t.2))
def t9:wR X pos [] [] []:=⟨qc⟩
def jn{k v:Expr}{ks:List (Option Expr)}{vs:List Expr}{tk tv:aJ}{Au:List (aJ×aJ)}(hk:aM X k tk)(hv:aM X v tv)(hr:wR X pos ks vs Au):wR X pos (some k::ks) (v::vs) ((tk,tv)::Au):=⟨nF hk.ok hv.ok hr.ok⟩
inductive iG (K:Vo) (H:Hp):List (V×V)->List (PV×PV)->Prop
 |nil:iG K H [] []
 |cons {a b:V} {p q:PV} {vs:List (V×V)} {ps:List (PV×PV)}:Rep K H a p->Rep K H b q->iG K H vs ps->iG K H ((a,b)::vs) ((p,q)::ps)
theorem gB:∀{Au:List (aJ×aJ)} {σ:L2.St} {H:Hp} {Q:List (V×V)->Hp->Prop} {σ3:bH} {S:ap} {Q3:List (PV×PV)->ap->Prop} {E3:b6},yT X.K H σ σ3->yR X.K H S->fg Au σ3 S Q3 E3->Bs X H E3->
  (∀ps S' vs H',ps.length=Au.length->Q3 ps S'->iG X.K H' vs ps->yR X.K H' S'->Grow X.K H H'->Q vs H')->i6 (Au.map fun t=>(LE X t.1,LE X t.2)) σ H Q
 |[],σ,H,Q,σ3,S,Q3,E3,rσ,rS,h,xo,k=>k [] S [] H rfl h .nil rS .refl
 |(tk,tv)::ts,σ,H,Q,σ3,S,Q3,E3,rσ,rS,h,xo,k=>
  ⟨σ3,S,_,E3,rσ,rS,h,xo,fun p S1 v H1 h1 rv yW g1=>⟨σ3,S1,_,E3,rσ.mono g1,yW,h1,xo.mono g1,fun p2 S2 v2 H2 h2 Ey Ag g2=>gB (rσ.mono (g1.trans g2)) Ag h2 (xo.mono (g1.trans g2)) fun ps S3 vs H3 hl h3 Dm BK g3=>
   k ((p,p2)::ps) S3 ((v,v2)::vs) H3 (by rw[Fc,Fc,hl]) h3 (.cons (rv.mono (g2.trans g3)) (Ey.mono g3) Dm) BK (g1.trans (g2.trans g3))⟩⟩
theorem iH{K:Vo}{H:Hp}:∀{vs:List (V×V)} {ps:List (PV×PV)} {l:List (aL×PV)},iG K H vs ps->j7 ps=some l->∃kvs:List (aL×V),vs=kvs.map (fun kv=>(kV kv.1,kv.2))/\y1 K H kvs l
 |_,_,_,.nil,h=>by cases h;exact⟨[],rfl,.nil⟩
 |_,_,l,.cons a b r,h=>by
  unfold j7 at h
  split at h
  ·rename_i k l' ek el
   cases h
   obtain⟨kvs,e,q⟩:=iH r el
   refine⟨(k,_)::kvs,?_,.cons b q⟩
   rw[EV,<-e,cp a ek]
  ·cases h
def y1.merge{K:Vo}{H:Hp}{more:List (aL×V)}{m3:List (aL×PV)}(r:y1 K H more m3):∀{kvs:List (aL×V)} {k3:List (aL×PV)},y1 K H kvs k3->y1 K H (e9 kvs more) (jm k3 m3):=by
 induction r with
 |nil=>intro kvs k3 q;exact q
 |cons a r ih=>intro kvs k3 q;exact ih (q.put a)
def j8(Au:List (aJ×aJ)):aJ:=fun σ S Q E=>∀p,S p=none->fg Au σ (yO S p (.dct [])) (fun ps S2=>S2 p=some (.dct [])/\match j7 ps with|some kvs=>Q (.ref p) (yO S2 p (.dct (jm [] kvs)))|none=>False) E
def t_{keys:List (Option Expr)}{values:List Expr}{Au:List (aJ×aJ)}(h:wR X pos keys values Au)(hall:keys.all (·.isSome)=true:=by rfl)(hl:keys.length=values.length:=by rfl)(h0:keys≠[]:=by exact List.cons_ne_nil _ _)(Dc:keys.length<=15:=by decide)
  (ht:Au.length<=15:=by exact G2 rfl):aM X (.Dict keys values pos) (j8 Au):=
 ⟨aE (qd h.ok hall hl h0 Dc) fun σ H Q ⟨σ3,S,Q3,E3,rσ,rS,hq,xo,k⟩=>fun p hp=>by
  have g0:Grow X.K H (upd H p (.dK [])):=.new hp
  refine gB (rσ.mono g0) (rS.new hp (o:=.dct []) ⟨[],az,.nil⟩) (hq p (rS.free hp)) (xo.mono g0) fun ps S' vs H' hl' q rv z_ g=>?_
  obtain⟨e,q⟩:=q
  obtain⟨kv,hv,rk⟩:=z_ _ _ e
  cases rk
  refine⟨hv,?_⟩
  split at q
  ·rename_i kvs ek
   obtain⟨l,el,rl⟩:=iH rv ek
   refine⟨l,el,?_,k _ _ _ _ q (.ref p) (z_.put hv trivial ⟨_,az,(y1.merge rl .nil).mono (.mut hv trivial)⟩) (g0.trans (g.trans (.mut hv trivial)))⟩
   have z1:∀{vs:List (V×V)} {ps:List (PV×PV)},iG X.K H' vs ps->vs.length=ps.length:=by
    intro vs ps r
    induction r with
    |nil=>rfl
    |cons _ _ _ ih=>rw[Fc,Fc,ih]
   have z2:=FA List.length el
   rw[E2,z1 rv,hl']at z2
   omega
  ·exact q.elim⟩
def lE(kvs:List (aL×Int))(te tf:aJ):aJ:=fun σ S Q E=>te σ S (fun y S2=>tf σ S2 (fun z S3=>match jf y with|some k=>Q (((kvs.find? fun kv=>decide (kv.1=k)).map fun kv=>PV.int kv.2).getD z) S3|none=>False) E) E
def ua{x:Str}{px:Pos}{a:Addr}{kvs:List (aL×Int)}(hu:X.A.units+1 < cLine)(hg:Gl X x)(hm:X.mg x=some (.ref a))(hD:KD X.prog X.w X.K a (kvs.map fun kv=>(kv.1,V.int kv.2)))(he:aM X e te)(hf:aM X f tf)(m:M2 X (.Name x px) "get" apos e f cpos)
  (hd:(x == ("__debug__":Str))=false:=by decide):aM X (.Call (.Attribute (.Name x px) "get" apos) [e,f] [] cpos) (lE kvs te tf):=
 ⟨aE (qk hu hg hm hD he.ok hf.ok m hd) fun σ H Q ⟨σ3,S,Q3,E3,rσ,rS,h,xo,k⟩=>⟨σ3,S,_,E3,rσ,rS,h,xo,fun y S2 y' H2 h2 ry Ag g2=>⟨σ3,S2,_,E3,rσ.mono g2,Ag,h2,xo.mono g2,fun z S3 z' H3 h3 rz BK g3=>by
  split at h3
  ·rename_i k' ek
   have e1:=cp (ry.mono g3) ek
   subst e1
   refine⟨_,rfl,k _ S3 _ H3 h3 ?_ BK (g2.trans g3)⟩
   have:∀l:List (aL×Int),Rep X.K H3 ((cM (l.map fun kv=>(kv.1,V.int kv.2)) k').getD z') (((l.find? fun kv=>decide (kv.1=k')).map fun kv=>PV.int kv.2).getD z):=by
    intro l
    induction l with
    |nil=>exact rz
    |cons q r ih=>
     rw[EV,List.find?_cons]
     by_cases e:q.1=k'
     ·rw[zk e,FJ e];exact .int _
     ·rw[zl e,E9 e];exact ih
   exact this kvs
  ·exact h3.elim⟩⟩⟩
def j9(te:aJ):aJ:=fun σ S Q E=>te σ S (fun x S1=>match x with
 | .ref a=>(match S1 a with|some (.lst xs)=>∀p,S1 p=none->Q (.ref p) (yO S1 p (.lst xs.reverse))|_=>False)
 |_=>False) E
def ub{p1 p2 q1 q2:Pos}(hs:starEach [e] X.env=[(false,eval e X.env)])(hc:X.calm=true)(he:aM X e te)(CQ:Gl X "list")(hm1:X.mg "list" = none)(Dl:Gl X "reversed")(hm2:X.mg "reversed" = none):aM X (.Call (.Name "list" p1) [.Call (.Name "reversed" p2) [e] [] q2] [] q1) (j9 te):=
 ⟨aE (kL hc he.ok CQ hm1 Dl hm2 hs rfl) fun σ H Q ⟨σ3,S,Q3,E3,rσ,rS,h,xo,k⟩=>⟨σ3,S,_,E3,rσ,rS,h,xo,fun x S1 v H1 h1 rx yW g1=>by
  split at h1
  ·cases rx
   split at h1
   ·rename_i ea
    obtain⟨vs,hv,rs⟩:=yW _ _ ea
    exact⟨_,_,rfl,SqL.of hv,fun q hq=>k _ _ _ _ (h1 q (yW.free hq)) (.ref q) (yW.new hq ⟨_,az,rs.reverse.mono (.new hq)⟩) (g1.trans (.new hq))⟩
   ·exact h1.elim
  ·exact h1.elim⟩⟩
end
def bw:R3:=eL fun i j=>.int (i - j)
def d3:R3:=d8 (fun _ j=>j≠0) fun i j=>.int (i.fmod j)
def fI:R3:=d8 j3 fun i j=>.int (i.fdiv j)
def gC:R3:=d8 pX fun i j=>.int (i ^ j.toNat)
def mC:R3:=eL fun i j=>.bl (decide (i < j))
def qJ:R3:=eL fun i j=>.bl (decide (j < i))
def va:R3:=eL fun i j=>.bl (decide (j<=i))
section
variable {X:Cx}
def cG:fF X (binaryOp .Sub) bw:=tW
def dc:fF X (binaryOp .Mod) d3:=tX
def jo:fF X (binaryOp .FloorDiv) fI:=qt
def gD:fF X (binaryOp .Pow) gC:=tY
def jp:fF X (compareOp .Lt) mC:=vX
def om:fF X (compareOp .Gt) qJ:=vY
def wc:fF X (compareOp .GtE) va:=vZ
end
def vb{A:Around}{k:Nat}(hr:Room k A):A.units+1 < cLine:=by have:=hr.un;omega
def d_{A:Around}{k:Nat}(hr:Room k A):A.units+150 < cLine:=by have:=hr.un;omega
def j_{A:Around}{k:Nat}(hr:Room k A):A.units+160 < cLine:=by have:=hr.un;omega
structure wS (K:Vo) (mg:Vr) (x:Str) (st:Stmt) (ps:Vs) (f:Addr) (fd:FuncData):Prop where
 F:BW K x x st f fd
 b:Binds K fd ps []
 k:PySem.W.keepIn K (.ref f)=true
 m:mg x=some (.ref f)
def BY.zero{P:Program}{w:World}{K:Vo}{mg:Vr}{base:Heap}{k:Nat}{f:Addr}{fd:FuncData}{ps:Vs}{sp:aH}(h:sp=fun _ _ _ _=>False):BY P w K mg base k f fd ps sp:=by
 subst h
 exact⟨⟨fun vs H Q E q=>q.1,fun A outer s H args us vs Q E _ _ _ _ _ ⟨_,_,_,_,_,_,_,q,_⟩=>q.elim⟩⟩
def xO{K:Vo}{H:Hp}{a:Addr}{ns:Vu}{sp:aH}(hO:qe H)(hS:SqL K H a (ns.map V.int))(h:sp [.cl (ns.map PV.int)] (fun _=>none) (fun v _=>v = .bl true) ff):wb K 1 sp [.ref a] H (fun v _=>v = .bl true) fun _ _ _=>False:=by
 have hr:∀l:List Int,Reps K H (l.map V.int) (l.map PV.int):=by
  intro l
  induction l with
  |nil=>exact .nil
  |cons x r ih=>exact .cons (.int x) ih
 refine⟨rfl,[.cl (ns.map PV.int)],fun _=>none,_,ff,.cons (.cl (vs:=ns.map V.int) ?_ (hr ns)) .nil,(fun b o e=>by simp at e),h,fun p S' v H' q rv rS g=>?_⟩
 ·rcases hS with(q|q)|q
  ·rcases hO a with z|⟨o,xs,z⟩
   ·rw[z]at q;cases q
   ·rw[z]at q;cases q
  ·exact .inl q
  ·exact .inr q
 ·subst q
  cases rv
  rfl
end L3
namespace L2
open PySem PySem.Spec PyProof.Rows
end L2
namespace HT
open PySem PySem.Spec PyProof.Rows
end HT
namespace L2
open PySem PySem.Spec PyProof.Rows
end L2
namespace L3
open PySem L2
end L3
namespace L2
open PySem PySem.Spec PyProof.Rows
end L2
namespace L3
open PySem L2
end L3
namespace L2
open PySem PySem.Spec PyProof.Rows PySem.AutoSeq1
end L2
namespace L3
open PySem L2
end L3
namespace C
open PySem L2 L3
noncomputable def k_SIDES_FROM:List (aL×Int):=[(Sum.inr "then",1),(Sum.inr "either",1),(Sum.inr "take",3),(Sum.inr "often",1)]
def dv:bc:=(ae (aq 3 (a9 (aX (aY (v3 0) (jg (v3 1)) (jg (c3 (.int 63))))) (.n 0) cF (ah gw [(v3 0),(aj bw (c3 (.int 0)) (v3 0))]) 1 []))
  (ae (aq 4 (aj aF (c3 (.int 7919)) (v3 1)))
  (ae (du (aX (v3 3)) (.n 2) (aq 4 (aj d3 (aj aF (aj fU (v3 4) (c3 (.int 48271))) (aj d3 (v3 2) (c3 (.int 2147483629)))) (c3 (.int 2147483647)))))
  (aG (j8 [((c3 (.str "seed")),(v3 4)),((c3 (.str "number")),(c3 (.int 0))),((c3 (.str "left")),(j9 (a9 (aX (v3 3)) (.n 0) (aT (aj va (v3 0) (aj gC (c3 (.int 10)) (c3 (.int 18))))) (v3 0) 1 [])))])))))
def dw:bc:=(ae (gA (ms (aT (aj (bL false) (aj aw (v3 0) (c3 (.str "number"))) (c3 (.int 0)))) (aT (aj qJ (ah bt [(aj aw (v3 0) (c3 (.str "left")))]) (c3 (.int 0))))) (kX (bI "list" mx (aj aw (v3 0) (c3 (.str "left"))) []) (v3 0) (c3 (.str "number"))))
  (ae (aq 2 (aj aw (v3 0) (c3 (.str "number"))))
  (ae (bu (aT (aj qJ (v3 2) (c3 (.int 0)))) (ae (kX (aj fI (v3 2) (v3 1)) (v3 0) (c3 (.str "number")))
  (aG (aj d3 (v3 2) (v3 1)))) aQ)
  (ae (aq 3 (aj d3 (aj aF (aj fU (aj aw (v3 0) (c3 (.str "seed"))) (c3 (.int 48271))) (c3 (.int 7919))) (c3 (.int 2147483647))))
  (ae (kX (aj d3 (aj aF (aj fU (v3 3) (c3 (.int 40692))) (c3 (.int 104729))) (c3 (.int 2147483399))) (v3 0) (c3 (.str "seed")))
  (ae (aq 4 (aj d3 (aj fU (aj aw (v3 0) (c3 (.str "seed"))) (aj aw (v3 0) (c3 (.str "seed")))) (c3 (.int 2147483563))))
  (aG (aj d3 (aj aF (aj fU (aj d3 (aj fU (v3 3) (v3 3)) (c3 (.int 2147483629))) (c3 (.int 2147483563))) (v3 4)) (v3 1)))))))))
def em:bc:=(ae (my 2 3 (ah gw [(v3 0),(aj bw (c3 (.int 0)) (v3 0))]) (v3 1))
  (ae (gA (aT (aj qJ (v3 3) (c3 (.int 0)))) (my 2 3 (v3 3) (aj d3 (v3 2) (v3 3))))
  (aG (bA [(aj fI (v3 0) (v3 2)),(aj fI (v3 1) (v3 2))]))))
def en:bc:=(aG (aY (v3 0) (jg (lE C.k_SIDES_FROM (aj aw (v3 0) (c3 (.int 0))) (ah bt [(v3 0)]))) kS))
def gE:bc:=(ae (gA (aT (aj (bL true) (v3 1) (c3 (.int 0)))) (ae (aq 2 (aj d3 (v3 0) (v3 1)))
  (ae (aq 0 (v3 1))
  (aq 1 (v3 2)))))
  (aG (ah kU [(v3 0)])))
end C
namespace Zu
open PySem Zt
open Sem (wp)
end Zu
namespace L2
open PySem PySem.Spec PyProof.Rows
end L2
namespace L3
open PySem L2
end L3
namespace L2
open PySem PySem.Spec PyProof.Rows
end L2
namespace L3
open PySem L2
end L3
namespace C
open PySem L2 L3
end C
namespace Zv
open PySem
open Sem (wp)
end Zv
namespace L2
open PySem PySem.Spec PyProof.Rows
end L2
namespace L3
open PySem L2
end L3
namespace L3
open PySem L2 Xc
end L3
namespace L3
open PySem L2
end L3
namespace L2
open PySem PySem.Spec PyProof.Rows Xc
end L2
namespace L3
open PySem L2 Xc
section
variable {P:Program} {w:World} {K:Vo} {mg:Vr} {base:Heap}
structure a5 (K:Vo) (mg:Vr) (x:Str) (st:Stmt) (ps:Vs):Prop where
 ex:∃f fd,wS K mg x st ps f fd
structure zI (P:Program) (w:World) (K:Vo) (mg:Vr) (base:Heap) (k:Nat) (x:Str) (n:Nat) (sp:aH):Prop where
 ex:∃f fd ps,ps.length=n/\BY P w K mg base k f fd ps sp/\mg x=some (.ref f)/\PySem.W.keepIn K (.ref f)=true/\Binds K fd ps []
def er{x:Str}{st:Stmt}{ps:Vs}{k n:Nat}{t:bc}{sp:aH}(N:Vs)(O:a5 K mg x st ps)
  (hbody:∀(f:Addr) (cdv:Value) (A:Around) (outer:List Env) (s:Shared) (H:Hp) (E:XK),Room k (A.deeper (PyProof.Rows.envOfC x (aI st) s.heap.objs.size f cdv))->N.Nodup->fT (xN P w K mg base N x st f cdv A outer s H E) (bb st) t) (e:sp=a4 N.length t)
  (hn:ps.length=n:=by rfl) (S:dQ N ps (aI st):=by exact⟨rfl,rfl,rfl,by decide +kernel,rfl,by decide +kernel,by decide +kernel⟩):zI P w K mg base (k+1) x n sp:=by
 subst e
 obtain⟨f,fd,o⟩:=O.ex
 exact⟨f,fd,ps,hn,yh o.F S fun cdv A outer s H E hr=>hbody f cdv A outer s H E hr S.nd,o.m,o.k,o.b⟩
def yB{x:Str}{st:Stmt}{ps:Vs}{k:Nat}{t:bc}{sp:aH}{f:Addr}{fd:FuncData}(N:Vs)(o:wS K mg x st ps f fd)
  (hbody:∀(f:Addr) (cdv:Value) (A:Around) (outer:List Env) (s:Shared) (H:Hp) (E:XK),Room k (A.deeper (PyProof.Rows.envOfC x (aI st) s.heap.objs.size f cdv))->N.Nodup->fT (xN P w K mg base N x st f cdv A outer s H E) (bb st) t) (e:sp=a4 N.length t)
  (S:dQ N ps (aI st):=by exact⟨rfl,rfl,rfl,by decide +kernel,rfl,by decide +kernel,by decide +kernel⟩):BY P w K mg base (k+1) f fd ps sp:=by
 subst e
 exact yh o.F S fun cdv A outer s H E hr=>hbody f cdv A outer s H E hr S.nd
def vc:aH:=fun _ _ _ _=>False
theorem zI.zero{x:Str}{st:Stmt}{ps:Vs}{k n:Nat}(O:a5 K mg x st ps)(hn:ps.length=n:=by rfl):zI P w K mg base k x n vc:=by
 obtain⟨f,fd,o⟩:=O.ex
 exact⟨f,fd,ps,hn,.zero rfl,o.m,o.k,o.b⟩
theorem on{b n:Nat}{x:Str}{st:Stmt}{ps:Vs}{r:Nat->aH}(O:a5 K mg x st ps)(h:∀j,zI P w K mg base (b+j) x n (r j)->zI P w K mg base (b+j+1) x n (r (j+1)))(h0:r 0=vc)(hn:ps.length=n:=by rfl):∀j,zI P w K mg base (b+j) x n (r j)
 |0=>by rw[h0];exact .zero O hn
 |j+1=>h j (on O h h0 hn j)
end
section
variable {X:Cx} {a b e o:Expr} {es:List Expr} {ta tb te to:aJ} {ts:List aJ} {x c m f:Str} {p pos apos cpos:Pos} {j k n:Nat} {sp:aH}
def c4(O:zI X.prog X.w X.K X.mg X.base k x n sp)(hr:Room j X.A)(ha:iB X (e::es) ts)(hj:k<=j:=by omega)(hl:ts.length=n:=by rfl)(hg:Gl X x:=by rfl)(he:starEach (e::es) X.env=(false,eval e X.env)::starEach es X.env:=by rfl)(hdb:(x == ("__debug__":Str))=false:=by decide)(hpl:(backTo pos (starEach es X.env)).any (·.1)=false:=by rfl) :
  aM X (.Call (.Name x p) (e::es) [] pos) (ad sp ts):=by
 obtain⟨f,fd,ps,hn,F,h1,h2,h3⟩:=O.ex
 exact t8 F (hr.mono hj) hg h1 h2 h3 he ha (hl.trans hn.symm) hdb hpl
def yC(O:zI X.prog X.w X.K X.mg X.base k x 0 sp)(hr:Room j X.A)(hj:k<=j:=by omega)(hg:Gl X x:=by rfl)(hdb:(x == ("__debug__":Str))=false:=by decide):aM X (.Call (.Name x p) [] [] pos) (ad sp []):=by
 obtain⟨f,fd,ps,hn,F,h1,h2,h3⟩:=O.ex
 obtain rfl:=List.length_eq_zero_iff.mp hn
 exact qI F (hr.mono hj) hg h1 h2 h3 hdb
def cB{id:String}{r:iC}(hc:bS X (.builtin id) r)(hm:X.mg x=none)(ha:iB X (e::es) ts)(hg:Gl X x:=by rfl)(hv:bootBuiltins x=some (.builtin id):=by decide +kernel)(he:starEach (e::es) X.env=(false,eval e X.env)::starEach es X.env:=by rfl)
  (hnn:x ≠ "__name__":=by decide) (hdb:(x == ("__debug__":Str))=false:=by decide) (hpl:(backTo pos (starEach es X.env)).any (·.1)=false:=by rfl):aM X (.Call (.Name x p) (e::es) [] pos) (ah r ts):=qy hc hg hm hv he ha hnn hdb hpl
def cT{id:String}{r:iC}(hc:bS X (.type id) r)(hm:X.mg x=none)(ha:iB X (e::es) ts)(hg:Gl X x:=by rfl)(hv:bootBuiltins x=some (.type id):=by decide +kernel)(he:starEach (e::es) X.env=(false,eval e X.env)::starEach es X.env:=by rfl)
  (hnn:x ≠ "__name__":=by decide) (hdb:(x == ("__debug__":Str))=false:=by decide) (hpl:(backTo pos (starEach es X.env)).any (·.1)=false:=by rfl):aM X (.Call (.Name x p) (e::es) [] pos) (ah r ts):=qz hc hg hm hv he ha hnn hdb hpl
def lc{r:List Expr}(ha:aM X a ta)(hr:iB X r ts)(hs:starEach (a::r) X.env=(false,eval a X.env)::starEach r X.env:=by rfl):iB X (a::r) (ta::ts):=nQ hs ha hr
def l1(ha:aM X a ta)(hs:starEach [a] X.env=(false,eval a X.env)::starEach [] X.env:=by rfl):iB X [a] [ta]:=nQ hs ha j1
def ee{i:Int}{q:Nat}{p2:Pos}(hr:Room j X.A)(ha:aM X a ta)(hs:eG (.Constant (.int i) q p2):=by exact fun _ _=>rfl):aM X (.Subscript a (.Constant (.int i) q p2) pos) (aj aw ta (c3 (.int i))):=v6 (yf (vb hr)) ha ac hs
def iI(hr:Room j X.A)(ha:aM X a ta)(hb:aM X b tb)(hs:eG b:=by exact fun _ _=>rfl):aM X (.Subscript a b pos) (aj aw ta tb):=v6 (yf (vb hr)) ha hb hs
def jM(hr:Room j X.A)(ha:aM X a ta)(hb:aM X b tb):kN X (.Compare a [.Eq] [b] pos) (aT (aj (bL false) ta tb)):=bi (v1 (d_ hr)) ha hb (aV _)
def lF(hr:Room j X.A)(ha:aM X a ta)(hb:aM X b tb):kN X (.Compare a [.NotEq] [b] pos) (aT (aj (bL true) ta tb)):=bi (v4 (d_ hr)) ha hb (aV _)
def s4(i:Nat){pos':Pos}(nd:X.N.Nodup)(he:aM X e te)(hi:X.N[i]?=some x:=by rfl)(hx:rA X.env.scope x:=by first|exact Or.inl rfl|exact Or.inr rfl)(hs:swapsWith e (some (.Name x pos')) pos.line X.env=pure false:=by rfl)
  (hf:X.fn x=true\/X.env.scope.names.lookup x=some .local:=by first|exact .inl rfl|exact .inr rfl|assumption):kO X (.Assign [.Name x pos'] e pos) (aq i te):=v_ nd hi hx he hs hf
def gn(i:Nat)(nd:X.N.Nodup)(hi:X.N[i]?=some x:=by rfl)(hx:rA X.env.scope x:=by first|exact Or.inl rfl|exact Or.inr rfl)(hf:X.fn x=true\/X.env.scope.names.lookup x=some .local:=by first|exact .inl rfl|exact .inr rfl|assumption):qC X (.Name x pos) (.n i):=yA i nd hi hx hf
def yD{px:Pos}{kvs:List (aL×Int)}{g:Expr}{tg:aJ}(hr:Room j X.A)(hD:∃a,X.mg x=some (.ref a)/\KD X.prog X.w X.K a (kvs.map fun kv=>(kv.1,V.int kv.2)))(he:aM X e te)(hf:aM X g tg)(hg:Gl X x:=by rfl)(m:M2 X (.Name x px) "get" apos e g cpos:=by exact⟨rfl,rfl,rfl,rfl⟩)
  (hd:(x == ("__debug__":Str))=false:=by decide):aM X (.Call (.Attribute (.Name x px) "get" apos) [e,g] [] cpos) (lE kvs te tg):=let ⟨_,h1,h2⟩:=hD;ua (vb hr) hg h1 h2 he hf m hd
def yi{z:Str}(h:∃t,X.mg x=some (.str z t))(hg:Gl X x:=by rfl)(hd:(x == ("__debug__":Str))=false:=by decide):aM X (.Name x pos) (c3 (.str z)):=let ⟨_,h1⟩:=h;tT hg h1 hd
end
structure uc (T:String) (name:Str) (id:String):Prop where
 pa:PlainAttrs T
 slot:Slot T name id
 ty:typeOf (.builtin id)=pure (.type "method_descriptor")
section
variable {X:Cx} {e o:Expr} {es:List Expr} {to:aJ} {ts:List aJ} {name:Str} {T id:String} {p pos apos cpos:Pos} {r:m8}
def aS:uc "list" "append" "list.append":=⟨PySem.F.plainAttrs_list,PySem.F.slot_list_append,PySem.F.type_list_append⟩
def ud:uc "list" "pop" "list.pop":=⟨PySem.F.plainAttrs_list,PySem.F.slot_list_pop,PySem.F.type_list_pop⟩
def cb:uc "str" "join" "str.join":=⟨Gq,PySem.F.slot_str_join,PySem.F.type_str_join⟩
def fJ(k:uc T name id)(hm:pK X id r)(ho:aM X o to)(ha:iB X (e::es) ts)(hs:starEach (e::es) X.env=(false,eval e X.env)::starEach es X.env:=by rfl)
  (hbase:attributeBase o name X.env (eval o X.env)=eval o X.env:=by rfl)
  (hfew:((backTo cpos (starEach (e::es) X.env)).all (fun x=>!x.1)&&(backToKw cpos (keywordEach [] X.env)).all (fun x=>x.1.isSome)
   && decide ((e::es).length+([]:List Keyword).length+(if ([]:List Keyword).isEmpty then 0 else 1) < 30))=true:=by rfl)
  (hline:(apos.endLine == cpos.line)=true:=by rfl) (hplain:(backTo cpos (starEach es X.env)).any (·.1)=false:=by rfl):aM X (.Call (.Attribute o name apos) (e::es) [] cpos) (bI T r to ts):=xJ k.pa k.slot k.ty hm hs ho ha hbase hfew hline hplain
def xP(k:uc T name id)(hm:pK X id r)(ho:aM X o to)
  (hbase:attributeBase o name X.env (eval o X.env)=eval o X.env:=by rfl) (hline:(apos.endLine == cpos.line)=true:=by rfl):aM X (.Call (.Attribute o name apos) [] [] cpos) (bI T r to []):=v8 k.pa k.slot k.ty hm ho hbase hline
end
section
variable {X:Cx} {tg iter elt:Expr} {ifs:List Expr} {scope:Scope} {pos:Pos} {ti:oi} {g:Tg} {tc:fZ} {te:aJ}
def pL(fs:Vs)(own:Nat)(fr:List Nat)(N:Vs)(hi:qE X tg iter ti)(hg:∀B,qC (X.z5 N scope fs B) tg g)(hf:∀B,u_ (X.z5 N scope fs B) ifs tc)(he:∀B,aM (X.z5 N scope fs B) elt te)
  (BL:g.under own=true:=by rfl) (hc:X.calm=true:=by rfl) (hclos:closureFor scope X.env=pure (bz X.env fs):=by rfl) (hcell:∀y∈scope.names,y.2 ≠ .cell:=by decide +kernel) (hkind:scope.kind = .function:=by rfl)
  (hnames:∀x∈scope.names,x.2 = .local->scope.names.lookup x.1=some .local:=by decide +kernel) (hcl:bj X.env fs:=by repeat' first|exact trivial|exact⟨_,rfl⟩|constructor) (hhas:i9 (relabel scope X.env).names (bz X.env fs)=true:=by rfl)
  (hlen:N.length=own+fr.length:=by rfl) (hN:(N.drop own).map some=fr.map (fun j=>X.N[j]?):=by rfl) (hF:zg X.env scope (bz X.env fs) (N.drop own):=by repeat' first|exact trivial|exact .inl rfl|exact .inr rfl|exact rfl|apply And.intro)
  (hs:∀x,foldedSetIterable iter X.env x=pure x:=by intro _;rfl):aM X (.ListComp elt [⟨tg,iter,ifs,0⟩] scope pos) (a9 ti g tc te own fr):=t6 fs own fr N BL hc hclos hcell hkind hnames hcl hhas hlen hN hF hi hg hf he hs
def yE(fs:Vs)(own:Nat)(fr:List Nat)(N:Vs)(i:Nat){y:Str}{py spos:Pos}(hX:X.N.Nodup)(hi:qE X tg iter ti)(hg:∀B,qC (X.z5 N scope fs B) tg g)(hf:∀B,u_ (X.z5 N scope fs B) ifs tc)(he:∀B,aM (X.z5 N scope fs B) elt te)
  (hix:X.N[i]?=some y:=by rfl) (hy:X.env.scope.names.lookup y=some .local:=by rfl) (hsw:swapsWith (.ListComp elt [⟨tg,iter,ifs,0⟩] scope pos) (some (.Name y py)) spos.line X.env=pure true:=by rfl)
  (BL:g.under own=true:=by rfl) (hc:X.calm=true:=by rfl) (hclos:closureFor scope X.env=pure (bz X.env fs):=by rfl) (hcell:∀y∈scope.names,y.2 ≠ .cell:=by decide +kernel) (hkind:scope.kind = .function:=by rfl)
  (hnames:∀x∈scope.names,x.2 = .local->scope.names.lookup x.1=some .local:=by decide +kernel) (hcl:bj X.env fs:=by repeat' first|exact trivial|exact⟨_,rfl⟩|constructor) (hhas:i9 (relabel scope X.env).names (bz X.env fs)=true:=by rfl)
  (hlen:N.length=own+fr.length:=by rfl) (hN:(N.drop own).map some=fr.map (fun j=>X.N[j]?):=by rfl) (hF:zg X.env scope (bz X.env fs) (N.drop own):=by repeat' first|exact trivial|exact .inl rfl|exact .inr rfl|exact rfl|apply And.intro)
  (hs:∀x,foldedSetIterable iter X.env x=pure x:=by intro _;rfl):kO X (.Assign [.Name y py] (.ListComp elt [⟨tg,iter,ifs,0⟩] scope pos) spos) (aq i (a9 ti g tc te own fr)):=t7 fs own fr N hX hix hy hsw BL hc hclos hcell hkind hnames hcl hhas hlen hN hF hi hg hf he hs
end
section
variable {X:Cx} {e:Expr} {es:List Expr} {ts:List aJ} {x:Str} {p pos cpos:Pos} {ks:Vs} {j:Nat}
def xQ{n:String}(hm:X.mg x=none)(hg:Gl X x:=by rfl)(hv:bootBuiltins x=some (.type n):=by decide +kernel)(hn:x ≠ "__name__":=by decide)(hd:(x == ("__debug__":Str))=false:=by decide):aM X (.Name x pos) (c3 (.ty n)):=xI hg hm hv hn hd
end
end L3
namespace L2
open PySem PySem.Spec PyProof.Rows
section
variable {X:Cx}
noncomputable def ue:V->List V->Hp->VK->Prop:=fun x vs H Q=>∃z i,x = .str z/\vs=[.int i]/\PadOk i=true/\Q (.str (Txt.zfill z i)) H
def oo:tt X "str.zfill" ue:=by
 intro pins s σ H x vs v us Q I rx rv h
 obtain⟨z,i,rfl,rfl,hp,q⟩:=h
 obtain⟨t,rfl⟩:=rx
 obtain⟨w,rfl,u,rfl⟩:=bV rv
 exact Fj I.tk (call_gives F.slot_str_zfill (GJ _ _ _) F.entry_str_zfill (F.args_str_zfill_2 _ _) (gives_str_zfill z i t u (PadOk.parts hp).1 (PadOk.parts hp).2) (post_val_or_made (fits_zfilled (PadOk.parts hp).2) fun t' k ht=>⟨.str _,H,I.tok _,⟨_,rfl⟩,q⟩))
theorem we:∀(l:List (Str×Tok)),Vals ((l.map (·.1)).map V.str) (strValues l)
 |[]=>.nil
 |(x,t)::r=>.cons ⟨t,rfl⟩ (we r)
def oq{prog:Program}{w:World}{A:Around}{E:Vq}{s:Shared}{x y:Str}{t u:Tok}{Q:Vq}(hy:(y.length == 0)=false)(hsz:x.length<=sizeLine)(hsz2:(Txt.split x y).length<=sizeLine)
  (hq:∀(l:List (Str×Tok)) tk,l.map (·.1)=Txt.split x y->Q (.ref s.heap.objs.size) { s with heap:=s.heap.push { cls:=.type "list",data:=.seq (strValues l).toArray },toks:=tk }) :
  wpAny (model prog w) A (call (.builtin "str.split") [.str x t,.str y u]) Q E s:=by
 cases h1:(decide (x.length < y.length) || decide (Builtin.Str.strKind x < Builtin.Str.strKind y))
 ·cases hf:(Builtin.Str.occurrences x y 0 x.length (x.length+1)).isEmpty
  ·have es:Txt.split x y=Builtin.Str.partsBetween x (Builtin.Str.occurrences x y 0 x.length (x.length+1)) y.length:=(if_neg (Ho h1)).trans (if_neg (Ho hf))
   refine GK F.slot_str_split (GJ _ _ _) F.entry_str_split (F.args_str_split_2 _ _) (meets_str_split_sep x y t u h1 hy hf hsz (by rw[<-es];exact hsz2)) ?_
   show wants Q E _ { s with toks:=_,heap:=s.heap.push { cls:=.type "list",data:=.seq (strsFrom s.toks (Builtin.Str.partsBetween x (Builtin.Str.occurrences x y 0 x.length (x.length+1)) y.length)).toArray } }
   rw[strsFrom_eq]
   exact hq _ _ ((numbered_texts _ _).trans es.symm)
  ·exact GK F.slot_str_split (GJ _ _ _) F.entry_str_split (F.args_str_split_2 _ _) (meets_str_split_not_found x y t u h1 hy hf)
    (hq [(x,t)] s.toks ((if_neg (Ho h1)).trans (if_pos hf)).symm)
 ·exact GK F.slot_str_split (GJ _ _ _) F.entry_str_split (F.args_str_split_2 _ _) (meets_str_split_cannot_occur x y t u h1)
   (hq [(x,t)] s.toks (if_pos h1).symm)
noncomputable def uf:V->List V->Hp->VK->Prop:=fun x vs H Q=>∃z y,x = .str z/\vs=[.str y]/\(y.length == 0)=false/\z.length<=sizeLine/\(Txt.split z y).length<=sizeLine/\∀q,H q=none->Q (.ref q) (upd H q (.lst ((Txt.split z y).map V.str)))
def ot:tt X "str.split" uf:=by
 intro pins s σ H x vs v us Q I rx rv h
 obtain⟨z,y,rfl,rfl,hy,h1,h2,q⟩:=h
 obtain⟨t,rfl⟩:=rx
 obtain⟨w,rfl,u,rfl⟩:=bV rv
 refine Fj I.tk (oq hy h1 h2 fun l tk e ht=>?_)
 rw[<-e]at q h2
 refine⟨.ref _,_,I.laid (a:=s.heap.objs.size) (o:=.lst ((l.map (·.1)).map V.str)) (t':=tk) (fun b o e=>EY _ e) (EZ _) ?_,rfl,q _ (I.hok.fresh (EZ _))⟩
 exact⟨by rw[E2];exact h2,strValues l,0,we l,Ff _ rfl⟩
def mD:cz X (.type "int") (fun xs H Q=>∃z n,xs=[.str z]/\z.length<=640/\PySem.intText? z=some n/\Q (.int n) H):=by
 intro pins s σ H xs us Q I r h
 obtain⟨z,n,rfl,hl,hn,q⟩:=h
 obtain⟨u,rfl,t,rfl⟩:=bV r
 exact PySem.W.KIN.call_text hn hl ⟨.int n,H,I.tok _,⟨_,rfl⟩,q⟩
end
end L2
namespace L3
open PySem PySem.Spec PyProof.Rows L2
section
variable {X:Cx}
def gF:m8:=fun x ps S Q=>match x,ps with
 | .str z,[.int i]=>PadOk i=true/\Q (.str (Txt.zfill z i)) S
 |_,_=>False
def lG:pK X "str.zfill" gF:=⟨fun pins s σ H x xs v us Q I rx rs ⟨px,ps,S,Q3,r1,rp,rS,q,k⟩=>by
 unfold gF at q
 split at q
 ·cases r1
  cases rp with
  |cons b rr=>cases rr;cases b;exact oo pins s σ H _ _ v us Q I rx rs ⟨_,_,rfl,rfl,q.1,k _ S _ H q.2 (.str _) rS .refl⟩
 ·exact q.elim⟩
theorem dU{K:Vo}{H:Hp}:∀l:List Str,Reps K H (l.map V.str) (l.map PV.str)
 |[]=>.nil
 |_::r=>.cons (.str _) (dU r)
def cu:m8:=fun x ps S Q=>match x,ps with
 | .str z,[.str y]=>(y.length == 0)=false/\z.length<=sizeLine/\(Txt.split z y).length<=sizeLine/\∀p,S p=none->Q (.ref p) (yO S p (.lst ((Txt.split z y).map PV.str)))
 |_,_=>False
def eQ:pK X "str.split" cu:=⟨fun pins s σ H x xs v us Q I rx rs ⟨px,ps,S,Q3,r1,rp,rS,q,k⟩=>by
 unfold cu at q
 split at q
 ·cases r1
  cases rp with
  |cons b rr=>cases rr;cases b;exact ot pins s σ H _ _ v us Q I rx rs ⟨_,_,rfl,rfl,q.1,q.2.1,q.2.2.1,fun p hp=>k _ _ _ _ (q.2.2.2 p (rS.free hp)) (.ref p) (rS.new hp ⟨_,az,dU _⟩) (.new hp)⟩
 ·exact q.elim⟩
def iJ:iC:=fun ps S Q=>match ps with
 |[.str z]=>z.length<=640/\(match PySem.intText? z with|some n=>Q (.int n) S|none=>False)
 |ps=>iD ps S Q
def rW:bS X (.type "int") iJ:=⟨fun pins s σ H xs us Q I r ⟨ps,S,Q3,rp,rS,q,k⟩=>by
 unfold iJ at q
 split at q
 ·cases rp with
  |cons a rr=>
   cases rr;cases a
   obtain⟨q1,q2⟩:=q
   split at q2
   ·rename_i n e
    exact mD pins s σ H _ us Q I r ⟨_,_,rfl,q1,e,k _ S _ H q2 (.int _) rS .refl⟩
   ·exact q2.elim
 ·exact CA.ok pins s σ H xs us Q I r ⟨_,S,Q3,rp,rS,q,k⟩⟩
def ka:uc "str" "zfill" "str.zfill":=⟨Gq,PySem.F.slot_str_zfill,PySem.F.type_str_zfill⟩
def dy:uc "str" "split" "str.split":=⟨Gq,PySem.F.slot_str_split,PySem.F.type_str_split⟩
end
end L3
namespace L2
open PySem PySem.Spec PyProof.Rows
end L2
namespace L3
open PySem PySem.Spec PyProof.Rows L2
end L3
namespace PySem
open PyProof.Rows Builtin Builtin.Str
section
variable {prog:Program} {w:World} {A:Around} {E:Vq} {s:Shared}
def kb{I l:Addr}{items:Vw}{Q:List Value->Shared->Prop}(hh:A.handled=none)(hl:s.heap.IsList l items)(hit:s.heap.IsRevIter I l ((items.size:Int) - 1))(hne:l≠I)(hn:items.size<=sizeLine)
  (hQ:∀h' tk,(∀b o,b≠I->s.heap.get? b=some o->h'.get? b=some o)->Q items.toList.reverse { s with heap:=h',toks:=tk }):wpAny (model prog w) A (collect (.ref I)) Q E s:=by
 have W:=(Walks.listRev (prog:=prog) (w:=w) (A:=A.in1) hh I l hne items).toS
 have Ce:I < s.heap.objs.size:=by obtain⟨o,ho,_⟩:=hit;exact E5 ho
 have Cf:l < s.heap.objs.size:=by obtain⟨o,ho,_⟩:=hl;exact E5 ho
 have hfp:∀b∈[I,l],b < s.heap.objs.size:=fun b hb=>by
  rcases E1.mp hb with rfl|hb
  ·exact Ce
  ·rw[E8.mp hb];exact Cf
 have hst:(fun i (s:Shared)=>i<=items.size/\s.heap.IsRevIter I l ((items.size:Int) - 1 - (i:Int))/\s.heap.IsList l items) 0 s:=⟨FE _,by simpa using hit,hl⟩
 have hSf:s.heap.objs.size ∉ [I,l]:=fun hm=>FO _ (hfp _ hm)
 have hSI:s.heap.objs.size≠I:=fun e=>hSf (by rw[e];simp)
 unfold collect
 refine EW (wpAny_runValue (codeAny_builtin F.entry_proto_collect ?_))
 rw[Around.under_plainId F.plain_proto_collect _]
 show wpAny _ A.in1 (newList [] >>= fun l=>again (.builtin "list.__iadd__" ⟨[l,.ref I],[]⟩)) _ _ s
 refine EW (F7 ?_)
 refine E7 ⟨plainId_quiet F.plain_list_iadd _,codeAny_builtin F.entry_list_iadd ?_⟩
 rw[Around.under_plainId F.plain_list_iadd _]
 have Bo:=W.frame 0 s (s.heap.push { cls:=.type "list",data:=.seq ([]:Vv).toArray }) s.toks hst (EZ _) fun b _ o e=>EY _ e
 have Ez:(s.heap.push { cls:=.type "list",data:=.seq ([]:Vv).toArray }).get? s.heap.objs.size=some { cls:=.type "list",data:=.seq ([]:Vv).toArray }:=Ff _ rfl
 have h1:Builtin.List.listSameRef (.ref s.heap.objs.size) (.ref I)=false:=by simp[Builtin.List.listSameRef,hSI]
 show wpAny _ A.in1 (Builtin.List.listExtendWith (.ref s.heap.objs.size) (.ref I) (.ref s.heap.objs.size)) _ _ _
 unfold Builtin.List.listExtendWith
 refine EW (GW Bo.2.1.typeIs ?_)
 rw[if_neg (by rw[h1];decide)]
 refine EW (W.self 0 _ _ _ Bo ?_)
 refine EW (Gu ?_)
 unfold Builtin.List.listLengthHint
 refine EW (G9 Bo.2.1.typeIs F.iz ?_)
 show wpAny _ A.in1 (specialOf (Value.ref I) (Str.ofString "__length_hint__") >>= _) _ _ _
 refine EW (G9 Bo.2.1.typeIs F.jX ?_)
 (generalize hid:("list_reverseiterator.__length_hint__":String)=Dk;wp_delta;rw[show splitId Dk=some ("list_reverseiterator","__length_hint__")from by subst hid;decide +kernel];subst hid)
 refine EW (wpAny_isInstance (b:=true) Bo.2.1.typeIs (by rw[isSubtype_type];kernel_rfl) ?_)
 refine E7 ?_
 rw[if_neg (by decide)]
 refine E7 ⟨plainId_quiet F.plain_extend_loop _,codeAny_extend_loopS W hn _ hSf _ items.size 0 _ _ _ rfl (FE _) Bo Ez (ItemsOf.nil _) fun s' acc' c' hm hS' hacc=>?_⟩
 show wpAny _ A (load s.heap.objs.size >>= _) _ _ s'
 refine EW (wpAny_load hS' ?_)
 have ea:acc'.toList=items.toList.reverse:=by
  obtain⟨hsz,hP⟩:=hacc
  apply List.ext_getElem?
  intro j
  by_cases hj:j < items.size
  ·have hj':j < acc'.size:=by rw[hsz];exact hj
   have q:=hP j acc'[j] (by simp[hj'])
   have e1:acc'.toList[j]?=some acc'[j]:=by simp[hj']
   rw[e1,List.getElem?_reverse (by simpa using hj)]
   simpa using q.symm
  ·rw[FQ (by simpa [hsz]using hj),FQ (by simpa using hj)]
 show wpAny _ A (pure acc'.toList) _ _ s'
 rw[ea]
 have:=hQ s'.heap s'.toks fun b o hb e=>hm.heap b o (fun z=>by
  rcases E1.mp z with z|z
  ·exact absurd (E5 e) (by rw[z];exact FO _)
  ·exact hb (E8.mp z)) (EY _ e)
 rw[hm.eq_with]
 exact E7 this
theorem wf(sep:Str):∀(l:List (Str×Tok)),tooLong ((l.map (·.1)).toArray.foldl (·+·.length+sep.length) 0)=false->Gives (joinTail sep (strValues l)) (joinMade sep l)
 |[],h=>gives_joinTail sep [] h
 |[p],h=>gives_joinTail sep [p] h
 |p::q::r,h=>gives_joinTail sep (p::q::r) h
def ou{sep:Str}{t:Tok}{I l:Addr}{ps:List (Str×Tok)}{Q:Vq}(hh:A.handled=none)(hl:s.heap.IsList l (strValues ps).toArray)(hit:s.heap.IsRevIter I l ((ps.length:Int) - 1))(hne:l≠I)(hn:ps.length<=sizeLine)
  (hz:JoinOk sep (ps.reverse.map (·.1))=true)
  (hQ:∀h' u tk,(∀b o,b≠I->s.heap.get? b=some o->h'.get? b=some o)->Q (.str (Txt.join sep (ps.reverse.map (·.1))) u) { s with heap:=h',toks:=tk }):wpAny (model prog w) A (call (.builtin "str.join") [.str sep t,.ref I]) Q E s:=by
 have hlen:(strValues ps).toArray.size=ps.length:=by simp[strValues]
 have Dq:(strValues ps).toArray.toList.reverse=strValues ps.reverse:=by simp[strValues]
 refine wpAny_call (codeAny_call_builtin F.slot_str_join.plain F.entry_str_join (F.slot_str_join.check _ _ _ _ _ _ _ _ (GJ _ _ _) (F.args_str_join_2 _ _) ?_))
 rw[join_tree_other]
 refine EW (GW hit.typeIs ?_)
 show wpAny _ A.in1 ((pyIter (.ref I)).tryCatch _ >>= fun it=>collect it >>= fun items=>joinTail sep items) _ _ s
 refine EW (wpAny_tryCatch (wpAny_pyIter_revIter hit ?_))
 refine EW (kb (A:=A.in1) hh hl (by rw[hlen];exact hit) hne (by rw[hlen];exact hn) fun h' tk hk=>?_)
 rw[Dq]
 unfold JoinOk at hz
 rw[Hu]at hz
 have g:=wf sep ps.reverse hz
 exact g prog w A (wants Q E) _ (post_join _ ⟨joinFit_length hz,fun t' k=>hQ h' t' k hk⟩)
end
end PySem
namespace L2
open PySem PySem.Spec PyProof.Rows
section
variable {X:Cx} {o e:Expr} {to te:TE} {p pos apos cpos:Pos}
def ow{ys:Vs}:∀{us:Vv},Vals (ys.map V.str) us->∃l:List (Str×Tok),us=strValues l/\l.map (·.1)=ys:=by
 induction ys with
 |nil=>intro us h;cases h;exact⟨[],rfl,rfl⟩
 |cons y r ih=>
  intro us h
  cases h with
  |cons a b=>
   obtain⟨t,rfl⟩:=a
   obtain⟨l,rfl,rfl⟩:=ih b
   exact⟨(y,t)::l,rfl,rfl⟩
def ug(K:Vo)(to te:TE):TE:=fun σ H Q=>to σ H fun x H1=>∃z:Str,x = .str z/\te σ H1 fun y H2=>∃(a:Addr) (ys:Vs),y = .ref a/\SqL K H2 a (ys.map V.str)/\(ys.map (·.length)).sum+ys.length * z.length<=1000000/\Q (.str (Txt.join z ys.reverse)) H2
def ox(hg:Gl X "reversed")(hm:X.mg "reversed" = none)(hc:X.calm=true)(ho:PE X o to)(he:PE X e te)(hs:starEach [e] X.env=[(false,eval e X.env)]:=by rfl)
  (hs2:starEach [.Call (.Name "reversed" p) [e] [] pos] X.env=[(false,eval (.Call (.Name "reversed" p) [e] [] pos) X.env)]:=by rfl)
  (hbase:attributeBase o "join" X.env (eval o X.env)=eval o X.env:=by rfl) (hline:(apos.endLine == cpos.line)=true:=by rfl) :
  PE X (.Call (.Attribute o "join" apos) [.Call (.Name "reversed" p) [e] [] pos] [] cpos) (ug X.K to te):=by
 intro pins s σ H Q I h
 refine GY hbase (by rw[hs2];rfl) hline rfl (yS (ho pins s σ H _ I h) fun v s1 ⟨x,H1,I1,r1,z,ex,q1⟩=>?_)
 subst ex
 obtain⟨h1,h2⟩:=i4 (T:="str") I1 r1 rfl
 obtain⟨tz,rfl⟩:=r1
 refine⟨"str","str.join",F.plainAttrs_str,F.slot_str_join,F.type_str_join,h1,h2,?_⟩
 rw[hs2]
 refine Gb rfl (Gz ?_)
 show wpAny _ _ (spliced ((false,eval (.Call (.Name "reversed" p) [e] [] pos) X.env)::backTo cpos [])) _ _ s1
 refine FT ?_
 refine F3 (cK I1 hg hm (u:=.type "reversed") boot_reversed ?_)
 refine Fz ?_ hs rfl
 rw[hs]
 show wpAny _ _ (spliced ((false,eval e X.env)::backTo pos [])) _ _ s1
 refine FT (yS (he pins s1 σ H1 _ I1 q1) fun u s2 ⟨y,H2,I2,r2,a,ys,ey,hx,hz,q⟩=>?_)
 subst ey
 cases r2
 obtain⟨its,rv,pl,hsz⟩:=I2.list hx
 obtain⟨l,rfl,rfl⟩:=ow rv
 refine F8 (call_reversed_list pl.isList ?_)
 have hlen:(strValues l).toArray.size=l.length:=by simp[strValues]
 have hne:a≠s2.heap.objs.size:=fun e=>by
  obtain⟨ob,hob,_⟩:=pl.isList
  have:=E5 hob
  rw[e]at this
  exact FO _ this
 refine F8 ?_
 have hit:(s2.heap.push (revObj a (((strValues l).toArray.size:Int) - 1))).IsRevIter s2.heap.objs.size a ((l.length:Int) - 1):=⟨_,Ff _ rfl,rfl,by
  show Data.fields #[.ref a,rawInt (((strValues l).toArray.size:Int) - 1)]=_
  rw[hlen]⟩
 refine Fj (show 1<=s2.toks from I2.tk) (ou (I2.ok.hd hc) (l:=a) (ps:=l) (s:={ s2 with heap:=s2.heap.push (revObj a (((strValues l).toArray.size:Int) - 1)) }) (pl.isList.at fun ob hob=>EY _ hob) hit hne (by simpa [strValues]using hsz) ?_ ?_)
 ·refine joinOk_of ?_
  rw[G4,G4,List.sum_reverse,Hj]
  omega
 ·intro h' u tk hk ht
  refine⟨.str _,H2,I2.kept (t':=tk) fun b ob e=>hk b ob (fun eb=>?_) (EY _ e),⟨u,rfl⟩,?_⟩
  ·have:=E5 e
   rw[eb]at this
   exact FO _ this
  ·rw[G4];exact q
end
end L2
namespace L3
open PySem PySem.Spec PyProof.Rows L2
section
variable {X:Cx} {o e:Expr} {to te:aJ} {p pos apos cpos:Pos}
def kZ(to te:aJ):aJ:=fun σ S Q E=>to σ S (fun x S1=>match x with
 | .str z=>te σ S1 (fun y S2=>match y with
  | .ref a=>(match S2 a with|some (.lst xs)=>(match texts xs with|some ys=>(ys.map (·.length)).sum+ys.length * z.length<=1000000/\Q (.str (Txt.join z ys.reverse)) S2|none=>False)|_=>False)
  |_=>False) E
 |_=>False) E
def qK(hs:starEach [e] X.env=[(false,eval e X.env)])(hc:X.calm=true)(hg:Gl X "reversed")(hm:X.mg "reversed" = none)(ho:aM X o to)(he:aM X e te)
  (hs2:starEach [.Call (.Name "reversed" p) [e] [] pos] X.env=[(false,eval (.Call (.Name "reversed" p) [e] [] pos) X.env)]:=by rfl)
  (hbase:attributeBase o "join" X.env (eval o X.env)=eval o X.env:=by rfl) (hline:(apos.endLine == cpos.line)=true:=by rfl) :
  aM X (.Call (.Attribute o "join" apos) [.Call (.Name "reversed" p) [e] [] pos] [] cpos) (kZ to te):=
 ⟨aE (ox hg hm hc ho.ok he.ok hs hs2 hbase hline) fun σ H Q ⟨σ3,S,Q3,E3,rσ,rS,h,xo,k⟩=>⟨σ3,S,_,E3,rσ,rS,h,xo,fun x S1 v H1 h1 rx yW g1=>by
  split at h1
  ·cases rx
   refine⟨_,rfl,σ3,S1,_,E3,rσ.mono g1,yW,h1,xo.mono g1,fun y S2 v2 H2 h2 ry Ag g2=>?_⟩
   split at h2
   ·cases ry
    split at h2
    ·rename_i ea
     split at h2
     ·rename_i et
      obtain⟨vs,hv,rs⟩:=Ag _ _ ea
      have e2:=cO rs et
      subst e2
      exact⟨_,_,rfl,SqL.of hv,h2.1,k _ S2 _ H2 h2.2 (.str _) Ag (g1.trans g2)⟩
     ·exact h2.elim
    ·exact h2.elim
   ·exact h2.elim
  ·exact h1.elim⟩⟩
end
end L3
namespace L2
open PySem PySem.Spec PyProof.Rows
noncomputable def wT(lo c:Int)(n:Nat):It:=⟨fun i _=>i < n,fun i H x H'=>H'=H/\x = .int (lo+i * c),fun i _=>n<=i⟩
def mE{P:Program}{w:World}{K:Vo}{tg:Expr}(it:Addr)(lo c:Int)(n:Nat):kB P w K tg (wT lo c n) [it] it (fun i h=>IsRangeIter h it (lo+(i:Nat) * c) ((n:Int) - (i:Nat)) c) where
 mem:=by simp
 obj:=fun i h st b hb=>by
  have e:b=it:=by simpa using hb
  subst e
  exact⟨_,st,fun v z=>by
   have z':Data.fields _=Data.cell v:=z
   cases z'⟩
 keep:=fun i h h' st k=>k it (by simp) _ st
 item:=by
  intro X hP hw hK hc i pins s σ H E I hf st hg
  subst hP hw hK
  obtain⟨f0,f1,f2,f3,f4,f5⟩:=hf it (by simp)
  have W:=Walks.range (prog:=X.prog) (w:=X.w) (I.ok.hd hc) it lo c n
  refine Fj I.tk (W.item i s _ _ hg st fun v h' tk hv st' kk ht=>?_)
  obtain⟨t,rfl⟩:=hv
  have I1:Inv X pins σ H { s with heap:=h',toks:=tk }:=I.turned (fun b o hb e=>kk b o (by simpa using hb) e) f0 f1 f3 f4 f5
  exact⟨_,rfl,jR (s:={ s with heap:=h',toks:=tk }) (n:="range_iterator") st' rfl rfl (by decide) ⟨.int (lo+i * c),H,I1,⟨t,rfl⟩,⟨rfl,rfl⟩,st',fun b hb=>(hf b hb).1⟩⟩
 done:=by
  intro X hP hw hK hc i pins s σ H E I hf st hg
  subst hP hw hK
  obtain⟨f0,f1,f2,f3,f4,f5⟩:=hf it (by simp)
  exact wpAny_pyNext_range_end (I.ok.hd hc) st (by have:n<=i:=hg;omega) fun h' eb=>⟨rfl,I.turned (t':=s.toks) (fun b o hb e=>eb b o hb e) f0 f1 f3 f4 f5⟩
 self:=fun _ _ _ _ _ st h=>wpAny_pyIter_rangeiter st h
section
variable {X:Cx} {tg:Expr}
def k0(a b c:Int)(n:Nat):Prop:=c≠0/\Builtin.Range.small a b c=true/\Builtin.Range.rangeSize a b c=n/\Builtin.divisionGoesByPylong (b - a) c=false
def qL{pins:Va}{σ:St}{H:Hp}{s:Shared}{R:It->Hp->Prop}{E:Vq}{lo hi c:Int}{n:Nat}{t u v:Tok}{tk:Nat}(I:Inv X pins σ H s)(ht:1<=tk)(ok:k0 lo hi c n)
  (q:R (wT lo c n) H):wpAny (model X.prog X.w) X.A (pyIter (.ref s.heap.objs.size)) (wJ X pins σ tg R) E { s with heap:=s.heap.push { cls:=.type "range",data:=.fields #[.int lo t,.int hi u,.int c v] },toks:=tk }:=by
 refine wpAny_pyIter_range (IsRange.new ..) ok.2.1 ?_
 have I1:Inv X pins σ H { s with heap:=s.heap.push { cls:=.type "range",data:=.fields #[.int lo t,.int hi u,.int c v] },toks:=tk }:=I.kept fun b o e=>EY _ e
 refine⟨(s.heap.push { cls:=.type "range",data:=.fields #[.int lo t,.int hi u,.int c v] }).objs.size,[(s.heap.push { cls:=.type "range",data:=.fields #[.int lo t,.int hi u,.int c v] }).objs.size],_,_,H,rfl,
  I1.kept (t':=tk) fun b o e=>EY _ e,mE _ lo c n,?_,fun b hb=>?_,q⟩
 ·have e1:lo+((0:Nat):Int) * c=lo:=by simp
  have e2:(n:Int) - ((0:Nat):Int)=Builtin.Range.rangeSize lo hi c:=by rw[ok.2.2.1];simp
  show IsRangeIter _ _ (lo+((0:Nat):Int) * c) ((n:Int) - ((0:Nat):Int)) c
  rw[e1,e2]
  exact Ff _ rfl
 ·have e:b=(s.heap.push { cls:=.type "range",data:=.fields #[.int lo t,.int hi u,.int c v] }).objs.size:=by simpa using hb
  subst e
  exact I1.A5 (EZ _) (I1.hok.fresh (EZ _))
def wg(ta:TA):TI:=fun σ H R=>ta σ H fun vs H1=>∃(i j c:Int) (n:Nat),vs=[.int i,.int j,.int c]/\k0 i j c n/\R (wT i c n) H1
def mF{a b c:Expr}{ta:TA}{p pos:Pos}(hg:Gl X "range")(hm:X.mg "range" = none)(ha:PA X [a,b,c] ta)(hs:starEach [a,b,c] X.env=[(false,eval a X.env),(false,eval b X.env),(false,eval c X.env)])(hs2:starEach [b,c] X.env=[(false,eval b X.env),(false,eval c X.env)]) :
  PI X tg (.Call (.Name "range" p) [a,b,c] [] pos) (wg ta):=by
 intro pins s σ H R I h
 refine Call_ (cK I hg hm boot_range (Fz (yS (ha pos pins s σ H _ I h) fun us s1 ⟨vs,H1,I1,r1,q1⟩=>?_) (by rw[hs,hs2]) (by rw[hs2];rfl)))
 obtain⟨i,j,k,n,e,ok,q⟩:=q1
 subst e
 cases r1 with
 |cons r rr=>
  cases rr with
  |cons r' rr=>
   cases rr with
   |cons r2 rr=>
    cases rr
    obtain⟨t,rfl⟩:=r
    obtain⟨t',rfl⟩:=r'
    obtain⟨t2,rfl⟩:=r2
    exact call_range_3 ok.1 (qL I1 (by walk_at "t") ok q) (.inl ok.2.2.2)
end
end L2
namespace L3
open PySem PySem.Spec PyProof.Rows L2
section
variable {X:Cx} {a b c tg:Expr} {ta tb tc:aJ} {p pos:Pos}
noncomputable def gG(lo c:Int)(n:Nat):List PV:=(List.range n).map fun(i:Nat)=>PV.int (lo+i * c)
def oy{K:Vo}{H0:Hp}{lo c:Int}{n:Nat}:gz K H0 (wT lo c n) ⟨gG lo c n,fun _=>True⟩:=by
 intro i S H g rS _
 refine⟨fun p hp=>?_,fun hi=>by show n<=i;rw[hi];simp[gG]⟩
 unfold gG at hp
 rw[Fv]at hp
 by_cases hi:i < n
 ·rw[Hl hi]at hp
  cases hp
  refine⟨hi,fun x H' ⟨e,h⟩=>?_⟩
  subst e h
  exact⟨.int _,rS,.refl⟩
 ·rw[FQ (by simpa using hi)]at hp
  cases hp
def uh(ta tb tc:aJ):oi:=fun σ S R E=>ta σ S (fun v S1=>tb σ S1 (fun w S2=>tc σ S2 (fun u S3=>match v,w,u with | .int i,.int j,.int c=>∃n,k0 i j c n/\R ⟨gG i c n,fun _=>True⟩ S3|_,_,_=>False) E) E) E
def oz(hs:starEach [a,b,c] X.env=[(false,eval a X.env),(false,eval b X.env),(false,eval c X.env)])(hs2:starEach [b,c] X.env=[(false,eval b X.env),(false,eval c X.env)])(hg:Gl X "range")(hm:X.mg "range" = none)(ha:iB X [a,b,c] [ta,tb,tc]):qE X tg (.Call (.Name "range" p) [a,b,c] [] pos) (uh ta tb tc):=
 ⟨jj (mF hg hm ha.ok hs hs2) fun σ H R ⟨σ3,S,R3,E3,rσ,rS,h,xo,k⟩=>⟨σ3,S,_,E3,rσ,rS,h,xo,fun v S1 v' H1 h1 rv yW g1=>⟨σ3,S1,_,E3,rσ.mono g1,yW,h1,xo.mono g1,fun w S2 w' H2 h2 rw' Ag g2=>⟨σ3,S2,_,E3,rσ.mono (g1.trans g2),Ag,h2,xo.mono (g1.trans g2),fun u S3 u' H3 h3 ru BK g3=>by
  split at h3
  ·cases rv;cases rw';cases ru
   obtain⟨n,ok,q⟩:=h3
   exact⟨_,_,_,n,rfl,ok,k _ S3 _ H3 q oy BK ((g1.trans g2).trans g3)⟩
  ·exact h3.elim⟩⟩⟩⟩
end
end L3
namespace T5
open PySem PySem.NumText
noncomputable def ak(l:List Nat):Str:=⟨l.toArray⟩
def eu(z:Str):ak z.cps.toList=z:=by obtain⟨⟨l⟩⟩:=z;rfl
def toL(l:List Nat):(ak l).cps.toList=l:=rfl
def yQ(l:List Nat):(ak l).length=l.length:=rfl
noncomputable def sp:List Nat->List (List Nat)
 |[]=>[[]]
 |c::r=>if c=47 then []::sp r else match sp r with
  |[]=>[[c]]
  |p::q=>(c::p)::q
theorem wj:∀l,sp l≠[]
 |[]=>by simp[sp]
 |c::r=>by
  unfold sp
  split
  ·simp
  ·split<;>simp
noncomputable def mG:List (List Nat)->List Nat
 |[]=>[]
 |[p]=>p
 |p::q=>p++47::mG q
def mH{p:List Nat}{q:List (List Nat)}(h:q≠[]):mG (p::q)=p++47::mG q:=by
 cases q with
 |nil=>exact absurd rfl h
 |cons a b=>rfl
theorem f9:∀(p:List Nat),47 ∉ p->sp p=[p]
 |[],_=>rfl
 |c::r,h=>by
  unfold sp
  rw[if_neg (fun e=>h (by rw[e];exact Fg)),f9 r fun z=>h (Fi _ z)]
theorem k4:∀(p r:List Nat),47 ∉ p->sp (p++47::r)=p::sp r
 |[],r,_=>by
  show sp (47::r)=_
  rw[sp,if_pos rfl]
 |c::p,r,h=>by
  show sp (c::(p++47::r))=_
  rw[sp,if_neg (fun e=>h (by rw[e];exact Fg)),k4 p r fun z=>h (Fi _ z)]
theorem lH:∀(P:List (List Nat)),P≠[]->(∀p∈P,47 ∉ p)->sp (mG P)=P
 |[],h,_=>absurd rfl h
 |[p],_,h=>f9 p (h p Fg)
 |p::a::q,_,h=>by
  rw[mH (by simp),k4 _ _ (h p Fg),lH (a::q) (by simp) fun x hx=>h x (Fi _ hx)]
def uk(l:List Nat):(sp l).length<=l.length+1:=by
 induction l with
 |nil=>simp[sp]
 |cons c r ih=>
  unfold sp
  split
  ·simpa using ih
  ·split
   ·simp
   ·rename_i e;rw[e]at ih;simp at ih ⊢;omega
theorem rX:∀(l:List Nat),∀p∈sp l,p.length<=l.length
 |[],p,h=>by rw[E8.mp h];simp
 |c::r,p,h=>by
  have ih:=rX r
  unfold sp at h
  split at h
  ·rcases E1.mp h with rfl|h
   ·simp
   ·have:=ih p h;simp;omega
  ·split at h
   ·rw[E8.mp h];simp
   ·rename_i a b e
    rw[e]at ih
    rcases E1.mp h with rfl|h
    ·have:=ih a Fg;simpa using this
    ·have:=ih p (Fi _ h);simp;omega
theorem iK:∀(P:Vs),(Str.join (ak [47]) P).cps.toList=mG (P.map fun z=>z.cps.toList)
 |[]=>rfl
 |[p]=>rfl
 |p::a::q=>by
  have ih:=iK (a::q)
  show(p++ak [47]++Str.join (ak [47]) (a::q)).cps.toList=p.cps.toList++47::mG ((a::q).map fun z=>z.cps.toList)
  rw[<-ih]
  show((p.cps++#[47])++(Str.join (ak [47]) (a::q)).cps).toList=_
  simp
def oA(z:Str):Txt.split z "/" = (sp z.cps.toList).map ak:=by
 have e0:("/":Str)=ak [47]:=rfl
 have h1:=PySem.StrLaws.join_split z (ak [47])
 have h2:=GD z 47
 have h3:=PyProof.Rows.split_pos z (ak [47])
 rw[e0]
 have e:(ak [47]:Str)=⟨#[47]⟩:=rfl
 rw[<-e]at h2
 generalize Txt.split z (ak [47])=P at *
 have h4:=iK P
 rw[h1]at h4
 rw[h4,lH _ (by intro z;have:=FA List.length z;simp at this;rw[this]at h3;simp at h3) (by intro p hp;obtain⟨y,hy,rfl⟩:=Fq.mp hp;exact h2 y hy),Fy]
 conv=>lhs;rw[<-G7 P]
 exact Hq fun y _=>(eu y).symm
noncomputable def dn(m:Nat):List Nat:=(Nat.toDigits 10 m).map Char.toNat
noncomputable def num(n:Int):List Nat:=(PySem.Str.ofString (toString n)).cps.toList
def bG(m:Nat):num (m:Int)=dn m:=PySem.W.KIN.signs_num m
def jq(m:Nat)(h:0 < m):num (-(m:Int))=45::dn m:=by
 obtain⟨k,rfl⟩:∃k,m=k+1:=⟨m - 1,by omega⟩
 unfold num
 rw[show -((k+1:Nat):Int)=Int.negSucc k from rfl,PyProof.Rows.signs_ofString]
 show("-" ++ Nat.repr (k+1)).toList.map Char.toNat=_
 rw[String.toList_append,List.map_append,Nat.toList_repr]
 rfl
def Ac{m:Nat}(h:m < 10):dn m=[48+m]:=by
 unfold dn
 rw[Nat.toDigits_of_lt_base h]
 show[(Nat.digitChar m).toNat]=_
 have:∀d:Nat,d < 10->(Nat.digitChar d).toNat=48+d:=by decide
 rw[this m h]
def lI{m:Nat}(h:10<=m):dn m=dn (m / 10)++[48+m % 10]:=by
 have hm:m % 10 < 10:=Nat.mod_lt m (by decide)
 have t:Nat.toDigits 10 (m / 10)++Nat.toDigits 10 (m % 10)=Nat.toDigits 10 (10 * (m / 10)+m % 10):=Nat.toDigits_append_toDigits (by decide) (by omega) hm
 rw[Nat.div_add_mod]at t
 rw[<-Ac hm]
 unfold dn
 rw[<-t,List.map_append]
def fh(m:Nat):AllDigits (dn m):=by
 induction m using Nat.strongRecOn with
 |_ m ih=>
  by_cases h:m < 10
  ·rw[Ac h];intro c hc;rw[E8.mp hc];omega
  ·rw[lI (by omega)]
   intro c hc
   rcases Fe.mp hc with hc|hc
   ·exact ih (m / 10) (by omega) c hc
   ·rw[E8.mp hc];omega
def rY(m:Nat):dn m≠[]:=by
 by_cases h:m < 10
 ·rw[Ac h];simp
 ·rw[lI (by omega)];simp
def ul(m:Nat):digitsVal (dn m)=m:=PySem.W.KIN.val_back m
def oB{k:Nat}:∀{m:Nat},m < 10 ^ (k+1)->(dn m).length<=k+1:=by
 induction k with
 |zero=>intro m h;rw[Ac (by simpa using h)];simp
 |succ k ih=>
  intro m h
  by_cases h9:m < 10
  ·rw[Ac h9];simp
  ·rw[lI (by omega),EX]
   have:=ih (m:=m / 10) (by rw[Nat.pow_succ]at h;omega)
   simp;omega
def qM(m:Nat)(h:0 < m):∀r,dn m≠48::r:=by
 induction m using Nat.strongRecOn with
 |_ m ih=>
  intro r e
  by_cases h9:m < 10
  ·rw[Ac h9]at e
   have:=(Gv e).1
   omega
  ·rw[lI (by omega)]at e
   cases ed:dn (m / 10)with
   |nil=>exact rY _ ed
   |cons a b=>
    rw[ed]at e
    have:=(Gv e).1
    exact ih (m / 10) (by omega) (by omega) b (by rw[ed,this])
def kc(l:List Nat):Prop:=∀r,l=48::r->r=[]
def oC(m:Nat):kc (dn m):=by
 intro r e
 by_cases h:0 < m
 ·exact absurd e (qM m h r)
 ·have:m=0:=by omega
  subst this
  rw[Ac (by decide)]at e
  exact((Gv e).2).symm
def um(l:List Nat):Prop:=l≠[]/\AllDigits l
open Classical in
noncomputable def rf(l:List Nat):Option Nat:=if um l/\kc l then some (digitsVal l) else none
noncomputable def rn(l:List Nat):Option (Nat×Nat):=match sp l with
 |[a]=>(match rf a with|some t=>some (t,1)|none=>none)
 |[a,b]=>(match rf a,rf b with|some t,some u=>if u < 2\/Nat.gcd t u≠1 then none else some (t,u)|_,_=>none)
 |_=>none
noncomputable def txt(f:Int×Int):List Nat:=if f.2=1 then num f.1 else num f.1++47::num f.2
open Classical in
def lJ{l:List Nat}(h:um l)(c:kc l):rf l=some (digitsVal l):=if_pos ⟨h,c⟩
def jr{l:List Nat}(h:¬(um l/\kc l)):rf l=none:=if_neg h
def wk(v:Nat):um (dn v):=⟨rY v,fh v⟩
def oD(v:Nat):rf (dn v)=some v:=by rw[lJ (wk v) (oC v),ul]
end T5
namespace T5
open PySem PySem.NumText PySem.Builtin PySem.Builtin.Str
def oE(l:List Nat)(h:l.length=60):Txt.slice (ak l) (some 0) (some 60)=ak l:=by
 rw[show Txt.slice (ak l) (some 0) (some 60)=StrLaws.sliceText (ak l) (some ((0:Nat):Int)) (some ((60:Nat):Int))from rfl,StrLaws.sliceText_nat _ (by decide) (by rw[yQ,h];exact EZ _),toL]
 show ak ((l.drop 0).take 60)=_
 rw[List.drop_zero,List.take_of_length_le (by omega)]
noncomputable def mI(l:List Nat):List Nat:=List.replicate (60 - l.length) 48++l
def dW{l:List Nat}(h:l.length<=60):(mI l).length=60:=by unfold mI;simp;omega
def zf{l:List Nat}(h:um l)(hl:l.length<=60):Txt.zfill (ak l) 60=ak (mI l):=by
 unfold Txt.zfill
 rw[yQ]
 by_cases h6:(60:Int)<=(l.length:Int)
 ·rw[if_pos h6]
  unfold mI
  rw[show 60 - l.length=0 by omega]
  rfl
 ·rw[if_neg h6]
  obtain⟨hne,hd⟩:=h
  cases l with
  |nil=>exact absurd rfl hne
  |cons c r=>
   have hc:=hd c (by simp)
   unfold zfilled
   have e:(ak (c::r)).cps[0]?=some c:=by simp[ak]
   rw[e]
   have:padded (ak (c::r)) ((60:Int).toNat - (c::r).length) 0 48=ak (mI (c::r)):=by
    unfold padded mI ak
    apply Str.ext'
    apply Array.toList_inj.mp
    simp
   rw[<-this]
   split
   ·rename_i e2;cases e2;omega
   ·rename_i e2;cases e2;omega
   ·rfl
def qN(l:List Nat):digitsVal (mI l)=digitsVal l:=by
 unfold mI digitsVal
 rw[List.foldl_append]
 have:∀k:Nat,(List.replicate k 48).foldl (fun acc c=>acc * 10+(c - 48)) 0=0:=by
  intro k
  induction k with
  |zero=>rfl
  |succ k ih=>rw[FZ,List.foldl_cons];exact ih
 rw[this]
def qO{l:List Nat}(h:um l)(hl:l.length<=60):intText? (ak (mI l))=some (digitsVal l:Int):=by
 have hd:AllDigits (mI l):=by
  intro c hc
  unfold mI at hc
  rcases Fe.mp hc with hc|hc
  ·rw[List.eq_of_mem_replicate hc];omega
  ·exact h.2 c hc
 rw[intText_digits (x:=ak (mI l)) hd (by rw[toL];intro e;have:=dW hl;rw[e]at this;cases this) (by rw[yQ,dW hl];decide),toL,qN]
end T5
namespace C
open PySem L2 L3
end C
namespace L2
open PySem PySem.Spec PyProof.Rows
end L2
namespace L3
open PySem L2
end L3
namespace C
open PySem L2 L3
end C
namespace L3
open PySem L2 Xc
end L3
namespace L2
open PySem PySem.Spec PyProof.Rows Xc
end L2
namespace L3
open PySem L2 Xc
end L3
namespace L2
open PySem PySem.Spec PyProof.Rows
end L2
namespace L3
open PySem L2
end L3
namespace CY
open PySem L2 L3
end CY
namespace L3
open PySem L2
section
variable {X:Cx}
def cH:iC:=fun ps S Q=>match ps with
 |[.int i]=>i.natAbs.log2 < 1920/\Q (.str (toString i)) S
 |[.str z]=>(reprText z).length<=sizeLine/\Q (.str (reprText z)) S
 |ps=>j5 ps S Q
def dz(hu:X.A.units+150 < cLine)(hg:X.A.guards=some []):bS X (.builtin "repr") cH:=⟨fun pins s σ H xs us Q I r ⟨ps,S,Q3,rp,rS,q,k⟩=>by
 unfold cH at q
 split at q
 ·rename_i i
  cases rp with
  |cons a rr=>
   cases rr
   cases r with
   |cons r1 r2=>
    cases r2;cases a
    obtain⟨t,rfl⟩:=r1
    exact P.repr_of_int q.1 ⟨.str _,H,I.kept (t':=s.toks+1) (h':=s.heap) (fun _ _ e=>e),⟨_,rfl⟩,k _ S _ H q.2 (.str _) rS .refl⟩
 ·rename_i z
  cases rp with
  |cons a rr=>
   cases rr
   cases r with
   |cons r1 r2=>
    cases r2;cases a
    obtain⟨t,rfl⟩:=r1
    exact P.repr_of_str ⟨.str _,H,I.kept (t':=s.toks+1) (h':=s.heap) (fun _ _ e=>e),⟨_,rfl⟩,k _ S _ H q.2 (.str _) rS .refl⟩ q.1
 ·exact(t0 hu hg).ok pins s σ H xs us Q I r ⟨ps,S,Q3,rp,rS,q,k⟩⟩
end
end L3
namespace L2
open PySem PySem.Spec PyProof.Rows
def uo(K:Vo)(a:Addr)(zs:Vs):Prop:=∃(o:Obj) (its:Vw) (n:Nat),K.lookup a=some o/\o.cls = .type "tuple"/\o.dict=none/\o.data = .seq its n/\its.size<=sizeLine/\Vals (zs.map V.str) its.toList
inductive BM (K:Vo):List (aL×V)->List (Str×List Str)->Prop
 |nil:BM K [] []
 |cons {z:Str} {b:Addr} {zs:Vs} {kvs:List (aL×V)} {fs:List (Str×List Str)} (h:uo K b zs) (t:BM K kvs fs):BM K ((.inr z,.ref b)::kvs) ((z,zs)::fs)
def KF(P:Program)(w:World)(K:Vo)(a:Addr)(fs:List (Str×List Str)):Prop:=∃kvs,KD P w K a kvs/\BM K kvs fs
noncomputable def ke:List (Str×List Str)->Str->Option (List Str)
 |[],_=>none
 |(k,v)::r,z=>if k=z then some v else ke r z
theorem BM.at_{K:Vo}{z:Str}:∀{kvs:List (aL×V)} {fs:List (Str×List Str)},BM K kvs fs->(match ke fs z with|some zs=>∃b,cM kvs (.inr z)=some (.ref b)/\uo K b zs|none=>cM kvs (.inr z)=none)
 |_,_,.nil=>rfl
 |_,_,.cons (z:=k) h t=>by
  unfold ke
  by_cases e:k=z
  ·subst e
   rw[if_pos rfl]
   exact⟨_,zk rfl,h⟩
  ·rw[if_neg e]
   have ih:=t.at_ (z:=z)
   rw[zl (by intro q;cases q;exact e rfl)]
   exact ih
section
variable {X:Cx} {a:Addr} {kvs:List (aL×V)}
def lK{pins:Va}{σ:St}{H:Hp}{s:Shared}(hD:KD X.prog X.w X.K a kvs)(I:Inv X pins σ H s):∃vs,KV kvs vs/\s.heap.DictOf (aA X.prog X.w) a vs:=by
 obtain⟨_,o,vs,hk,rel,ii⟩:=hD
 exact⟨vs,rel,Heap.dictOf_iff.mpr ⟨o,I.Bw a o hk,ii⟩⟩
def xR(hD:KD X.prog X.w X.K a kvs):tq X (fun x y H Q=>∃k v,x = .ref a/\y=kV k/\cM kvs k=some v/\Q v H):=by
 intro value slice pins s σ H x y v u Q I rx ry h hs
 obtain⟨k,z,rfl,rfl,g,q⟩:=h
 cases rx
 obtain⟨vs,rel,dd⟩:=lK hD I
 obtain⟨w',hw,rw'⟩:=RelO.some_of (v:=z) (o:=valueAt vs k) (by rw[<-g];exact rel.val k)
 exact tail_any dd.typeIs PySem.F.slot_dict_getitem.lookup (wpAny_getItem_of (eI ry) dd.mapOf hw ⟨z,H,I.tok _,rw',q⟩) hs
def mJ(hD:KD X.prog X.w X.K a kvs):eZ X (compareOp .NotIn) (fun x y H Q=>∃k,x=kV k/\y = .ref a/\Q (.bl (!(cM kvs k).isSome)) H):=by
 intro pins s σ H x y v u Q I rx ry h
 obtain⟨k,rfl,rfl,q⟩:=h
 cases ry
 obtain⟨vs,rel,dd⟩:=lK hD I
 refine wpAny_notIn_of (eI rx) hD.1 dd.mapOf ?_
 rw[<-(rel.val k).zj]
 exact⟨.bl _,H,I.tok _,rfl,q⟩
end
end L2
namespace L3
open PySem PySem.Spec PyProof.Rows L2
section
variable {X:Cx} {x:Str} {e:Expr} {te:aJ} {p pos:Pos} {j:Nat}
def yF{zs:Vs}(h:∃a,X.mg x=some (.ref a)/\uo X.K a zs)(hg:Gl X x:=by rfl)(hd:(x == ("__debug__":Str))=false:=by decide):aM X (.Name x pos) (c3 (.tup (zs.map PV.str))):=
 let ⟨a,h1,h2⟩:=h
 ⟨aE (fY (v:=.ref a) hg h1 rfl hd) fun σ H Q ⟨σ3,S,Q3,E3,rσ,rS,h,xo,k⟩=>k _ S _ H h (.tup (vs:=zs.map V.str) (.inr h2) (dU zs)) rS .refl⟩
def oF(fs:List (Str×List Str))(te:aJ):aJ:=fun σ S Q E=>te σ S (fun y S1=>match y with | .str z=>(match ke fs z with|some zs=>Q (.tup (zs.map PV.str)) S1|none=>False)|_=>False) E
def yG{fs:List (Str×List Str)}(h:∃a,X.mg x=some (.ref a)/\KF X.prog X.w X.K a fs)(he:aM X e te)(hs:eG e)(hg:Gl X x:=by rfl)(hd:(x == ("__debug__":Str))=false:=by decide):aM X (.Subscript (.Name x p) e pos) (oF fs te):=
 let ⟨a,h1,kvs,h2,h3⟩:=h
 ⟨aE (rF (xR h2) (fY (v:=.ref a) hg h1 rfl hd) he.ok hs) fun σ H Q ⟨σ3,S,Q3,E3,rσ,rS,h,xo,k⟩=>⟨σ3,S,_,E3,rσ,rS,h,xo,fun y S1 v H1 q rv yW g1=>by
  split at q
  ·rename_i z
   cases rv
   have hz:=h3.at_ (z:=z)
   split at q
   ·rename_i zs ez
    rw[ez]at hz
    obtain⟨b,e1,e2⟩:=hz
    exact⟨.inr z,_,rfl,rfl,e1,k _ S1 _ H1 q (.tup (vs:=zs.map V.str) (.inr e2) (dU zs)) yW g1⟩
   ·exact q.elim
  ·exact q.elim⟩⟩
def oG(fs:List (Str×List Str))(te:aJ):aJ:=fun σ S Q E=>te σ S (fun y S1=>match y with | .str z=>Q (.bl (!(ke fs z).isSome)) S1|_=>False) E
end
end L3
namespace L2
open PySem PySem.Spec PyProof.Rows
section
variable {X:Cx} {o:Expr} {to:TE} {a b:Str} {k1 k2:Nat} {p1 p2 apos cpos:Pos}
def wm(a b:Str)(to:TE):TE:=fun σ H Q=>to σ H fun x H1=>∃z,x = .str z/\z.length+(z.length+1) * b.length<=16777216/\Q (.str (Txt.replace z a b)) H1
def qP(ho:PE X o to)(hab:(a == b)=false)
  (hbase:attributeBase o "replace" X.env (eval o X.env)=eval o X.env:=by rfl)
  (hfew:((backTo cpos (starEach [.Constant (.str a) k1 p1,.Constant (.str b) k2 p2] X.env)).all (fun x=>!x.1)&&(backToKw cpos (keywordEach [] X.env)).all (fun x=>x.1.isSome)
   && decide (([.Constant (.str a) k1 p1,.Constant (.str b) k2 p2]:List Expr).length+([]:List Keyword).length+(if ([]:List Keyword).isEmpty then 0 else 1) < 30))=true:=by rfl)
  (hline:(apos.endLine == cpos.line)=true:=by rfl)
  (hs:starEach [.Constant (.str a) k1 p1,.Constant (.str b) k2 p2] X.env=[(false,eval (.Constant (.str a) k1 p1) X.env),(false,eval (.Constant (.str b) k2 p2) X.env)]:=by rfl)
  (hb2:backTo cpos [(false,eval (.Constant (.str a) k1 p1) X.env),(false,eval (.Constant (.str b) k2 p2) X.env)]=[(false,eval (.Constant (.str a) k1 p1) X.env),(false,eval (.Constant (.str b) k2 p2) X.env)]:=by rfl) :
  PE X (.Call (.Attribute o "replace" apos) [.Constant (.str a) k1 p1,.Constant (.str b) k2 p2] [] cpos) (wm a b to):=by
 intro pins s σ H Q I h
 refine GY hbase hfew hline rfl (yS (ho pins s σ H _ I h) fun v s1 ⟨x,H1,I1,r1,z,ez,hz,q1⟩=>?_)
 subst ez
 obtain⟨h1,h2⟩:=i4 (T:="str") I1 r1 rfl
 obtain⟨t,rfl⟩:=r1
 refine⟨"str","str.replace",Gq,PySem.F.slot_str_replace,PySem.F.type_str_replace,h1,h2,?_⟩
 have tk:=I1.tk
 rw[hs,hb2]
 refine Gb rfl (Gz ?_)
 refine FT (Calls.Constant_str (FT (Calls.Constant_str (F8 ?_))))
 have I2:Inv X pins σ H1 { s1 with toks:=s1.toks+1+1 }:=I1.tok _
 refine Fj I2.tk (SC.replace (Hx tk) (Nat.succ_ne_zero _) (Ft (Nat.lt_succ_self _)) hab hz fun t' k ht=>?_)
 exact⟨.str _,H1,I2.tok k ht,⟨t',rfl⟩,q1⟩
end
end L2
namespace L3
open PySem PySem.Spec PyProof.Rows L2
section
variable {X:Cx} {o:Expr} {to:aJ} {a b:Str} {k1 k2:Nat} {p1 p2 apos cpos:Pos}
def lL(a b:Str)(to:aJ):aJ:=fun σ S Q E=>to σ S (fun x S1=>match x with | .str z=>z.length+(z.length+1) * b.length<=16777216/\Q (.str (Txt.replace z a b)) S1|_=>False) E
def oH(ho:aM X o to)(hab:(a == b)=false:=by decide +kernel)
  (hbase:attributeBase o "replace" X.env (eval o X.env)=eval o X.env:=by rfl)
  (hfew:((backTo cpos (starEach [.Constant (.str a) k1 p1,.Constant (.str b) k2 p2] X.env)).all (fun x=>!x.1)&&(backToKw cpos (keywordEach [] X.env)).all (fun x=>x.1.isSome)
   && decide (([.Constant (.str a) k1 p1,.Constant (.str b) k2 p2]:List Expr).length+([]:List Keyword).length+(if ([]:List Keyword).isEmpty then 0 else 1) < 30))=true:=by rfl)
  (hline:(apos.endLine == cpos.line)=true:=by rfl):aM X (.Call (.Attribute o "replace" apos) [.Constant (.str a) k1 p1,.Constant (.str b) k2 p2] [] cpos) (lL a b to):=
 ⟨aE (qP ho.ok hab hbase hfew hline) fun σ H Q ⟨σ3,S,Q3,E3,rσ,rS,h,xo,k⟩=>⟨σ3,S,_,E3,rσ,rS,h,xo,fun x S1 v H1 h1 rx yW g1=>by
  split at h1
  ·cases rx
   exact⟨_,rfl,h1.1,k _ S1 _ H1 h1.2 (.str _) yW g1⟩
  ·exact h1.elim⟩⟩
end
end L3
namespace L2
open PySem PySem.Spec PyProof.Rows
def oI{X:Cx}:tt X "str.join" (fun x vs H Q=>∃sep p ys,x = .str sep/\vs=[.ref p]/\z7 X.K H p (ys.map V.str)/\(ys.map (·.length)).sum+ys.length * sep.length<=1000000/\Q (.str (Txt.join sep ys)) H):=by
 intro pins s σ H x vs v us Q I rx rv h
 obtain⟨sep,p,ys,rfl,rfl,hp,hz,q⟩:=h
 obtain⟨t,rfl⟩:=rx
 obtain⟨u,rfl,ru⟩:=bV rv
 cases ru
 obtain⟨its,r,pl,_⟩:=I.tuple hp
 exact Fj I.tk (join_tuple pl (by simpa using ly r) (by omega) fun t' k ht=>⟨.str _,H,I.tok k ht,⟨t',rfl⟩,q⟩)
end L2
namespace L3
open PySem PySem.Spec PyProof.Rows L2
def fi:m8:=fun x ps S Q=>match x,ps with
 | .str z,[.tup xs]=>(match texts xs with|some ys=>(ys.map (·.length)).sum+ys.length * z.length<=1000000/\Q (.str (Txt.join z ys)) S|none=>False)
 |_,_=>False
def lM{X:Cx}:pK X "str.join" fi:=⟨fun pins s σ H x xs v us Q I rx rs ⟨px,ps,S,Q3,r1,rp,rS,q,k⟩=>by
 unfold fi at q
 split at q
 ·split at q
  ·rename_i et
   cases r1
   cases rp with
   |cons b rr=>
    cases rr
    cases b with
    |tup hq rl=>
     have e2:=cO rl et
     subst e2
     exact oI pins s σ H _ _ v us Q I rx rs ⟨_,_,_,rfl,rfl,hq,q.1,k _ S _ H q.2 (.str _) rS .refl⟩
  ·exact q.elim
 ·exact q.elim⟩
def uq(tb:bc):bc:=fun D σ S=>tb { D with ex:=ff } σ S
def yH{X:Cx}{body:List Stmt}{h₀:ExceptHandler}{pos:Pos}{tb:bc}(hb:∀E pins,PassesOwn (model X.prog X.w) X.A X.env E->fT (X.tr E pins) body tb):kO X (.Try body [h₀] [] [] pos) (uq tb):=
 ⟨bW (tR (tb:=fun E pins=>LS (X.tr E pins) tb) fun E pins hp=>(hb E pins hp).ok) fun D σ H ⟨σ3,S,D3,rσ,rS,h,xo,nx,rt,bk,ct⟩ pins=>⟨σ3,S,_,rσ,rS,h,.no,nx,rt,bk,ct⟩⟩
def xS{X:Cx}{x:Str}{e:Expr}{te:aJ}{p pos:Pos}{fs:List (Str×List Str)}(h:∃a,X.mg x=some (.ref a)/\KF X.prog X.w X.K a fs)(he:aM X e te)(hg:Gl X x:=by rfl)(hm:behindInMarks .NotIn (.Name x p)=false:=by rfl)(hd:(x == ("__debug__":Str))=false:=by decide):kN X (.Compare e [.NotIn] [.Name x p] pos) (aT (oG fs te)):=
 let ⟨a,h1,kvs,h2,h3⟩:=h
 ⟨ja (lr (mJ h2) he.ok (fY (v:=.ref a) hg h1 rfl hd) hm) fun σ H Q ⟨σ3,S,Q3,E3,rσ,rS,h,xo,k⟩=>⟨σ3,S,_,E3,rσ,rS,h,xo,fun y S1 v H1 q rv yW g1=>by
  dsimp only at q
  split at q
  ·rename_i z
   cases rv
   have hz:=h3.at_ (z:=z)
   refine⟨.inr z,rfl,rfl,_,rfl,k _ S1 H1 ?_ yW g1⟩
   cases ez:ke fs z with
   |none=>rw[ez]at hz q;rw[hz];exact q
   |some zs=>rw[ez]at hz q;obtain⟨b,e1,_⟩:=hz;rw[e1];exact q
  ·exact q.elim⟩⟩
def oJ:iC:=fun ps S Q=>match ps with
 |[.str z]=>Q (.str z) S
 |ps=>cD ps S Q
def wn{X:Cx}:bS X (.type "str") oJ:=⟨fun pins s σ H xs us Q I r ⟨ps,S,Q3,rp,rS,q,k⟩=>by
 unfold oJ at q
 split at q
 ·cases rp with
  |cons a rr=>
   cases rr;cases a
   obtain⟨u,rfl,t,rfl⟩:=bV r
   exact PySem.P.str_of_str ⟨.str _,H,I,⟨t,rfl⟩,k _ S _ H q (.str _) rS .refl⟩
 ·exact Ay.ok pins s σ H xs us Q I r ⟨_,S,Q3,rp,rS,q,k⟩⟩
end L3
namespace L3
open PySem L2
theorem kg:∀{a b:List Char},a.map Char.toNat=b.map Char.toNat->a=b
 |[],[],_=>rfl
 |[],_::_,h=>by simp at h
 |_::_,[],h=>by simp at h
 |x::a,y::b,h=>by
  simp only[EV,List.cons.injEq]at h
  rw[kg h.2,Char.toNat_inj.mp h.1]
def aP{a b:String}:(Str.ofString a=Str.ofString b)↔a=b:=by
 refine⟨fun h=>?_,fun h=>by rw[h]⟩
 rw[Str.ofString_eq_toList,Str.ofString_eq_toList]at h
 have h':a.toList.map Char.toNat=b.toList.map Char.toNat:=by
  have:=FA (fun s:Str=>s.cps.toList) h
  simpa using this
 exact String.toList_inj.mp (kg h')
def sS{a b:String}:((Sum.inr (Str.ofString a):aL)=Sum.inr (Str.ofString b))↔a=b:=by
 rw[Sum.inr.injEq,aP]
def ur{i j:Int}(h1:-(2 ^ 64) < i)(h2:i < 2 ^ 64):IntMulOk i j:=(show BI i j from .inl ⟨h1,h2⟩).ok
def qQ{i j:Int}(h1:-(2 ^ 64) < j)(h2:j < 2 ^ 64):IntMulOk i j:=(show BI i j from .inr ⟨h1,h2⟩).ok
def fK{i j:Int}(h:0<=j):i.fmod j=i % j:=Int.fmod_eq_emod_of_nonneg i h
def wo{i j:Int}(h:0<=j):i.fdiv j=i / j:=Int.fdiv_eq_ediv_of_nonneg i h
def xT{i j:Int}(h:0 < j)(h2:j < 2 ^ 64):j3 i j:=⟨by omega,Hr (show j.natAbs < 2 ^ 64 by omega) (G8 (by decide) (by decide))⟩
def zO(d l:Addr)(S S':ap):Prop:=∀a o,S a=some o->a≠d->a≠l->S' a=some o
def zO.refl{d l:Addr}{S:ap}:zO d l S S:=fun _ _ h _ _=>h
def zO.trans{d l:Addr}{S S1 S2:ap}(a:zO d l S S1)(b:zO d l S1 S2):zO d l S S2:=fun x o h h1 h2=>b x o (a x o h h1 h2) h1 h2
def zO.upd{d l:Addr}{S:ap}{o:SO}:zO d l S (yO S d o):=fun x u h h1 h2=>by rw[ao h1];exact h
def zO.EA{d l:Addr}{S:ap}{o:SO}:zO d l S (yO S l o):=fun x u h h1 h2=>by rw[ao h2];exact h
def zO.new{d l p:Addr}{S:ap}{o:SO}(h:S p=none):zO d l S (yO S p o):=fun x u hx h1 h2=>by rw[ao (fun e=>by rw[e,h]at hx;cases hx)];exact hx
end L3
local macro_rules | `(tactic| walk_at "x")=>`(tactic| ((try dsimp only [L3.ae,L3.aq,L3.aG,L3.a3,L3.bu,L3.aQ,L3.aj,L3.v3,L3.c3,L3.lk,L3.am,L3.ah,L3.ad,L3.bI,L3.aT,L3.ms,L3.jb,L3.mv,L3.eK,L3.kX,L3.my,L3.bA,L3.bM,L3.tU,L3.kP,L3.aw,L3.jf,L3.aY,L3.kS,L3.jg,L3.gv,L3.eL,L3.d8,L3.bw,L3.d3,L3.fI,L3.gC,L3.mC,L3.qJ,L3.va,L3.bL,L3.aF,L3.fU,L3.bt,L3.kU,L3.gw,L3.iD,L3.a6,L3.je,List.set_cons_zero,List.set_cons_succ,List.set_nil,L3.f7,L3.fe,L3.mx,L3.a9,L3.aX,L3.c_,L3.du,L3.fV,L3.Tg.put,L3.Tg.zH,L3.j8,L3.fg,L3.j9,L3.j6,L3.mz,L3.aD,List.reduceReplicate,List.map_cons,List.map_nil,List.cons_append,List.nil_append]); (try simp only [L3.ae,L3.aq,L3.aG,L3.a3,L3.bu,L3.aQ,L3.aj,L3.v3,L3.c3,L3.lk,L3.am,L3.ah,L3.ad,L3.bI,L3.aT,L3.ms,L3.jb,L3.mv,L3.eK,L3.kX,L3.my,L3.bA,L3.bM,L3.tU,L3.kP,L3.aw,L3.jf,L3.aY,L3.kS,L3.jg,L3.gv,L3.eL,L3.d8,L3.bw,L3.d3,L3.fI,L3.gC,L3.mC,L3.qJ,L3.va,L3.bL,L3.aF,L3.fU,L3.bt,L3.kU,L3.gw,L3.iD,L3.a6,L3.je,List.set_cons_zero,List.set_cons_succ,List.set_nil,L3.f7,L3.fe,L3.mx,L3.a9,L3.aX,L3.c_,L3.du,L3.fV,L3.Tg.put,L3.Tg.zH,L3.j8,L3.fg,L3.j9,L3.j6,L3.mz,L3.aD,List.reduceReplicate,EV,Fo,List.cons_append,List.nil_append])))
namespace C
open PySem L2 L3
noncomputable def a_(seed number:Int)(l:Addr):List (aL×PV):=[(Sum.inr "seed",.int seed),(Sum.inr "number",.int number),(Sum.inr "left",.ref l)]
structure Aj (S:ap) (d l:Addr) (seed number:Int) (left:Vu):Prop where
 d:S d=some (.dct (a_ seed number l))
 l:S l=some (.lst (left.map PV.int))
 s0:0<=seed
 s1:seed < 2147483647
 nm:0<=number
 lf:∀x∈left,0<=x
 ln:left.length<=100
def zd(S:ap)(d l:Addr):Prop:=∃seed number left,Aj S d l seed number left
def Aj.ne{S:ap}{d l:Addr}{seed number:Int}{left:Vu}(D:Aj S d l seed number left):d≠l:=fun e=>by
 have h:=D.d
 rw[e,D.l]at h
 cases h
def zd.new{S:ap}{d l p:Addr}{o:SO}(D:zd S d l)(h:S p=none):zd (yO S p o) d l:=by
 obtain⟨s,n,f,D⟩:=D
 refine⟨s,n,f,?_,?_,D.s0,D.s1,D.nm,D.lf,D.ln⟩
 ·rw[ao (fun e=>by have:=D.d;rw[e,h]at this;cases this)];exact D.d
 ·rw[ao (fun e=>by have:=D.l;rw[e,h]at this;cases this)];exact D.l
def zd.upd{S:ap}{d l p:Addr}{o:SO}(D:zd S d l)(h1:p≠d)(h2:p≠l):zd (yO S p o) d l:=by
 obtain⟨s,n,f,D⟩:=D
 exact⟨s,n,f,by rw[ao h1.symm];exact D.d,by rw[ao h2.symm];exact D.l,D.s0,D.s1,D.nm,D.lf,D.ln⟩
def zd.free{S:ap}{d l p:Addr}(D:zd S d l)(h:S p=none):p≠d/\p≠l:=by
 obtain⟨s,n,f,D⟩:=D
 exact⟨(fun e=>by have:=D.d;rw[<-e,h]at this;cases this),(fun e=>by have:=D.l;rw[<-e,h]at this;cases this)⟩
def gH(s n m:Int)(l:Addr):ji (a_ s n l) (Sum.inr "number") (.int m)=a_ s m l:=by
 simp[ji,a_,sS,aP]
def oK(s n m:Int)(l:Addr):ji (a_ s n l) (Sum.inr "seed") (.int m)=a_ m n l:=by
 simp[ji,a_,sS,aP]
def ut(s n:Int)(l:Addr):ia (a_ s n l) (Sum.inr "seed")=some (.int s):=by simp[ia,a_,sS,aP]
def oM(s n:Int)(l:Addr):ia (a_ s n l) (Sum.inr "number")=some (.int n):=by simp[ia,a_,sS,aP]
def uu(s n:Int)(l:Addr):ia (a_ s n l) (Sum.inr "left")=some (.ref l):=by simp[ia,a_,sS,aP]
abbrev bZ(w:aH):Prop:=∀{S:ap} {d l:Addr} {m:Int} {Q:bv} {E:b6},zd S d l->0 < m->m < 2 ^ 62->(∀r S',0<=r->r < m->zd S' d l->zO d l S S'->Q (.int r) S')->w [.ref d,.int m] S Q E
def yP:bZ (a4 5 dw):=by
  intro S d l m Q E D h0 h1 k
  obtain⟨seed,number,left,D⟩:=D
  have hne:=D.ne
  have hsz:∀a b,(a_ a b l).length < sizeLine:=fun _ _=>dS (by show 3<=1000;decide)
  have fin:∀num Bf S1,Aj S1 d l seed num Bf->zO d l S S1->¬(num=0/\0 < Bf.length)->
      (if 0 < num then j3 num m/\(a_ seed num l).length < sizeLine/\m≠0/\Q (PV.int (num.fmod m)) (yO S1 d (SO.dct (a_ seed (num.fdiv m) l)))
       else IntMulOk seed 48271/\(2147483647:Int)≠0/\IntMulOk ((seed * 48271+7919).fmod 2147483647) 40692/\(2147483399:Int)≠0/\(a_ seed num l).length < sizeLine/\
        IntMulOk (((seed * 48271+7919).fmod 2147483647 * 40692+104729).fmod 2147483399) (((seed * 48271+7919).fmod 2147483647 * 40692+104729).fmod 2147483399)/\(2147483563:Int)≠0/\
        IntMulOk ((seed * 48271+7919).fmod 2147483647) ((seed * 48271+7919).fmod 2147483647)/\(2147483629:Int)≠0/\
        IntMulOk (((seed * 48271+7919).fmod 2147483647 * (seed * 48271+7919).fmod 2147483647).fmod 2147483629) 2147483563/\m≠0/\
        Q (PV.int ((((seed * 48271+7919).fmod 2147483647 * (seed * 48271+7919).fmod 2147483647).fmod 2147483629 * 2147483563+((((seed * 48271+7919).fmod 2147483647 * 40692+104729).fmod 2147483399) * (((seed * 48271+7919).fmod 2147483647 * 40692+104729).fmod 2147483399)).fmod 2147483563).fmod m))
          (yO S1 d (SO.dct (a_ (((seed * 48271+7919).fmod 2147483647 * 40692+104729).fmod 2147483399) num l)))):=by
    intro num Bf S1 D1 O1 hz
    split
    . rename_i hp
      rw[fK (GB h0),wo (GB h0)]
      refine⟨xT h0 (by omega),hsz _ _,by omega,k _ _ (Hg _ (by omega)) (GN _ h0) ⟨seed,num / m,Bf,aa,by rw[ao hne.symm];exact D1.l,D1.s0,D1.s1,Int.ediv_nonneg D1.nm (GB h0),D1.lf,D1.ln⟩ (O1.trans .upd)⟩
    . have e1:∀x:Int,x.fmod 2147483647=x % 2147483647:=fun x=>fK (by decide)
      have e2:∀x:Int,x.fmod 2147483399=x % 2147483399:=fun x=>fK (by decide)
      simp only[e1,e2,fK (GB h0)]
      have p1:=D1.s0
      have p2:=D1.s1
      refine⟨qQ (by decide) (by decide),by decide,qQ (by decide) (by decide),by decide,hsz _ _,ur (by omega) (by omega),by decide,ur (by omega) (by omega),by decide,qQ (by decide) (by decide),by omega,
        k _ _ (Hg _ (by omega)) (GN _ h0) ⟨_,num,Bf,aa,by rw[ao hne.symm];exact D1.l,by omega,by omega,D1.nm,D1.lf,D1.ln⟩ (O1.trans .upd)⟩
  unfold a4 dw
  rw[show ay 5 [PV.ref d,PV.int m]=[some (.ref d),some (.int m),none,none,none] from rfl]
  simp only[ae]
  refine⟨fun n σ S'=>σ=[some (.ref d),some (.int m),none,none,none]/\∃number left,Aj S' d l seed number left/\left.length=n/\zO d l S S',⟨_,rfl,number,left,D,rfl,.refl⟩,?_⟩
  rintro n σ S1 ⟨rfl,num,Bf,D1,hn,O1⟩
  walk_at "x"
  simp only[D1.d,D1.l,oM,uu,ut,oK,gH,aa,Fx,FG]
  have hlen:(List.map PV.int Bf).length=Bf.length:=E2 ..
  rw[hlen]
  split
  . rename_i hz
    subst hz
    split
    . rename_i hl
      refine⟨fun σ S'=>σ=[some (.ref d),some (.int m),none,none,none]/\∃number left,Aj S' d l seed number left/\left.length < n/\zO d l S S',?_,?_⟩
      . rintro σ' S' ⟨rfl,a,b,h2,h3,h4⟩
        exact⟨_,h3,rfl,a,b,h2,rfl,h4⟩
      . have hl':0 < Bf.length:=by omega
        obtain⟨pre,x,rfl⟩:∃pre x,Bf=pre++[x]:=by
          refine⟨Bf.dropLast,Bf.getLast (by intro e;rw[e]at hl';simp at hl'),(List.dropLast_concat_getLast _).symm⟩
        refine⟨trivial,?_⟩
        rw[show(List.map PV.int (pre++[x]))[(pre++[x]).length - 1]?=some (.int x) by simp,show(List.map PV.int (pre++[x])).dropLast=pre.map PV.int by simp]
        simp only[ao hne,D1.d,gH]
        refine⟨hsz _ _,trivial,x,pre,⟨aa,by rw[ao hne.symm,aa],D1.s0,D1.s1,D1.lf x (by simp),fun y hy=>D1.lf y (by simp[hy]),by have:=D1.ln;simp at this;omega⟩,?_,O1.trans (zO.EA.trans .upd)⟩
        rw[<-hn];simp
    . rename_i hl
      exact fin 0 Bf S1 D1 O1 (fun z=>hl (by omega))
  . rename_i hz
    rw[if_neg (by decide)]
    exact fin num Bf S1 D1 O1 (fun z=>hz z.1)
end C
namespace L3
open PySem L2
def Ext(S S':ap):Prop:=∀a o,S a=some o->S' a=some o
def Ext.refl{S:ap}:Ext S S:=fun _ _ h=>h
def Ext.trans{S S1 S2:ap}(a:Ext S S1)(b:Ext S1 S2):Ext S S2:=fun x o h=>b x o (a x o h)
def Ext.new{S:ap}{p:Addr}{o:SO}(h:S p=none):Ext S (yO S p o):=fun x u hx=>by rw[ao (fun e=>by rw[e,h]at hx;cases hx)];exact hx
def Ext.free{S S':ap}(e:Ext S S'){p:Addr}(h:S' p=none):S p=none:=by
 cases q:S p with
 |none=>rfl
 |some o=>rw[e p o q]at h;cases h
theorem cP{g:Tg}{tc:fZ}{te:aJ}{σ':bH}{keep:ap->Prop}{fin:List PV->ap->Prop}{S:ap}(f:PV->PV)(c:PV->Bool)(hk:keep S):∀(items ys:List PV),
  (∀x∈items,∃σ2,g.put x σ'=some σ2/\(∀Q:Bool->ap->Prop,Q (c x) S->tc σ2 S Q ff)/\(c x=true->∀Q:bv,Q (f x) S->te σ2 S Q ff))->ys.length+items.length<=sizeLine->fin (ys++(items.filter c).map f) S->b_ g tc te σ' keep fin items ys S
 |[],ys,_,hl,hf=>⟨hk,by simpa using hl,by simpa using hf⟩
 |x::r,ys,h,hl,hf=>by
  obtain⟨σ2,e,h1,h2⟩:=h x (by simp)
  refine⟨hk,by simp at hl;omega,?_⟩
  rw[e]
  refine h1 _ ?_
  cases hc:c x with
  |true=>
   rw[if_pos rfl]
   refine h2 hc _ (cP f c hk r (ys++[f x]) (fun y hy=>h y (by simp[hy])) (by simp at hl ⊢;omega) ?_)
   rw[List.filter_cons,hc,if_pos rfl]at hf
   simpa using hf
  |false=>
   rw[if_neg (by decide)]
   refine cP f c hk r ys (fun y hy=>h y (by simp[hy])) (by simp at hl ⊢;omega) ?_
   rw[List.filter_cons,hc,if_neg (by decide)]at hf
   exact hf
def mK{g:Tg}{te:aJ}{σ':bH}{keep:ap->Prop}{fin:List PV->ap->Prop}{S:ap}(f:PV->PV){items:List PV}(hk:keep S)
  (h:∀x∈items,∃σ2,g.put x σ'=some σ2/\∀Q:bv,Q (f x) S->te σ2 S Q ff) (hl:items.length<=sizeLine) (hf:fin (items.map f) S):b_ g cF te σ' keep fin items [] S:=by
 refine cP f (fun _=>true) hk items [] (fun x hx=>?_) (by simpa using hl) (by rw[List.filter_eq_self.mpr (fun _ _=>rfl)];exact hf)
 obtain⟨σ2,e,k⟩:=h x hx
 exact⟨σ2,e,fun Q q=>q,fun _=>k⟩
theorem iL{g:Tg}{tc:fZ}{te:aJ}{σ':bH}{keep:ap->Prop}{fin:List PV->ap->Prop}{items:List PV}(Iv:List PV->List PV->ap->Prop)(hk:∀done ys S,Iv done ys S->keep S/\ys.length<=sizeLine)
  (step:∀done x rest ys S (K:List PV->ap->Prop),items=done++x::rest->Iv done ys S->(∀ys' S',Iv (done++[x]) ys' S'->K ys' S')->match g.put x σ' with
   |some σ2=>tc σ2 S (fun b S3=>if b=true then te σ2 S3 (fun y S4=>K (ys++[y]) S4) ff else K ys S3) ff
   |none=>False)
  (hf:∀ys S,Iv items ys S->fin ys S):∀(rest done ys:List PV) (S:ap),items=done++rest->Iv done ys S->b_ g tc te σ' keep fin rest ys S
 |[],done,ys,S,e,h=>by
  rw[F2]at e
  exact⟨(hk _ _ _ h).1,(hk _ _ _ h).2,hf ys S (e▸h)⟩
 |x::rest,done,ys,S,e,h=>by
  refine⟨(hk _ _ _ h).1,(hk _ _ _ h).2,?_⟩
  exact step done x rest ys S (fun ys' S'=>b_ g tc te σ' keep fin rest ys' S') e h fun ys' S' h'=>iL Iv hk step hf rest (done++[x]) ys' S' (by rw[e];simp) h'
theorem kh{g:Tg}{tb:bc}{D:iA}{keep:ap->Prop}{items:List PV}(Iv:List PV->bH->ap->Prop)(hk:∀done σ S,Iv done σ S->keep S)
  (step:∀done x rest σ S (K:bH->ap->Prop),items=done++x::rest->Iv done σ S->(∀σ' S',Iv (done++[x]) σ' S'->K σ' S')->match g.put x σ with
   |some σ'=>tb { D with nx:=K,ct:=K,bk:=D.nx } σ' S
   |none=>False)
  (hd:∀σ S,Iv items σ S->D.nx σ S):∀(rest done:List PV) (σ:bH) (S:ap),items=done++rest->Iv done σ S->jk g tb D keep rest σ S
 |[],done,σ,S,e,h=>by
  rw[F2]at e
  exact⟨hk _ _ _ h,hd σ S (e▸h)⟩
 |x::rest,done,σ,S,e,h=>
  ⟨hk _ _ _ h,step done x rest σ S (jk g tb D keep rest) e h fun σ' S' h'=>kh Iv hk step hd rest (done++[x]) σ' S' (by rw[e];simp) h'⟩
def cQ{g:Tg}{tb:bc}{D:iA}{keep:ap->Prop}{items:List PV}{σ:bH}{S:ap}(Iv:List PV->bH->ap->Prop)(h0:Iv [] σ S)(hk:∀done σ S,Iv done σ S->keep S)
  (step:∀done x rest σ S (K:bH->ap->Prop),items=done++x::rest->Iv done σ S->(∀σ' S',Iv (done++[x]) σ' S'->K σ' S')->match g.put x σ with
   |some σ'=>tb { D with nx:=K,ct:=K,bk:=D.nx } σ' S
   |none=>False)
  (hd:∀σ S,Iv items σ S->D.nx σ S):jk g tb D keep items σ S:=kh Iv hk step hd items [] σ S rfl h0
def gI{g:Tg}{tc:fZ}{te:aJ}{σ':bH}{keep:ap->Prop}{fin:List PV->ap->Prop}{items:List PV}{S:ap}(Iv:List PV->List PV->ap->Prop)(h0:Iv [] [] S)(hk:∀done ys S,Iv done ys S->keep S/\ys.length<=sizeLine)
  (step:∀done x rest ys S (K:List PV->ap->Prop),items=done++x::rest->Iv done ys S->(∀ys' S',Iv (done++[x]) ys' S'->K ys' S')->match g.put x σ' with
   |some σ2=>tc σ2 S (fun b S3=>if b=true then te σ2 S3 (fun y S4=>K (ys++[y]) S4) ff else K ys S3) ff
   |none=>False)
  (hf:∀ys S,Iv items ys S->fin ys S):b_ g tc te σ' keep fin items [] S:=iL Iv hk step hf items [] [] S rfl h0
def ar{t u:bc}{D:iA}{σ:bH}{S:ap}(h:∀N:bH->ap->Prop,(∀σ S,u D σ S->N σ S)->t { D with nx:=N } σ S):ae t u D σ S:=h (u D) fun _ _ q=>q
def eR{n:Nat}{b:bc}{args:List PV}{S:ap}{Q:bv}{E:b6}(h:b { nx:=fun _ S'=>Q .non S',rt:=Q,ex:=ff } (ay n args) S):a4 n b args S Q E:=h
def oN{α β:Type}(f:α->β)(xs:List α)(lo hi:Option Int):cr (xs.map f) lo hi=(cr xs lo hi).map f:=by
 unfold cr
 rw[E2,List.map_take,List.map_drop]
def oO{α:Type}(xs:List α)(lo hi:Option Int):(cr xs lo hi).length<=xs.length:=by
 unfold cr
 rw[G3,Gn]
 omega
def cR{n:Nat}(h:n<=1000):n<=sizeLine:=GQ (dS h)
section
variable {α:Type} {a b c d e:α} {l:List α}
def mL:zN (a::l) 0=some a:=by simp[zN,pJ]
def rZ:zN (a::b::l) 1=some b:=dR (j:=1) rfl
def uv:zN [a] (-1)=some a:=rfl
def uw:zN [a,b] (-1)=some b:=rfl
def ux:zN [a,b,c] (-1)=some c:=rfl
def uy:zN [a,b,c,d] (-1)=some d:=rfl
def uz:zN [a,b,c,d,e] (-1)=some e:=rfl
def uA:zN [a,b] (-2)=some a:=rfl
def uB:zN [a,b,c] (-2)=some b:=rfl
def uC:zN [a,b,c,d] (-2)=some c:=rfl
def uD:zN [a,b,c,d,e] (-2)=some d:=rfl
end
def bJ(lo:Int)(n:Nat):(aR lo n).length=n:=by simp[aR]
end L3
namespace C
open PySem L2 L3
abbrev ki(w:aH):Prop:=∀{S:ap} {ns:Vu} {b:Int} {Q:bv} {E:b6},ns.length<=63->0<=b->b < 1000->(∀d l S',S d=none->S l=none->zd S' d l->Ext S S'->Q (.ref d) S')->w [.cl (ns.map PV.int),.int b] S Q E
def AF:ki (a4 5 dv):=by
 intro S ns b Q E hn h0 h1 k
 unfold a4 dv
 rw[show ay 5 [PV.cl (ns.map PV.int),PV.int b]=[some (.cl (ns.map PV.int)),some (.int b),none,none,none] from rfl]
 walk_at "x"
 intro p hp
 rw[aa]
 dsimp only
 rw[oN]
 have hx:(cr ns (some b) (some 63)).length<=63:=Fl (oO _ _ _) hn
 generalize cr ns (some b) (some 63)=xs at hx
 refine mK (fun v=>match v with | .int i=>.int (if 0 - i > i then 0 - i else i)|v=>v) aa (fun x hx=>?_) (cR (by rw[E2];omega)) ?_
 ·obtain⟨i,hi,rfl⟩:=Fq.mp hx
  refine⟨[some (.int i)],rfl,fun Q q=>?_⟩
  walk_at "x"
  exact q
 intro p2 hp2
 rw[aa]
 dsimp only
 rw[Fy]
 have e0:(xs.map ((fun v=>match v with | .int i=>.int (if 0 - i > i then 0 - i else i)|v=>v) ∘ PV.int))=(xs.map fun i=>if 0 - i > i then 0 - i else i).map PV.int:=by
  rw[Fy];rfl
 rw[e0]
 have hy:((xs.map fun i=>if 0 - i > i then 0 - i else i)).length<=63:=by rw[E2];exact hx
 have Co:∀y∈xs.map (fun i:Int=>if 0 - i > i then 0 - i else i),0<=y:=by
  intro y hy
  obtain⟨i,_,rfl⟩:=Fq.mp hy
  split<;>omega
 generalize (xs.map fun i=>if 0 - i > i then 0 - i else i)=ys at hy Co
 have h2:p2≠p:=fun e=>by rw[e,aa]at hp2;cases hp2
 have hp2':S p2=none:=by rw[<-hp2,ao h2]
 refine cQ (fun done σ S'=>S'=yO (yO S p (.lst (xs.map PV.int))) p2 (.lst (ys.map PV.int))/\∃v2 n,0<=n/\n < 2147483647/\σ=[some (.cl (ns.map PV.int)),some (.int b),v2,some (.ref p2),some (.int n)]) ⟨rfl,none,7919+b,by omega,by omega,rfl⟩ (fun done σ S' h=>by rw[h.1];exact aa) ?_ ?_
 ·rintro done x rest σ S' K e ⟨rfl,v2,n,n0,n1,rfl⟩ hK
  obtain⟨i,hi,rfl⟩:∃i,i∈ys/\x = .int i:=by
   have:x∈ys.map PV.int:=by rw[e];simp
   obtain⟨i,hi,rfl⟩:=Fq.mp this
   exact⟨i,hi,rfl⟩
  walk_at "x"
  refine⟨qQ (by decide) (by decide),by decide,by decide,hK _ _ ⟨rfl,_,_,?_,?_,rfl⟩⟩
  ·rw[fK (by decide)];omega
  ·rw[fK (i:=(n * 48271+_)) (by decide)];omega
 ·rintro σ S' ⟨rfl,v2,n,n0,n1,rfl⟩
  walk_at "x"
  intro d hd
  have hd2:d≠p2:=fun e=>by rw[e,aa]at hd;cases hd
  rw[ao hd2]at hd
  have hd1:d≠p:=fun e=>by rw[e,aa]at hd;cases hd
  rw[ao hd1]at hd
  rw[ao hd2.symm,aa]
  dsimp only
  refine cP (fun v=>v) (fun v=>match v with | .int i=>decide (10 ^ 18<=i)|_=>false) (by rw[ao hd2.symm,aa]) _ [] (fun x hx=>?_) (by rw[E2];exact cR (by simp;omega)) ?_
  ·obtain⟨i,hi,rfl⟩:=Fq.mp hx
   refine⟨[some (.int i)],rfl,fun Q q=>?_,fun _ Q q=>?_⟩
   ·walk_at "x"
    exact⟨⟨by decide,by decide,by decide⟩,q⟩
   ·walk_at "x"
    exact q
  intro p3 hp3
  rw[aa]
  intro l hl
  have e3:([]++List.map (fun v:PV=>v) (List.filter (fun v=>match v with | .int i=>decide (10 ^ 18<=i)|_=>false) (List.map PV.int ys)))=(ys.filter fun i=>decide (10 ^ 18<=i)).map PV.int:=by
   rw[GI,List.map_id',List.filter_map]
   rfl
  rw[e3]at hl ⊢
  rw[<-G4]
  generalize DW:yO (yO (yO (yO S p (SO.lst (List.map PV.int xs))) p2 (SO.lst (List.map PV.int ys))) d (SO.dct [])) p3 (SO.lst (List.map PV.int (List.filter (fun i=>decide (10 ^ 18<=i)) ys)))=S3 at hl ⊢
  have DX:S3 d=some (.dct []):=by rw[<-DW,ao (fun e=>by rw[<-e,aa]at hp3;cases hp3),aa]
  have DY:l≠d:=fun e=>by rw[e,DX]at hl;cases hl
  have Dr:Ext S S3:=by
   rw[<-DW]
   refine(Ext.new hp).trans ((Ext.new hp2).trans ((Ext.new ?_).trans (.new hp3)))
   rw[ao hd2,ao hd1];exact hd
  refine⟨by rw[ao DY.symm];exact DX,?_⟩
  have e4:j7 [(PV.str "seed",PV.int n),(PV.str "number",PV.int 0),(PV.str "left",PV.ref l)]=some (a_ n 0 l):=rfl
  rw[e4]
  have e5:jm [] (a_ n 0 l)=a_ n 0 l:=by simp[jm,a_,ji,sS,aP]
  dsimp only
  rw[e5]
  refine k d l _ hd (Dr.free hl) ⟨n,0,_,aa,by rw[ao DY,aa],n0,n1,Int.le_refl _,fun y hy=>?_,?_⟩ ?_
  ·exact Co y (List.mem_filter.mp (List.mem_reverse.mp hy)).1
  ·rw[Hj]
   exact Fl (List.length_filter_le _ _) (by omega)
  ·intro a o ha
   have had:a≠d:=fun e=>by rw[e,hd]at ha;cases ha
   rw[ao had,ao (fun e=>by rw[e,Dr.free hl]at ha;cases ha)]
   exact Dr a o ha
end C
namespace L3
open PySem L2
theorem gJ(S:ap):∀zs:List Str,zT S (zs.map PV.str) (zs.map PyData.str)
 |[]=>.nil
 |z::r=>.cons (.str z) (gJ S r)
theorem dA:∀{zs:Vs},(∀z∈zs,PyData.strOk z=true)->PyData.canLayAll0 (zs.map PyData.str)=true
 |[],_=>rfl
 |z::r,h=>by
  show(PyData.canLay0 (.str z)&&PyData.canLayAll0 (r.map PyData.str))=true
  rw[dA fun y hy=>h y (by simp[hy])]
  have:PyData.canLay0 (.str z)=true:=h z (by simp)
  rw[this];rfl
def gK(z:Str)(zs:Vs):fG (.str z) (zs.map PyData.str)=decide (z∈zs):=by
 unfold fG
 rw[List.any_map,Gr,List.any_eq_true,Hs]
 constructor
 ·rintro⟨y,hy,e⟩
  have e':(y == z)=true:=e
  exact(eq_of_beq e')▸hy
 ·intro h
  exact⟨z,h,beq_self_eq_true z⟩
def qR{neg:Bool}{z:Str}{zs:Vs}{a:Addr}{S:ap}{Q:bv}(hS:S a=some (.lst (zs.map PV.str)))(hz:PyData.strOk z=true)(hzs:∀y∈zs,PyData.strOk y=true)(q:Q (.bl (neg != decide (z∈zs))) S):lB neg (.str z) (.ref a) S Q:=by
 unfold lB
 simp only[hS]
 exact⟨_,_,.str z,gJ S zs,hz,dA hzs,by show 0<=150;decide,by rw[gK];exact q⟩
def oP{neg:Bool}{z:Str}{zs:Vs}{S:ap}{Q:bv}(hz:PyData.strOk z=true)(hzs:∀y∈zs,PyData.strOk y=true)(q:Q (.bl (neg != decide (z∈zs))) S):lB neg (.str z) (.tup (zs.map PV.str)) S Q:=by
 unfold lB
 exact⟨_,_,.str z,gJ S zs,hz,dA hzs,by show 0<=150;decide,by rw[gK];exact q⟩
end L3
namespace C
open PySem L2 L3 Wd
abbrev lN(w:aH):Prop:=∀{S:ap} {t b:Int} {Q:bv} {E:b6},0 < b->b.natAbs < 2 ^ 8000->Q (.tup [.int (M3.i_ t b),.int (M3.jZ t b)]) S->w [.int t,.int b] S Q E
def A7:lN (a4 4 em):=by
 intro S t b Q E hb hs k
 unfold a4 em
 rw[show ay 4 [PV.int t,PV.int b]=[some (.int t),some (.int b),none,none] from rfl]
 simp only[ae]
 walk_at "x"
 refine⟨fun n σ S'=>S'=S/\∃x y:Int,σ=[some (.int t),some (.int b),some (.int x),some (.int y)]/\0<=x/\0<=y/\Int.gcd x y=Int.gcd t b/\y.toNat=n,⟨_,rfl,_,b,rfl,by split<;>omega,by omega,?_,rfl⟩,?_⟩
 ·split
  ·rw[show(0 - t) = -t by omega,Int.neg_gcd]
  ·rfl
 rintro n σ S' ⟨rfl,x,y,rfl,hx,hy,hg,rfl⟩
 walk_at "x"
 simp only[FG]
 split
 ·rename_i hp
  refine⟨fun σ' CB=>CB=S'/\∃x' y':Int,σ'=[some (.int t),some (.int b),some (.int x'),some (.int y')]/\0<=x'/\0<=y'/\Int.gcd x' y'=Int.gcd t b/\y'.toNat < y.toNat,?_,?_⟩
  ·rintro σ' CB ⟨rfl,x',y',rfl,h1,h2,h3,h4⟩
   exact⟨_,h4,rfl,x',y',rfl,h1,h2,h3,rfl⟩
  ·walk_at "x"
   have e:x.fmod y=x % y:=fK hy
   have l1:=Hg x (b:=y) (by omega)
   have l2:=GN x hp
   refine⟨by omega,trivial,y,x.fmod y,rfl,hy,by omega,?_,by omega⟩
   rw[M3.j0];exact hg
 ·rename_i hp
  have Co:y=0:=by omega
  subst Co
  have Ds:x=(Int.gcd t b:Int):=by
   rw[<-hg]
   rw[Int.gcd_zero_right]
   omega
  subst Ds
  have gp:(0:Int) < (Int.gcd t b:Int):=Hf.mpr (M3.eJ (by omega))
  have gl:=M3.tP (t:=t) (b:=b) (by omega)
  have cd:∀z,j3 z (Int.gcd t b:Int):=fun z=>⟨by omega,Nat.lt_of_le_of_lt (by omega) hs⟩
  refine⟨cd _,cd _,?_⟩
  have d1:=(M3.nM (t:=t) (b:=b) (by omega))
  rw[if_neg (by omega)]at d1
  rw[d1.1,d1.2]
  exact k
def mM{n:Nat}(h:n < 2 ^ 64):n < 2 ^ 8000:=Hr h (G8 (by decide) (by decide))
def mN{r:Int}(h0:0<=r)(h1:r < 26):∃c,zN abc.cps.toList r=some c/\97<=c/\c<=122:=by
 obtain⟨n,rfl⟩:=Int.eq_ofNat_of_zero_le h0
 have q:=tO n
 rw[Nat.mod_eq_of_lt (by omega)]at q
 exact⟨_,q,by omega,by omega⟩
def k5{z:Str}(h:Bz z):PyData.strOk z=true:=by
 unfold PyData.strOk
 rw[Array.all_eq_true']
 intro c hc
 have:=h.sm c (by simpa using hc)
 simp;omega
def lO:∀z∈zF,PyData.strOk z=true:=by decide +kernel
theorem bU:∀zs:List Str,texts (zs.map PV.str)=some zs
 |[]=>rfl
 |z::r=>by show(texts (r.map PV.str)).map (z::·)=_;rw[bU r];rfl
def mO:("":Str).length=0:=by decide +kernel
def mP{cs:List Nat}(h:cs.length<=1000):((cs.map fE).map (·.length)).sum+(cs.map fE).length * ("":Str).length<=1000000:=by
 rw[qo,mO]
 omega
def k6{w__law_draw:aH}(yP:bZ w__law_draw){S:ap}{d l:Addr}{σ:bH}{n:Int}{fin:List PV->ap->Prop}(D:zd S d l)(hn:n.toNat<=100)(h1:lk σ 1=some (.ref d))(h2:lk σ 2=some (.str abc))(hσ:∃x,σ=[x,some (.ref d),some (.str abc)])
  (k:∀(cs:List Nat) S',cs.length=n.toNat->(∀c∈cs,97<=c/\c<=122)->zd S' d l->zO d l S S'->fin ((cs.map fE).map PV.str) S') :
  b_ (Tg.n 0) cF (aj aw (v3 2) (ad w__law_draw [v3 1,c3 (.int 26)])) σ (fun _=>True) fin (aR 0 n.toNat) [] S:=by
 obtain⟨x0,rfl⟩:=hσ
 refine gI (fun done ys S'=>∃cs:List Nat,ys=(cs.map fE).map PV.str/\cs.length=done.length/\done.length<=n.toNat/\(∀c∈cs,97<=c/\c<=122)/\zd S' d l/\zO d l S S') ⟨[],rfl,rfl,FE _,by simp,D,.refl⟩ ?_ ?_ ?_
 ·rintro done ys S' ⟨cs,rfl,e,hd,_⟩
  exact⟨trivial,cR (by rw[E2,E2,e];omega)⟩
 ·rintro done x rest ys S' K e ⟨cs,rfl,e2,hd,hc,D',O'⟩ hK
  have hlen:done.length+1<=n.toNat:=by
   have:=FA List.length e
   rw[bJ,EX,Fc]at this
   omega
  walk_at "x"
  simp only[cF,Gg]
  refine yP D' (by decide) (by decide) fun r S2 r0 r1 D2 O2=>⟨qm.1,?_⟩
  obtain⟨c,ec,c0,c1⟩:=mN r0 r1
  rw[ec]
  refine hK _ _ ⟨cs++[c],by simp,by simp[e2],by simpa using hlen,fun y hy=>?_,D2,O'.trans O2⟩
  rcases Fe.mp hy with hy|hy
  ·exact hc y hy
  ·rw[E8.mp hy];exact⟨c0,c1⟩
 ·rintro ys S' ⟨cs,rfl,e,hd,hc,D',O'⟩
  exact k cs S' (by rw[e,bJ]) hc D' O'
inductive Bd where
 |rest|pay (x y:Int)|put (z:Str) (m:Int)|use (z:Str)|Av (a:Bd)|yS (a b:Bd)|Aw (a b:Bd)|Am (z:Str) (m:Int) (a b:Bd)
noncomputable def Bd.pv:Bd->PV
 | .rest=>.tup [.str "rest"]
 | .pay x y=>.tup [.str "pay",.tup [.int x,.int y]]
 | .put z m=>.tup [.str "put",.str z,.int m]
 | .use z=>.tup [.str "use",.str z]
 | .Av a=>.tup [.str "often",a.pv]
 | .yS a b=>.tup [.str "then",a.pv,b.pv]
 | .Aw a b=>.tup [.str "either",a.pv,b.pv]
 | .Am z m a b=>.tup [.str "take",.str z,.int m,a.pv,b.pv]
noncomputable def Bd.dep:Bd->Nat
 | .Av a=>a.dep+1
 | .yS a b=>max a.dep b.dep+1
 | .Aw a b=>max a.dep b.dep+1
 | .Am _ _ a b=>max a.dep b.dep+1
 |_=>1
noncomputable def Bd.size:Bd->Nat
 | .Av a=>a.size+1
 | .yS a b=>a.size+b.size+1
 | .Aw a b=>a.size+b.size+1
 | .Am _ _ a b=>a.size+b.size+1
 |_=>1
def Bd.BN(t:Bd):1<=t.dep:=by cases t<;>simp[Bd.dep]
def f_{α:Type}{xs:List α}{r:Int}(h0:0<=r)(h1:r < xs.length):∃v,zN xs r=some v/\v∈xs:=by
 obtain⟨n,rfl⟩:=Int.eq_ofNat_of_zero_le h0
 have hn:n < xs.length:=by omega
 exact⟨xs[n],dR (by simp[hn]),List.getElem_mem hn⟩
end C
local macro_rules | `(tactic| walk_at "w")=>`(tactic| simp only [L3.ae,L3.aq,L3.aG,L3.a3,L3.bu,L3.aQ,L3.aj,L3.v3,L3.c3,L3.lk,L3.am,L3.ah,L3.ad,L3.bI,L3.aT,L3.ms,L3.jb,L3.mv,L3.eK,L3.kX,L3.my,L3.bA,L3.bM,L3.tU,L3.kP,L3.aw,L3.jf,L3.aY,L3.kS,L3.jg,L3.gv,L3.eL,L3.d8,L3.bw,L3.d3,L3.fI,L3.gC,L3.mC,L3.qJ,L3.va,L3.bL,L3.aF,L3.fU,L3.bt,L3.kU,L3.gw,L3.iD,L3.a6,L3.je,List.set_cons_zero,List.set_cons_succ,List.set_nil,L3.f7,L3.fe,L3.mx,L3.a9,L3.aX,L3.c_,L3.du,L3.fV,L3.Tg.put,L3.Tg.zH,L3.j8,L3.fg,L3.j9,L3.j6,L3.mz,L3.aD,List.reduceReplicate,EV,Fo,List.cons_append,List.nil_append,L3.mL,L3.rZ,L3.uv,L3.uw,L3.ux,L3.uy,L3.uz,L3.uA,L3.uB,L3.uC,L3.uD,L3.aP,String.reduceEq,GA,decide_false,Fx,Gw,GF,Bool.not_false,Gg,F1,Fd,reduceIte,ite_true,ite_false])
local macro_rules | `(tactic| walk_at "y")=>`(tactic| ((try walk_at "x"); (try walk_at "w")))
namespace C
open PySem L2 L3 Wd
structure Sh (S:ap) (v:PV) (d:PyData) (n k:Nat):Prop where
 dat:Dat S v d
 lay:d.canLay0=true
 Cg:d.showable=true
 dep:d.depth<=k
 len:d.shown.length<=n
structure A3 (S:ap) (vs:List PV) (ds:List PyData) (n k:Nat):Prop where
 dat:zT S vs ds
 lay:PyData.canLayAll0 ds=true
 Cg:PyData.showableAll ds=true
 dep:PyData.depthAll ds<=k
 len:piled (PyData.shownAll ds)<=n
def Sh.le{S:ap}{v:PV}{d:PyData}{n k m j:Nat}(h:Sh S v d n k)(a:n<=m)(b:k<=j):Sh S v d m j:=⟨h.dat,h.lay,h.Cg,Fl h.dep b,Fl h.len a⟩
def A3.le{S:ap}{v:List PV}{d:List PyData}{n k m j:Nat}(h:A3 S v d n k)(a:n<=m)(b:k<=j):A3 S v d m j:=⟨h.dat,h.lay,h.Cg,Fl h.dep b,Fl h.len a⟩
theorem Sh.int{S:ap}{i:Int}(h:i.natAbs.log2 < 1920):Sh S (.int i) (.int i) 1921 0:=
 ⟨.int i,by simp[PyData.canLay0],by simpa [PyData.showable]using h,by simp[PyData.depth],by rw[PyData.shown_int];exact PyProof.Rows.int_text_len_1921 h⟩
theorem Sh.str{S:ap}{z:Str}(h:PyData.strOk z=true):Sh S (.str z) (.str z) (10 * z.length+2) 0:=
 ⟨.str z,by simpa [PyData.canLay0]using h,by simp[PyData.showable],by simp[PyData.depth],by
  rw[PyData.shown_str]
  refine StrLaws.reprText_len z fun c hc=>?_
  have h3:=Array.all_eq_true_iff_forall_mem.mp h c (Array.mem_toList_iff.mp hc)
  have h4:c < 0x110000:=by simpa using h3
  have e:(16:Nat) ^ 8=4294967296:=by decide
  omega⟩
theorem A3.nil{S:ap}:A3 S [] [] 0 0:=⟨.nil,by simp[PyData.canLayAll0],by simp[PyData.showableAll],by simp[PyData.depthAll],by simp[PyData.shownAll,piled]⟩
theorem Sh.cons{S:ap}{v:PV}{d:PyData}{n k:Nat}{vs:List PV}{ds:List PyData}{m:Nat}(a:Sh S v d n k)(b:A3 S vs ds m k):A3 S (v::vs) (d::ds) (n+2+m) k:=
 ⟨.cons a.dat b.dat,by simp[PyData.canLayAll0,a.lay,b.lay],by simp[PyData.showableAll,a.Cg,b.Cg],by simp only[PyData.depthAll];exact Nat.max_le.mpr ⟨a.dep,b.dep⟩,by
  rw[PyData.shownAll_cons,piled_cons]
  have:=a.len
  have:=b.len
  omega⟩
theorem Sh.tup{S:ap}{n k:Nat}{vs:List PV}{ds:List PyData}(a:A3 S vs ds n k):Sh S (.tup vs) (.tuple ds) (n+3) (k+1):=
 ⟨.tup a.dat,by simp[PyData.canLay0,a.lay],by simp[PyData.showable,a.Cg],by simp only[PyData.depth];exact FW a.dep,by
  rw[PyData.shown_tuple,strLen_append,strLen_append]
  have e1:((("(":String):Str)).length=1:=rfl
  have e3:(((if ds.length == 1 then ",)" else ")":String):Str)).length<=2:=by split<;>decide
  have q:=a.len
  rcases ds with _|⟨d,ds⟩
  ·have:(Str.join ", " (PyData.shownAll [])).length=0:=by simp[PyData.shownAll];rfl
   omega
  ·have:=join_length_add (PyData.shownAll (d::ds)) (by simp[PyData.shownAll])
   omega⟩
theorem A3.map{α:Type}{S:ap}{n k:Nat}(f:α->PV)(g:α->PyData):∀{xs:List α},(∀x∈xs,Sh S (f x) (g x) n k)->A3 S (xs.map f) (xs.map g) (xs.length * (n+2)) k
 |[],_=>A3.nil.le (FE _) (FE _)
 |x::r,h=>((h x (by simp)).cons (A3.map f g fun y hy=>h y (by simp[hy]))).le (by rw[Fc,Nat.succ_mul];omega) (EZ _)
def Sh.dict{S:ap}{v:PV}{d:PyData}{n k:Nat}(h:Sh S v d n k):d.hasDict=false:=PyData.hasDict_of_canLay d h.lay
def oQ:(2:Nat) ^ 24<=sizeLine:=by decide
def kj{S:ap}{vs:List PV}{d:PyData}{n k:Nat}{Q:bv}(h:Sh S (.tup vs) d n k)(hn:n<=2 ^ 24)(hk:k<=100)(q:Q (.str d.shown) S):j5 [.tup vs] S Q:=by
 unfold j5
 exact⟨d,h.dat,h.Cg,h.dict,Fl h.dep hk,Fl h.len (Fl hn oQ),q⟩
noncomputable def Bd.dt:Bd->PyData
 | .rest=>.tuple [.str "rest"]
 | .pay x y=>.tuple [.str "pay",.tuple [.int x,.int y]]
 | .put z m=>.tuple [.str "put",.str z,.int m]
 | .use z=>.tuple [.str "use",.str z]
 | .Av a=>.tuple [.str "often",a.dt]
 | .yS a b=>.tuple [.str "then",a.dt,b.dt]
 | .Aw a b=>.tuple [.str "either",a.dt,b.dt]
 | .Am z m a b=>.tuple [.str "take",.str z,.int m,a.dt,b.dt]
def mQ{i:Int}(h:i.natAbs < 2 ^ 64):i.natAbs.log2 < 1920:=by
 by_cases h0:i.natAbs=0
 ·rw[h0];decide
 ·exact(Nat.log2_lt h0).mpr (Hr h (G8 (by decide) (by decide)))
def Sh.w{S:ap}{z:Str}(h:Bz z):Sh S (.str z) (.str z) 62 0:=(Sh.str (k5 h)).le (by have:=h.len;omega) (EZ _)
def Sh.s{S:ap}(z:String)(k:Nat)(h:PyData.strOk (z:Str)=true)(hl:(z:Str).length<=6):Sh S (.str z) (.str z) 62 k:=(Sh.str h).le (by omega) (FE _)
def A3.A8{S:ap}(k:Nat):A3 S [] [] 0 k:=.le .nil (EZ _) (FE _)
theorem Sh.i{S:ap}{i:Int}(h:i.natAbs < 2 ^ 64):Sh S (.int i) (.int i) 1921 0:=Sh.int (mQ h)
def wq{m:Int}(h:1<=m/\m<=9):m.natAbs < 2 ^ 64:=by omega
noncomputable def ib(p:Str×Bd):PV:=.tup [.str p.1,p.2.pv]
noncomputable def wU(p:Str×Bd):PyData:=.tuple [.str p.1,p.2.dt]
noncomputable def m_(js:Vs)(ds:List (Str×Bd)):PV:=.tup [.tup (js.map PV.str),.tup (ds.map ib)]
noncomputable def yj(js:Vs)(ds:List (Str×Bd)):PyData:=.tuple [.tuple (js.map PyData.str),.tuple (ds.map wU)]
def uE{α:Type}{xs:List α}{n:Nat}(h:n<=xs.length):cr xs none (some (n:Int))=xs.take n:=by
 unfold cr
 rw[HT.gi,HT.iX,List.drop_zero,Nat.min_eq_left h]
 rfl
def oR{α:Type}{xs:List α}{n:Nat}(h:n<=xs.length):cr xs (some (n:Int)) none=xs.drop n:=by
 unfold cr
 rw[HT.gi,HT.iX,Nat.min_eq_left h,List.take_of_length_le]
 rw[Gn]
 exact EZ _
noncomputable def Bd.sides:Bd->List Bd
 | .Av a=>[a]
 | .yS a b=>[a,b]
 | .Aw a b=>[a,b]
 | .Am _ _ a b=>[a,b]
 |_=>[]
abbrev iM(w:aH):Prop:=∀{S:ap} {t:Bd} {Q:bv} {E:b6},Q (.tup (t.sides.map Bd.pv)) S->w [t.pv] S Q E
def oS:iM (a4 1 en):=by
 intro S t Q E k
 unfold en
 refine eR ?_
 rw[show ay 1 [t.pv]=[some t.pv] from rfl]
 cases t<;>(unfold Bd.pv;walk_at "y"; simp only[lE,aj,v3,lk,c3,aw,mL,jf,ah,am,bt,k_SIDES_FROM,List.find?,sS,String.reduceEq,GA,decide_false,Option.map,Option.getD];exact k)
noncomputable def Bd.hd:Bd->Str
 | .rest=>"rest" | .pay _ _=>"pay" | .put _ _=>"put" | .use _=>"use" | .Av _=>"often" | .yS _ _=>"then" | .Aw _ _=>"either" | .Am _ _ _ _=>"take"
noncomputable def Bd.tl:Bd->List PV
 | .rest=>[] | .pay x y=>[.tup [.int x,.int y]] | .put z m=>[.str z,.int m] | .use z=>[.str z] | .Av a=>[a.pv] | .yS a b=>[a.pv,b.pv] | .Aw a b=>[a.pv,b.pv] | .Am z m a b=>[.str z,.int m,a.pv,b.pv]
def Bd.An(t:Bd):t.pv = .tup (.str t.hd::t.tl):=by cases t<;>rfl
theorem dX{α:Type}{g:Tg}{te:aJ}{σ':bH}{keep:ap->Prop}{fin:List PV->ap->Prop}{S:ap}(enc f:α->PV)(hk:keep S):∀(xs:List α) (ys:List PV),
  (∀x∈xs,∃σ2,g.put (enc x) σ'=some σ2/\∀Q:bv,Q (f x) S->te σ2 S Q ff)->ys.length+xs.length<=sizeLine->fin (ys++xs.map f) S->b_ g cF te σ' keep fin (xs.map enc) ys S
 |[],ys,_,hl,hf=>⟨hk,by simpa using hl,by simpa using hf⟩
 |x::r,ys,h,hl,hf=>by
  obtain⟨σ2,e,h1⟩:=h x (by simp)
  refine⟨hk,by simp at hl;omega,?_⟩
  rw[e]
  show te σ2 S (fun y S4=>b_ g cF te σ' keep fin (r.map enc) (ys++[y]) S4) ff
  exact h1 _ (dX enc f hk r (ys++[f x]) (fun y hy=>h y (by simp[hy])) (by simp at hl ⊢;omega) (by simpa using hf))
def gL{n:Nat}(h:n<=1000):n<=sizeLine:=Fl h (by decide)
abbrev gM(w:aH):Prop:=∀{S:ap} {a b:Int} {Q:bv} {E:b6},0<=a->0<=b->Q (.int (Int.gcd a b)) S->w [.int a,.int b] S Q E
def mR:gM (a4 3 gE):=by
 intro S a b Q E ha hb k
 unfold gE
 refine eR ?_
 rw[show ay 3 [PV.int a,PV.int b]=[some (.int a),some (.int b),none] from rfl]
 refine ar fun N hN=>?_
 refine⟨fun n σ S'=>S'=S/\∃(x y:Int) (z:Option PV),σ=[some (.int x),some (.int y),z]/\0<=x/\0<=y/\Int.gcd x y=Int.gcd a b/\y.toNat=n,⟨_,rfl,a,b,none,rfl,ha,hb,rfl,rfl⟩,?_⟩
 rintro n σ S' ⟨rfl,x,y,z,rfl,hx,hy,hg,rfl⟩
 walk_at "x"
 simp only[Gw,Hu,decide_eq_false_iff_not]
 split
 ·rename_i hp
  refine⟨fun σ' CB=>CB=S'/\∃(x' y':Int) (z':Option PV),σ'=[some (.int x'),some (.int y'),z']/\0<=x'/\0<=y'/\Int.gcd x' y'=Int.gcd a b/\y'.toNat < y.toNat,?_,?_⟩
  ·rintro σ' CB ⟨rfl,x',y',z',rfl,h1,h2,h3,h4⟩
   exact⟨_,h4,rfl,x',y',z',rfl,h1,h2,h3,rfl⟩
  ·have e:x.fmod y=x % y:=fK hy
   have l1:=Hg x (b:=y) hp
   have l2:=GN x (show 0 < y by omega)
   refine⟨hp,rfl,y,x.fmod y,_,rfl,hy,by omega,?_,by omega⟩
   rw[M3.j0];exact hg
 ·rename_i hp
  have Co:y=0:=by omega
  subst Co
  refine hN _ _ ?_
  walk_at "x"
  rw[if_neg (by omega)]
  have Ds:x=(Int.gcd a b:Int):=by
   rw[<-hg]
   rw[Int.gcd_zero_right]
   omega
  rw[Ds]
  exact k
end C
namespace T7
open PySem PySem.NumText T5
noncomputable def gl(s:List Nat):List (List Nat)->List Nat
 |[]=>[]
 |p::q=>match q with|[]=>p|_::_=>p++s++gl s q
def bo(s p:List Nat):gl s [p]=p:=by rw[gl]
def a7(s p:List Nat){q:List (List Nat)}(h:q≠[]):gl s (p::q)=p++s++gl s q:=by
 cases q with
 |nil=>exact absurd rfl h
 |cons a b=>rw[gl]
theorem jt(s:List Nat):∀(a b:List (List Nat)),a≠[]->b≠[]->gl s (a++b)=gl s a++s++gl s b
 |[],b,h,_=>absurd rfl h
 |[p],b,_,h=>by rw[List.singleton_append,a7 s p h,bo]
 |p::q::r,b,_,h=>by
  rw[List.cons_append,a7 s p (by simp),jt s (q::r) b (by simp) h,a7 s p (q:=q::r) (by simp)]
  simp only[List.append_assoc]
theorem eS(s:List Nat):∀(P:Vs),(Str.join (ak s) P).cps.toList=gl s (P.map fun z=>z.cps.toList)
 |[]=>rfl
 |[p]=>by rw[EV,Fo,bo];rfl
 |p::a::q=>by
  have ih:=eS s (a::q)
  rw[EV,a7 s _ (by simp),<-ih]
  show((p.cps++(ak s).cps)++(Str.join (ak s) (a::q)).cps).toList=_
  simp[ak]
noncomputable def di(c:Nat):List Nat->List (List Nat)
 |[]=>[[]]
 |d::r=>if d=c then []::di c r else match di c r with
  |[]=>[[d]]
  |p::q=>(d::p)::q
theorem kl(c:Nat):∀(p:List Nat),c ∉ p->di c p=[p]
 |[],_=>rfl
 |d::r,h=>by
  unfold di
  rw[if_neg (fun e=>h (by rw[<-e];exact Fg)),kl c r fun z=>h (Fi _ z)]
theorem eT(c:Nat):∀(p r:List Nat),c ∉ p->di c (p++[c]++r)=p::di c r
 |[],r,_=>by
  show di c (c::r)=_
  rw[di,if_pos rfl]
 |d::p,r,h=>by
  show di c (d::(p++[c]++r))=_
  rw[di,if_neg (fun e=>h (by rw[<-e];exact Fg)),eT c p r fun z=>h (Fi _ z)]
theorem gN(c:Nat):∀(P:List (List Nat)),P≠[]->(∀p∈P,c ∉ p)->di c (gl [c] P)=P
 |[],h,_=>absurd rfl h
 |[p],_,h=>by rw[bo];exact kl c p (h p Fg)
 |p::a::q,_,h=>by
  rw[a7 _ _ (by simp),eT c _ _ (h p Fg),gN c (a::q) (by simp) fun x hx=>h x (Fi _ hx)]
def gO(z:Str)(c:Nat):gl [c] ((Txt.split z ⟨#[c]⟩).map fun y=>y.cps.toList)=z.cps.toList:=by
 have h1:=PySem.StrLaws.join_split z (ak [c])
 have h4:=eS [c] (Txt.split z (ak [c]))
 rw[h1]at h4
 exact h4.symm
def mS(z:Str)(c:Nat):(Txt.split z ⟨#[c]⟩).map (fun y=>y.cps.toList)=di c z.cps.toList:=by
 have h2:=GD z c
 have h3:=PyProof.Rows.split_pos z ⟨#[c]⟩
 rw[<-gO z c,gN c]
 ·intro e
  have:=FA List.length e
  simp at this
  rw[this]at h3
  simp at h3
 ·intro p hp
  obtain⟨y,hy,rfl⟩:=Fq.mp hp
  exact h2 y hy
def km(l:List Nat)(c:Nat):Txt.split (ak l) ⟨#[c]⟩=(di c l).map ak:=by
 have h:=mS (ak l) c
 rw[toL]at h
 rw[<-h,Fy]
 conv=>lhs;rw[<-G7 (Txt.split (ak l) ⟨#[c]⟩)]
 exact Hq fun y _=>(eu y).symm
noncomputable def rp(c:Nat)(d l:List Nat):List Nat:=l.flatMap fun x=>if x=c then d else [x]
def gP(c:Nat)(d a b:List Nat):rp c d (a++b)=rp c d a++rp c d b:=by simp[rp]
theorem dY(c:Nat)(d:List Nat):∀(p:List Nat),c ∉ p->rp c d p=p
 |[],_=>rfl
 |x::r,h=>by
  show(if x=c then d else [x])++rp c d r=_
  rw[if_neg (fun e=>h (by rw[<-e];exact Fg)),dY c d r fun z=>h (Fi _ z)]
  rfl
def uF(c:Nat)(d:List Nat):rp c d [c]=d:=by simp[rp]
theorem r6(c:Nat)(d:List Nat):∀(P:List (List Nat)),(∀p∈P,c ∉ p)->rp c d (gl [c] P)=gl d P
 |[],_=>rfl
 |[p],h=>by rw[bo,bo];exact dY c d p (h p Fg)
 |p::a::q,h=>by
  rw[a7 [c] p (q:=a::q) (by simp),a7 d p (q:=a::q) (by simp),gP,gP,uF,dY c d p (h p Fg),r6 c d (a::q) fun x hx=>h x (Fi _ hx)]
def oU(l d:List Nat)(c:Nat):Txt.replace (ak l) ⟨#[c]⟩ (ak d)=ak (rp c d l):=by
 rw[PySem.StrLaws.replace_one]
 have h:=eS d (Txt.split (ak l) ⟨#[c]⟩)
 have h2:rp c d l=gl d ((Txt.split (ak l) ⟨#[c]⟩).map fun y=>y.cps.toList):=by
  have e:=gO (ak l) c
  rw[toL]at e
  conv=>lhs;rw[<-e]
  refine r6 c d _ fun p hp=>?_
  obtain⟨y,hy,rfl⟩:=Fq.mp hp
  exact GD (ak l) c y hy
 rw[h2,<-h,eu]
theorem k7(c:Nat)(d s:List Nat):∀(P:List (List Nat)),c ∉ s->rp c d (gl s P)=gl s (P.map (rp c d))
 |[],_=>rfl
 |[p],_=>by rw[EV,Fo,bo,bo]
 |p::a::q,h=>by
  rw[a7 s p (q:=a::q) (by simp),EV,a7 s (rp c d p) (q:=(a::q).map (rp c d)) (by simp),gP,gP,dY c d s h,k7 c d s (a::q) h]
end T7
namespace T7
open PySem PySem.NumText T5 C
noncomputable abbrev sg(z:Str):List Nat:=z.cps.toList
noncomputable def tx:Bd->List Nat
 | .rest=>sg "rest"
 | .pay x y=>[40]++gl [32] [sg "pay",txt (x,y)]++[41]
 | .put z m=>[40]++gl [32] [sg "put",sg z,num m]++[41]
 | .use z=>[40]++gl [32] [sg "use",sg z]++[41]
 | .Av a=>[40]++gl [32] [sg "often",tx a]++[41]
 | .yS a b=>[40]++gl [32] [sg "then",tx a,tx b]++[41]
 | .Aw a b=>[40]++gl [32] [sg "either",tx a,tx b]++[41]
 | .Am z m a b=>[40]++gl [32] [sg "take",sg z,num m,tx a,tx b]++[41]
noncomputable def wd:Bd->List (List Nat)
 | .rest=>[sg "rest"]
 | .pay x y=>[[40],sg "pay",txt (x,y),[41]]
 | .put z m=>[[40],sg "put",sg z,num m,[41]]
 | .use z=>[[40],sg "use",sg z,[41]]
 | .Av a=>[[40],sg "often"]++wd a++[[41]]
 | .yS a b=>[[40],sg "then"]++wd a++wd b++[[41]]
 | .Aw a b=>[[40],sg "either"]++wd a++wd b++[[41]]
 | .Am z m a b=>[[40],sg "take",sg z,num m]++wd a++wd b++[[41]]
def Wo(l:List Nat):Prop:=32 ∉ l/\40 ∉ l/\41 ∉ l/\10 ∉ l
noncomputable def Wf:Bd->Prop
 | .rest=>True
 | .pay x y=>Wo (txt (x,y))
 | .put z m=>Wo (sg z)/\Wo (num m)
 | .use z=>Wo (sg z)
 | .Av a=>Wf a
 | .yS a b=>Wf a/\Wf b
 | .Aw a b=>Wf a/\Wf b
 | .Am z m a b=>Wo (sg z)/\Wo (num m)/\Wf a/\Wf b
theorem kn:∀t,wd t≠[]
 | .rest=>by simp[wd]
 | .pay _ _=>by simp[wd]
 | .put _ _=>by simp[wd]
 | .use _=>by simp[wd]
 | .Av a=>by simp[wd]
 | .yS a b=>by simp[wd]
 | .Aw a b=>by simp[wd]
 | .Am _ _ a b=>by simp[wd]
noncomputable def rq(l:List Nat):List Nat:=rp 41 [32,41] (rp 40 [40,32] l)
def oV(a b:List Nat):rq (a++b)=rq a++rq b:=by simp[rq,gP]
def iN{l:List Nat}(h:Wo l):rq l=l:=by rw[rq,dY 40 _ l h.2.1,dY 41 _ l h.2.2.1]
def wt(P:List (List Nat)):rq (gl [32] P)=gl [32] (P.map rq):=by
 rw[rq,k7 40 _ _ _ (by simp),k7 41 _ _ _ (by simp),Fy]
 rfl
def gQ(P:List (List Nat))(W:List (List Nat))(hW:W≠[])(e:gl [32] (P.map rq)=gl [32] W):rq ([40]++gl [32] P++[41])=gl [32] ([[40]]++W++[[41]]):=by
 rw[oV,oV,wt,e,jt [32] ([[40]]++W) [[41]] (by simp) (by simp),jt [32] [[40]] W (by simp) hW,bo,bo]
 show[40,32]++gl [32] W++[32,41]=_
 simp
theorem eU:∀(Ws:List (List (List Nat))),(∀W∈Ws,W≠[])->gl [32] (Ws.map (gl [32]))=gl [32] Ws.flatten
 |[],_=>rfl
 |[W],_=>by simp[bo]
 |W::V::r,h=>by
  have ih:=eU (V::r) fun x hx=>h x (Fi _ hx)
  rw[EV,a7 [32] _ (q:=(V::r).map (gl [32])) (by simp),ih,show(W::V::r).flatten=W++(V::r).flatten from rfl,jt [32] W _ (h W Fg)]
  intro e
  have:=h V (by simp)
  simp at e
  exact this e.1
theorem fL:∀t,Wf t->rq (tx t)=gl [32] (wd t)
 | .rest,_=>by decide +kernel
 | .pay x y,h=>by
  have:=gQ [sg "pay",txt (x,y)] [sg "pay",txt (x,y)] (by simp) (by rw[EV,EV,Fo,iN h,show rq (sg "pay")=sg "pay" by decide +kernel])
  exact this
 | .put z m,h=>by
  have:=gQ [sg "put",sg z,num m] [sg "put",sg z,num m] (by simp) (by rw[EV,EV,EV,Fo,iN h.1,iN h.2,show rq (sg "put")=sg "put" by decide +kernel])
  exact this
 | .use z,h=>by
  have:=gQ [sg "use",sg z] [sg "use",sg z] (by simp) (by rw[EV,EV,Fo,iN h,show rq (sg "use")=sg "use" by decide +kernel])
  exact this
 | .Av a,h=>by
  have e:=eU [[sg "often"],wd a] (by simp[kn])
  have:=gQ [sg "often",tx a] ([sg "often"]++wd a) (by simp) (by
   rw[EV,EV,Fo,fL a h,show rq (sg "often")=gl [32] [sg "often"] by decide +kernel]
   simpa using e)
  simpa [wd,tx]using this
 | .yS a b,h=>by
  have e:=eU [[sg "then"],wd a,wd b] (by simp[kn])
  have:=gQ [sg "then",tx a,tx b] ([sg "then"]++wd a++wd b) (by simp) (by
   rw[EV,EV,EV,Fo,fL a h.1,fL b h.2,show rq (sg "then")=gl [32] [sg "then"] by decide +kernel]
   simpa using e)
  simpa [wd,tx]using this
 | .Aw a b,h=>by
  have e:=eU [[sg "either"],wd a,wd b] (by simp[kn])
  have:=gQ [sg "either",tx a,tx b] ([sg "either"]++wd a++wd b) (by simp) (by
   rw[EV,EV,EV,Fo,fL a h.1,fL b h.2,show rq (sg "either")=gl [32] [sg "either"] by decide +kernel]
   simpa using e)
  simpa [wd,tx]using this
 | .Am z m a b,h=>by
  have e:=eU [[sg "take"],[sg z],[num m],wd a,wd b] (by simp[kn])
  have:=gQ [sg "take",sg z,num m,tx a,tx b] ([sg "take",sg z,num m]++wd a++wd b) (by simp) (by
   rw[EV,EV,EV,EV,EV,Fo,iN h.1,iN h.2.1,fL a h.2.2.1,fL b h.2.2.2,show rq (sg "take")=gl [32] [sg "take"] by decide +kernel]
   simpa [bo]using e)
  simpa [wd,tx]using this
theorem ce:∀t,Wf t->∀w∈wd t,32 ∉ w
 | .rest,_,w,h=>by rw[E8.mp h];decide +kernel
 | .pay x y,f,w,h=>by
  simp only[wd,E1,Fb,FU]at h
  rcases h with rfl|rfl|rfl|rfl
  ·simp
  ·decide +kernel
  ·exact f.1
  ·simp
 | .put z m,f,w,h=>by
  simp only[wd,E1,Fb,FU]at h
  rcases h with rfl|rfl|rfl|rfl|rfl
  ·simp
  ·decide +kernel
  ·exact f.1.1
  ·exact f.2.1
  ·simp
 | .use z,f,w,h=>by
  simp only[wd,E1,Fb,FU]at h
  rcases h with rfl|rfl|rfl|rfl
  ·simp
  ·decide +kernel
  ·exact f.1
  ·simp
 | .Av a,f,w,h=>by
  simp only[wd,E1,Fe,Fb,FU]at h
  rcases h with((rfl|rfl)|h)|rfl
  ·simp
  ·decide +kernel
  ·exact ce a f w h
  ·simp
 | .yS a b,f,w,h=>by
  simp only[wd,E1,Fe,Fb,FU]at h
  rcases h with(((rfl|rfl)|h)|h)|rfl
  ·simp
  ·decide +kernel
  ·exact ce a f.1 w h
  ·exact ce b f.2 w h
  ·simp
 | .Aw a b,f,w,h=>by
  simp only[wd,E1,Fe,Fb,FU]at h
  rcases h with(((rfl|rfl)|h)|h)|rfl
  ·simp
  ·decide +kernel
  ·exact ce a f.1 w h
  ·exact ce b f.2 w h
  ·simp
 | .Am z m a b,f,w,h=>by
  simp only[wd,E1,Fe,Fb,FU]at h
  rcases h with(((rfl|rfl|rfl|rfl)|h)|h)|rfl
  ·simp
  ·decide +kernel
  ·exact f.1.1
  ·exact f.2.1.1
  ·exact ce a f.2.2.1 w h
  ·exact ce b f.2.2.2 w h
  ·simp
end T7
namespace G07
open PySem L2 L3
noncomputable def bf(i:Nat):Stmt:=PySem.Challenge.pw_dueworth_k07_whole_houses_written_and_re.main.body.getD i (.Pass ⟨0,0,0,0⟩)
structure Txt (P:Program) (w:World) (K:Vo) (mg:Vr):Prop where
 o_common:a5 K mg "common" (bf 5) ["one","other"]
 o_show_figures:a5 K mg "show_figures" (bf 6) ["number"]
 o_read_figures:a5 K mg "read_figures" (bf 7) ["text"]
 o_show_fraction:a5 K mg "show_fraction" (bf 8) ["one"]
 o_read_from_nought_on:a5 K mg "read_from_nought_on" (bf 9) ["text"]
 o_is_name:a5 K mg "is_name" (bf 13) ["text"]
 o_read_name:a5 K mg "read_name" (bf 16) ["word"]
 o_read_things:a5 K mg "read_things" (bf 17) ["word"]
 o_read_word:a5 K mg "read_word" (bf 18) ["kind","word"]
 o_split_words:a5 K mg "split_words" (bf 19) ["text"]
 o_word_at:a5 K mg "word_at" (bf 20) ["words","place"]
 o_read_part:a5 K mg "read_part" (bf 21) ["words","place"]
 o_read_body:a5 K mg "read_body" (bf 22) ["text"]
 o_read_jars:a5 K mg "read_jars" (bf 23) ["row"]
 o_read_deed:a5 K mg "read_deed" (bf 24) ["row"]
 o_read_house:a5 K mg "read_house" (bf 25) ["text"]
 o_sides_of:a5 K mg "sides_of" (bf 28) ["body"]
 o_show_body:a5 K mg "show_body" (bf 30) ["body"]
 o_show_house:a5 K mg "show_house" (bf 31) ["house"]
 o__law_deal:a5 K mg "_law_deal" (bf 33) ["_law_script","_law_base"]
 o__law_draw:a5 K mg "_law_draw" (bf 34) ["_law_deal_here","_law_many"]
 o__law_low:a5 K mg "_law_low" (bf 35) ["_law_top","_law_bottom"]
 o__law_kept:a5 K mg "_law_kept" (bf 36) []
 o__law_name:a5 K mg "_law_name" (bf 37) ["_law_deal_here"]
 o__law_any_leaf:a5 K mg "_law_any_leaf" (bf 38) ["_law_deal_here","_law_words"]
 o__law_any_body:a5 K mg "_law_any_body" (bf 39) ["_law_deal_here","_law_words","_law_room","_law_down"]
 o__law_cost_text:a5 K mg "_law_cost_text" (bf 40) ["_law_cost"]
 o__law_body_text:a5 K mg "_law_body_text" (bf 41) ["_law_body"]
 o__law_any_house:a5 K mg "_law_any_house" (bf 42) ["_law_deal_here"]
 o__law_house_text:a5 K mg "_law_house_text" (bf 43) ["_law_house"]
 o__law_right:a5 K mg "_law_right" (bf 44) ["_law_house"]
 BZ:mg "abs" = none
 B1:mg "all" = none
 BA:mg "int" = none
 zJ:mg "isinstance" = none
 y7:mg "len" = none
 Ch:mg "list" = none
 B2:mg "max" = none
 z6:mg "range" = none
 zU:mg "repr" = none
 Az:mg "reversed" = none
 Ad:mg "str" = none
 Ae:mg "tuple" = none
 Bp:∃t,mg "FIGURES" = some (.str "0123456789" t)
 Bg:∃a,mg "FORMS" = some (.ref a)/\KF P w K a [("pay",["cost"]),("put",["name","things"]),("then",["body","body"]),("either",["body","body"]),("take",["name","things","body","body"]),("often",["body"]),("use",["name"])]
 AG:∃a,mg "KEPT_WORDS" = some (.ref a)/\uo K a ["jars","deed","rest","pay","put","then","either","take","often","use"]
 Bq:∃t,mg "LETTERS" = some (.str "abcdefghijklmnopqrstuvwxyz" t)
 AH:∃a,mg "SIDES_FROM" = some (.ref a)/\KD P w K a (C.k_SIDES_FROM.map fun kv=>(kv.1,V.int kv.2))
section
variable {P:Program} {w:World} {K:Vo} {mg:Vr} {base:Heap}
def wu:(["sign"]:Vs).Nodup:=by decide +kernel
def wv:(["word"]:Vs).Nodup:=by decide +kernel
def xU:(["side"]:Vs).Nodup:=by decide +kernel
def ww:(["_law_one"]:Vs).Nodup:=by decide +kernel
def xV:(["_law_k","_law_deal_here","_law_letters"]:Vs).Nodup:=by decide +kernel
def xW:(["_law_k","_law_deal_here"]:Vs).Nodup:=by decide +kernel
def xX:(["_law_k","_law_deal_here","_law_words"]:Vs).Nodup:=by decide +kernel
def wx:(["_law_name_here","_law_body"]:Vs).Nodup:=by decide +kernel
def ko:aH:=a4 3 C.gE
def mT(T:Txt P w K mg):zI P w K mg base 1 "common" 2 ko:=er ["one","other","left"] T.o_common (fun _ _ _ _ _ _ _ hr nd=>(ab (f8 FN (lF hr (af 1) ac) (ab (s4 2 nd (av dc (af 0) (af 1)))
  (ab (s4 0 nd (af 1))
  (ai (s4 1 nd (af 2))))))
  (ai (ax (cB rQ T.BZ (l1 (af 0))))))) rfl
def b3:bc:=(ae (aq 1 (bM []))
  (ae (gA (aT (aj va (v3 0) (aj gC (c3 (.int 10)) (c3 (.int 60))))) (ae (a3 (bI "list" aD (v3 1) [(bI "str" gF (ah cD [(aj d3 (v3 0) (aj gC (c3 (.int 10)) (c3 (.int 60))))]) [(c3 (.int 60))])]))
  (aq 0 (aj fI (v3 0) (aj gC (c3 (.int 10)) (c3 (.int 60)))))))
  (ae (a3 (bI "list" aD (v3 1) [(ah cD [(v3 0)])]))
  (aG (kZ (c3 (.str "")) (v3 1))))))
def dB:aH:=a4 2 b3
def de(T:Txt P w K mg):zI P w K mg base 1 "show_figures" 1 dB:=er ["number","pieces"] T.o_show_figures (fun _ _ _ _ _ _ _ hr nd=>(ab (s4 1 nd (bX j1))
  (ab (f8 FN (bi wc (af 0) (av gD ac ac) (aV _)) (ab (bY (fJ aS aZ (af 1) (l1 (fJ ka lG (cT Ay T.Ad (l1 (av dc (af 0) (av gD ac ac)))) (l1 ac)))))
  (ai (s4 0 nd (av jo (af 0) (av gD ac ac))))))
  (ab (bY (fJ aS aZ (af 1) (l1 (cT Ay T.Ad (l1 (af 0))))))
  (ai (ax (qK ql rfl rfl T.Az ag (af 1)))))))) rfl
def b4:bc:=(ae (bu (jb (aT (aj (bL false) (v3 0) (c3 (.str "")))) (mv (aT (ah mw [(a9 (aX (v3 0)) (.n 0) cF (aj (lB false) (v3 0) (c3 (.str "0123456789"))) 1 [])])))) bB aQ)
  (ae (bu (ms (aT (aj (bL false) (aj aw (v3 0) (c3 (.int 0))) (c3 (.str "0")))) (aT (aj (bL true) (v3 0) (c3 (.str "0"))))) bB aQ)
  (ae (aq 1 (c3 (.int 0)))
  (ae (aq 2 (bI "str" gF (v3 0) [(aj aF (ah bt [(v3 0)]) (aj d3 (tU kP (ah bt [(v3 0)])) (c3 (.int 60))))]))
  (ae (du (uh (c3 (.int 0)) (ah bt [(v3 2)]) (c3 (.int 60))) (.n 3) (aq 1 (aj aF (aj fU (v3 1) (aj gC (c3 (.int 10)) (c3 (.int 60)))) (ah iJ [(aY (v3 2) (jg (v3 3)) (jg (aj aF (v3 3) (c3 (.int 60)))))]))))
  (aG (v3 1)))))))
def dC:aH:=a4 4 b4
def df(T:Txt P w K mg):zI P w K mg base 1 "read_figures" 1 dC:=er ["text","number","padded","place"] T.o_read_figures (fun _ _ _ _ _ _ _ hr nd=>(ab (aU (m7 (gu (jM hr (af 0) ag) (d6 (rO (j2 (cB (rR rfl) T.B1 (l1 (pL [] 1 [] ["sign"] (cE (af 0)) (fun _=>(gn 0 wu)) (fun _=>d9) (fun _=>(nR (nW (j_ hr)) (af 0) (yi T.Bp) rfl)))))))))) (ai bd) aK)
  (ab (aU (m7 (rN (jM hr (ee hr (af 0)) ag) (nT (lF hr (af 0) ag)))) (ai bd) aK)
  (ab (s4 1 nd ac)
  (ab (s4 2 nd (fJ ka lG (af 0) (l1 (av au (cB bn T.y7 (l1 (af 0))) (av dc (vW nV (cB bn T.y7 (l1 (af 0)))) ac)))))
  (ab (fH FN rfl (oz rfl rfl rfl T.z6 (lc ac (lc (cB bn T.y7 (l1 (af 2))) (l1 ac)))) (gn 3 nd) (ai (s4 1 nd (av au (av ei (af 1) (av gD ac ac)) (cT rW T.BA (l1 (b8 (af 2) (cq (af 3)) (cq (av au (af 3) ac)))))))))
  (ai (ax (af 1))))))))) rfl
def bN(zV:aH):bc:=(ae (aq 1 (ad zV [(ah kU [(aj aw (v3 0) (c3 (.int 0)))])]))
  (ae (bu (aT (aj mC (aj aw (v3 0) (c3 (.int 0))) (c3 (.int 0)))) (aq 1 (aj aF (c3 (.str "-")) (v3 1))) aQ)
  (ae (bu (aT (aj (bL false) (aj aw (v3 0) (c3 (.int 1))) (c3 (.int 1)))) (aG (v3 1)) aQ)
  (aG (aj aF (aj aF (v3 1) (c3 (.str "/"))) (ad zV [(aj aw (v3 0) (c3 (.int 1)))]))))))
def bO:aH:=a4 2 (bN dB)
def fj(T:Txt P w K mg):zI P w K mg base 2 "show_fraction" 1 bO:=er ["one","text"] T.o_show_fraction (fun _ _ _ _ _ _ _ hr nd=>(ab (s4 1 nd (c4 (de T) hr (l1 (cB rQ T.BZ (l1 (ee hr (af 0)))))))
  (ab (aU (bi jp (ee hr (af 0)) ac (aV _)) (ai (s4 1 nd (av au ag (af 1)))) aK)
  (ab (aU (jM hr (ee hr (af 0)) ac) (ai (ax (af 1))) aK)
  (ai (ax (av au (av au (af 1) ag) (c4 (de T) hr (l1 (ee hr (af 0))))))))))) rfl
def aW(zW BB:aH):bc:=(ae (aq 1 (bI "str" cu (v3 0) [(c3 (.str "/"))]))
  (ae (aq 2 (ad zW [(aj aw (v3 1) (c3 (.int 0)))]))
  (ae (bu (aT (aj (bL false) (ah bt [(v3 1)]) (c3 (.int 1)))) (aG (bA [(v3 2),(c3 (.int 1))])) aQ)
  (ae (bu (aT (aj qJ (ah bt [(v3 1)]) (c3 (.int 2)))) bB aQ)
  (ae (aq 3 (ad zW [(aj aw (v3 1) (c3 (.int 1)))]))
  (ae (bu (jb (aT (aj mC (v3 3) (c3 (.int 2)))) (aT (aj (bL true) (ad BB [(v3 2),(v3 3)]) (c3 (.int 1))))) bB aQ)
  (aG (bA [(v3 2),(v3 3)]))))))))
def bx:aH:=a4 4 (aW dC ko)
def cS(T:Txt P w K mg):zI P w K mg base 2 "read_from_nought_on" 1 bx:=er ["text","pieces","top","bottom"] T.o_read_from_nought_on (fun _ _ _ _ _ _ _ hr nd=>(ab (s4 1 nd (fJ dy eQ (af 0) (l1 ag)))
  (ab (s4 2 nd (c4 (df T) hr (l1 (ee hr (af 1)))))
  (ab (aU (jM hr (cB bn T.y7 (l1 (af 1))) ac) (ai (ax (bm (lc (af 2) (l1 ac))))) aK)
  (ab (aU (bi om (cB bn T.y7 (l1 (af 1))) ac (aV _)) (ai bd) aK)
  (ab (s4 3 nd (c4 (df T) hr (l1 (ee hr (af 1)))))
  (ab (aU (m7 (gu (bi jp (af 3) ac (aV _)) (d6 (lF hr (c4 (mT T) hr (lc (af 2) (l1 (af 3)))) ac)))) (ai bd) aK)
  (ai (ax (bm (lc (af 2) (l1 (af 3))))))))))))) rfl
def fk:bc:=(ae (bu (jb (aT (aj mC (ah bt [(v3 0)]) (c3 (.int 1)))) (aT (aj qJ (ah bt [(v3 0)]) (c3 (.int 6))))) (aG (c3 (.bl false))) aQ)
  (aG (eK (aj (lB true) (v3 0) (c3 (.tup ((["jars","deed","rest","pay","put","then","either","take","often","use"]:Vs).map PV.str)))) (ah mw [(a9 (aX (v3 0)) (.n 0) cF (aj (lB false) (v3 0) (c3 (.str "abcdefghijklmnopqrstuvwxyz"))) 1 [])]))))
def iO:aH:=a4 1 fk
def k8(T:Txt P w K mg):zI P w K mg base 1 "is_name" 1 iO:=er ["text"] T.o_is_name (fun _ _ _ _ _ _ _ hr nd=>(ab (aU (m7 (gu (bi jp (cB bn T.y7 (l1 (af 0))) ac (aV _)) (d6 (bi om (cB bn T.y7 (l1 (af 0))) ac (aV _))))) (ai (ax qr)) aK)
  (ai (ax (nU (nR (j4 (j_ hr)) (af 0) (yF T.AG) rfl) (rP (cB (rR rfl) T.B1 (l1 (pL [] 1 [] ["sign"] (cE (af 0)) (fun _=>(gn 0 wu)) (fun _=>d9) (fun _=>(nR (nW (j_ hr)) (af 0) (yi T.Bq) rfl))))))))))) rfl
def dD(Br:aH):bc:=(ae (bu (mv (aT (ad Br [(v3 0)]))) bB aQ)
  (aG (v3 0)))
def bK:aH:=a4 1 (dD iO)
def cU(T:Txt P w K mg):zI P w K mg base 2 "read_name" 1 bK:=er ["word"] T.o_read_name (fun _ _ _ _ _ _ _ hr nd=>(ab (aU (rO (j2 (c4 (k8 T) hr (l1 (af 0))))) (ai bd) aK)
  (ai (ax (af 0))))) rfl
def cv:bc:=(ae (bu (jb (aT (aj (bL true) (ah bt [(v3 0)]) (c3 (.int 1)))) (aT (aj (lB true) (v3 0) (c3 (.str "123456789"))))) bB aQ)
  (aG (ah iJ [(v3 0)])))
def ef:aH:=a4 1 cv
def gR(T:Txt P w K mg):zI P w K mg base 1 "read_things" 1 ef:=er ["word"] T.o_read_things (fun _ _ _ _ _ _ _ hr nd=>(ab (aU (m7 (gu (lF hr (cB bn T.y7 (l1 (af 0))) ac) (d6 (bi (j4 (j_ hr)) (af 0) ag rfl)))) (ai bd) aK)
  (ai (ax (cT rW T.BA (l1 (af 0))))))) rfl
def dE(zP AB ze:aH):bc:=(ae (bu (aT (aj (bL false) (v3 0) (c3 (.str "cost")))) (aG (ad zP [(v3 1)])) aQ)
  (ae (bu (aT (aj (bL false) (v3 0) (c3 (.str "things")))) (aG (ad AB [(v3 1)])) aQ)
  (aG (ad ze [(v3 1)]))))
def dF:aH:=a4 2 (dE bx ef bK)
def ju(T:Txt P w K mg):zI P w K mg base 3 "read_word" 2 dF:=er ["kind","word"] T.o_read_word (fun _ _ _ _ _ _ _ hr nd=>(ab (aU (jM hr (af 0) ag) (ai (ax (c4 (cS T) hr (l1 (af 1))))) aK)
  (ab (aU (jM hr (af 0) ag) (ai (ax (c4 (gR T) hr (l1 (af 1))))) aK)
  (ai (ax (c4 (cU T) hr (l1 (af 1)))))))) rfl
def cw:bc:=(aG (bI "str" cu (lL ")" " )" (lL "(" "( " (v3 0))) [(c3 (.str " "))]))
def eg:aH:=a4 1 cw
def gS(T:Txt P w K mg):zI P w K mg base 1 "split_words" 1 eg:=er ["text"] T.o_split_words (fun _ _ _ _ _ _ _ hr nd=>(ai (ax (fJ dy eQ (oH (oH (af 0))) (l1 ag))))) rfl
def fm:bc:=(ae (bu (aT (aj mC (v3 1) (ah bt [(v3 0)]))) (aG (aj aw (v3 0) (v3 1))) aQ)
  (aG (c3 (.str ""))))
def fo:aH:=a4 2 fm
def bh(T:Txt P w K mg):zI P w K mg base 1 "word_at" 2 fo:=er ["words","place"] T.o_word_at (fun _ _ _ _ _ _ _ hr nd=>(ab (aU (bi jp (af 1) (cB bn T.y7 (l1 (af 0))) (aV _)) (ai (ax (iI hr (af 0) (af 1)))) aK)
  (ai (ax ag)))) rfl
def dG(y6 AU s0:aH):bc:=(ae (bu (aT (aj (bL false) (ad y6 [(v3 0),(v3 1)]) (c3 (.str "rest")))) (aG (bA [(bA [(c3 (.str "rest"))]),(aj aF (v3 1) (c3 (.int 1)))])) aQ)
  (ae (aq 2 (ad y6 [(v3 0),(aj aF (v3 1) (c3 (.int 1)))]))
  (ae (bu (jb (aT (aj (bL true) (ad y6 [(v3 0),(v3 1)]) (c3 (.str "(")))) (aT (oG [("pay",["cost"]),("put",["name","things"]),("then",["body","body"]),("either",["body","body"]),("take",["name","things","body","body"]),("often",["body"]),("use",["name"])] (v3 2)))) bB aQ)
  (ae (aq 3 (bM [(v3 2)]))
  (ae (aq 1 (aj aF (v3 1) (c3 (.int 2))))
  (ae (du (aX (oF [("pay",["cost"]),("put",["name","things"]),("then",["body","body"]),("either",["body","body"]),("take",["name","things","body","body"]),("often",["body"]),("use",["name"])] (v3 2))) (.n 4) (bu (aT (aj (bL false) (v3 4) (c3 (.str "body")))) (ae (aq 5 (ad s0 [(v3 0),(v3 1)]))
  (ae (a3 (bI "list" aD (v3 3) [(aj aw (v3 5) (c3 (.int 0)))]))
  (aq 1 (aj aw (v3 5) (c3 (.int 1)))))) (ae (a3 (bI "list" aD (v3 3) [(ad AU [(v3 4),(ad y6 [(v3 0),(v3 1)])])]))
  (aq 1 (aj aF (v3 1) (c3 (.int 1)))))))
  (ae (bu (aT (aj (bL true) (ad y6 [(v3 0),(v3 1)]) (c3 (.str ")")))) bB aQ)
  (aG (bA [(ah a6 [(v3 3)]),(aj aF (v3 1) (c3 (.int 1)))])))))))))
noncomputable def cf:Nat->aH
 |0=>vc
 |n+1=>a4 6 (dG fo dF (cf n))
def fM:aH:=cf 12
def jv(T:Txt P w K mg):zI P w K mg base 15 "read_part" 2 fM:=on (b:=3) (r:=cf) T.o_read_part (fun n R0=>er ["words","place","head","found","kind","side"] T.o_read_part (fun _ _ _ _ _ _ _ hr nd=>(ab (aU (jM hr (c4 (bh T) hr (lc (af 0) (l1 (af 1)))) ag) (ai (ax (bm (lc (bm (l1 ag)) (l1 (av au (af 1) ac)))))) aK)
  (ab (s4 2 nd (c4 (bh T) hr (lc (af 0) (l1 (av au (af 1) ac)))))
  (ab (aU (m7 (gu (lF hr (c4 (bh T) hr (lc (af 0) (l1 (af 1)))) ag) (d6 (xS T.Bg (af 2))))) (ai bd) aK)
  (ab (s4 3 nd (bX (l1 (af 2))))
  (ab (s4 1 nd (av au (af 1) ac))
  (ab (fH FN rfl (cE (yG T.Bg (af 2) (fun _ _=>rfl))) (gn 4 nd) (ai (aU (jM hr (af 4) ag) (ab (s4 5 nd (c4 R0 hr (lc (af 0) (l1 (af 1)))))
  (ab (bY (fJ aS aZ (af 3) (l1 (ee hr (af 5)))))
  (ai (s4 1 nd (ee hr (af 5)))))) (ab (bY (fJ aS aZ (af 3) (l1 (c4 (ju T) hr (lc (af 4) (l1 (c4 (bh T) hr (lc (af 0) (l1 (af 1))))))))))
  (ai (s4 1 nd (av au (af 1) ac)))))))
  (ab (aU (lF hr (c4 (bh T) hr (lc (af 0) (l1 (af 1)))) ag) (ai bd) aK)
  (ai (ax (bm (lc (cT eN T.Ae (l1 (af 3))) (l1 (av au (af 1) ac)))))))))))))) rfl) rfl rfl 12
def dH(AC AV:aH):bc:=(ae (aq 1 (ad AC [(v3 0)]))
  (ae (aq 2 (ad AV [(v3 1),(c3 (.int 0))]))
  (ae (bu (aT (aj (bL true) (aj aw (v3 2) (c3 (.int 1))) (ah bt [(v3 1)]))) bB aQ)
  (aG (aj aw (v3 2) (c3 (.int 0)))))))
def cg:aH:=a4 3 (dH eg fM)
def eV(T:Txt P w K mg):zI P w K mg base 16 "read_body" 1 cg:=er ["text","words","whole_body"] T.o_read_body (fun _ _ _ _ _ _ _ hr nd=>(ab (s4 1 nd (c4 (gS T) hr (l1 (af 0))))
  (ab (s4 2 nd (c4 (jv T) hr (lc (af 1) (l1 ac))))
  (ab (aU (lF hr (ee hr (af 2)) (cB bn T.y7 (l1 (af 1)))) (ai bd) aK)
  (ai (ax (ee hr (af 2)))))))) rfl
def dI(ze:aH):bc:=(ae (aq 1 (bI "str" cu (v3 0) [(c3 (.str " "))]))
  (ae (bu (aT (aj (bL true) (aj aw (v3 1) (c3 (.int 0))) (c3 (.str "jars")))) bB aQ)
  (aG (ah a6 [(a9 (aX (aY (v3 1) (jg (c3 (.int 1))) kS)) (.n 0) cF (ad ze [(v3 0)]) 1 [])]))))
def fN:aH:=a4 2 (dI bK)
def jw(T:Txt P w K mg):zI P w K mg base 3 "read_jars" 1 fN:=er ["row","words"] T.o_read_jars (fun _ _ _ _ _ _ _ hr nd=>(ab (s4 1 nd (fJ dy eQ (af 0) (l1 ag)))
  (ab (aU (lF hr (ee hr (af 1)) ag) (ai bd) aK)
  (ai (ax (cT eN T.Ae (l1 (pL [] 1 [] ["word"] (cE (b8 (af 1) (cq ac) fb)) (fun _=>(gn 0 wv)) (fun _=>d9) (fun _=>(c4 (cU T) hr (l1 (af 0)))))))))))) rfl
def dJ(y6 ze zX:aH):bc:=(ae (aq 1 (bI "str" cu (v3 0) [(c3 (.str " "))]))
  (ae (bu (jb (aT (aj (bL true) (ad y6 [(v3 1),(c3 (.int 0))]) (c3 (.str "deed")))) (aT (aj (bL true) (ad y6 [(v3 1),(c3 (.int 2))]) (c3 (.str ":"))))) bB aQ)
  (aG (bA [(ad ze [(aj aw (v3 1) (c3 (.int 1)))]),(ad zX [(bI "str" b9 (c3 (.str " ")) [(aY (v3 1) (jg (c3 (.int 3))) kS)])])]))))
def fO:aH:=a4 2 (dJ fo bK cg)
def jx(T:Txt P w K mg):zI P w K mg base 17 "read_deed" 1 fO:=er ["row","words"] T.o_read_deed (fun _ _ _ _ _ _ _ hr nd=>(ab (s4 1 nd (fJ dy eQ (af 0) (l1 ag)))
  (ab (aU (m7 (gu (lF hr (c4 (bh T) hr (lc (af 1) (l1 ac))) ag) (d6 (lF hr (c4 (bh T) hr (lc (af 1) (l1 ac))) ag)))) (ai bd) aK)
  (ai (ax (bm (lc (c4 (cU T) hr (l1 (ee hr (af 1)))) (l1 (c4 (eV T) hr (l1 (fJ cb fc ag (l1 (b8 (af 1) (cq ac) fb))))))))))))) rfl
def cV(AW AX:aH):bc:=(ae (aq 1 (bI "str" cu (v3 0) [(c3 (.str "\n"))]))
  (ae (aq 2 (ad AW [(aj aw (v3 1) (c3 (.int 0)))]))
  (ae (aq 3 (bM []))
  (ae (du (mz (c3 (.int 1)) (ah bt [(v3 1)])) (.n 4) (uq (a3 (bI "list" aD (v3 3) [(ad AX [(aj aw (v3 1) (v3 4))])]))))
  (ae (bu (aT (aj (bL false) (v3 3) (bM []))) bB aQ)
  (aG (bA [(v3 2),(ah a6 [(v3 3)])])))))))
def cW:aH:=a4 5 (cV fN fO)
def ic(T:Txt P w K mg):zI P w K mg base 18 "read_house" 1 cW:=er ["text","rows","jars","deeds","number"] T.o_read_house (fun _ _ _ _ _ _ _ hr nd=>(ab (s4 1 nd (fJ dy eQ (af 0) (l1 ag)))
  (ab (s4 2 nd (c4 (jw T) hr (l1 (ee hr (af 1)))))
  (ab (s4 3 nd (bX j1))
  (ab (fH FN rfl (ol rfl rfl rfl T.z6 (lc ac (l1 (cB bn T.y7 (l1 (af 1)))))) (gn 4 nd) (ai (yH (fun E pins hp=>(ai (bY (fJ aS aZ (af 3) (l1 (c4 (jx T) hr (l1 (iI hr (af 1) (af 4))))))))))))
  (ab (aU (jM hr (af 3) (bX j1)) (ai bd) aK)
  (ai (ax (bm (lc (af 2) (l1 (cT eN T.Ae (l1 (af 3)))))))))))))) rfl
def gT:aH:=a4 1 C.en
def kq(T:Txt P w K mg):zI P w K mg base 1 "sides_of" 1 gT:=er ["body"] T.o_sides_of (fun _ _ _ _ _ _ _ hr nd=>(ai (ax (b8 (af 0) (cq (yD hr T.AH (ee hr (af 0)) (cB bn T.y7 (l1 (af 0))))) fb)))) rfl
def dL(Aq A9 s0:aH):bc:=(ae (bu (aT (aj (bL false) (aj aw (v3 0) (c3 (.int 0))) (c3 (.str "rest")))) (aG (c3 (.str "rest"))) aQ)
  (ae (bu (aT (aj (bL false) (aj aw (v3 0) (c3 (.int 0))) (c3 (.str "pay")))) (aG (aj aF (aj aF (c3 (.str "(pay ")) (ad Aq [(aj aw (v3 0) (c3 (.int 1)))])) (c3 (.str ")")))) aQ)
  (ae (aq 1 (ad A9 [(v3 0)]))
  (ae (aq 2 (aY (v3 0) kS (jg (aj bw (ah bt [(v3 0)]) (ah bt [(v3 1)])))))
  (ae (aq 3 (aj aF (a9 (aX (v3 2)) (.n 0) cF (ah oJ [(v3 0)]) 1 []) (a9 (aX (v3 1)) (.n 0) cF (ad s0 [(v3 0)]) 1 [])))
  (aG (aj aF (aj aF (c3 (.str "(")) (bI "str" b9 (c3 (.str " ")) [(v3 3)])) (c3 (.str ")")))))))))
noncomputable def ci:Nat->aH
 |0=>vc
 |n+1=>a4 4 (dL bO gT (ci n))
def dM:aH:=ci 12
def eW(T:Txt P w K mg):zI P w K mg base 14 "show_body" 1 dM:=on (b:=2) (r:=ci) T.o_show_body (fun n R0=>er ["body","sides","own","words"] T.o_show_body (fun _ _ _ _ _ _ _ hr nd=>(ab (aU (jM hr (ee hr (af 0)) ag) (ai (ax ag)) aK)
  (ab (aU (jM hr (ee hr (af 0)) ag) (ai (ax (av au (av au ag (c4 (fj T) hr (l1 (ee hr (af 0))))) ag))) aK)
  (ab (s4 1 nd (c4 (kq T) hr (l1 (af 0))))
  (ab (s4 2 nd (b8 (af 0) fb (cq (av cG (cB bn T.y7 (l1 (af 0))) (cB bn T.y7 (l1 (af 1)))))))
  (ab (s4 3 nd (av au (pL [] 1 [] ["word"] (cE (af 2)) (fun _=>(gn 0 wv)) (fun _=>d9) (fun _=>(cT wn T.Ad (l1 (af 0))))) (pL [] 1 [] ["side"] (cE (af 1)) (fun _=>(gn 0 xU)) (fun _=>d9) (fun _=>(c4 R0 hr (l1 (af 0)))))))
  (ai (ax (av au (av au ag (fJ cb fc ag (l1 (af 3)))) ag))))))))) rfl) rfl rfl 12
def cX(zY:aH):bc:=(ae (aq 1 (bM [(bI "str" fi (c3 (.str " ")) [(aj aF (bA [(c3 (.str "jars"))]) (aj aw (v3 0) (c3 (.int 0))))])]))
  (ae (du (aX (aj aw (v3 0) (c3 (.int 1)))) (.n 2) (a3 (bI "list" aD (v3 1) [(aj aF (aj aF (aj aF (c3 (.str "deed ")) (aj aw (v3 2) (c3 (.int 0)))) (c3 (.str " : "))) (ad zY [(aj aw (v3 2) (c3 (.int 1)))]))])))
  (aG (bI "str" b9 (c3 (.str "\n")) [(v3 1)]))))
def eX:aH:=a4 3 (cX dM)
def ie(T:Txt P w K mg):zI P w K mg base 15 "show_house" 1 eX:=er ["house","rows","deed"] T.o_show_house (fun _ _ _ _ _ _ _ hr nd=>(ab (s4 1 nd (bX (l1 (fJ cb lM ag (l1 (av au (bm (l1 ag)) (ee hr (af 0))))))))
  (ab (fH FN rfl (cE (ee hr (af 0))) (gn 2 nd) (ai (bY (fJ aS aZ (af 1) (l1 (av au (av au (av au ag (ee hr (af 2))) ag) (c4 (eW T) hr (l1 (ee hr (af 2))))))))))
  (ai (ax (fJ cb fc ag (l1 (af 1)))))))) rfl
def fP:aH:=a4 5 C.dv
def jy(T:Txt P w K mg):zI P w K mg base 1 "_law_deal" 2 fP:=er ["_law_script","_law_base","_law_one","_law_some","_law_number"] T.o__law_deal (fun _ _ _ _ _ _ _ hr nd=>(ab (yE [] 1 [] ["_law_one"] 3 nd (cE (b8 (af 0) (cq (af 1)) (cq ac))) (fun _=>(gn 0 ww)) (fun _=>d9) (fun _=>(cB (nZ rfl) T.B2 (lc (af 0) (l1 (av cG ac (af 0)))))))
  (ab (s4 4 nd (av au ac (af 1)))
  (ab (fH FN rfl (cE (af 3)) (gn 2 nd) (ai (s4 4 nd (av dc (av au (av ei (af 4) ac) (av dc (af 2) ac)) ac))))
  (ai (ax (t_ (jn ag (af 4) (jn ag ac (jn ag (ub mr rfl (pL [] 1 [] ["_law_one"] (cE (af 3)) (fun _=>(gn 0 ww)) (fun _=>(wa (bi wc (af 0) (av gD ac ac) (aV _)))) (fun _=>(af 0))) rfl T.Ch rfl T.Az) t9)))))))))) rfl
def w__law_draw:aH:=a4 5 C.dw
def al(T:Txt P w K mg):zI P w K mg base 1 "_law_draw" 2 w__law_draw:=er ["_law_deal_here","_law_many","_law_number","_law_one","_law_other"] T.o__law_draw (fun _ _ _ _ _ _ _ hr nd=>(ab (f8 FN (m7 (rN (jM hr (iI hr (af 0) ag) ac) (nT (bi om (cB bn T.y7 (l1 (iI hr (af 0) ag))) ac (aV _))))) (ai (oh (vb hr) (xP ud v9 (iI hr (af 0) ag)) (af 0) ag)))
  (ab (s4 2 nd (iI hr (af 0) ag))
  (ab (aU (bi om (af 2) ac (aV _)) (ab (oh (vb hr) (av jo (af 2) (af 1)) (af 0) ag)
  (ai (ax (av dc (af 2) (af 1))))) aK)
  (ab (s4 3 nd (av dc (av au (av ei (iI hr (af 0) ag) ac) ac) ac))
  (ab (oh (vb hr) (av dc (av au (av ei (af 3) ac) ac) ac) (af 0) ag)
  (ab (s4 4 nd (av dc (av ei (iI hr (af 0) ag) (iI hr (af 0) ag)) ac))
  (ai (ax (av dc (av au (av ei (av dc (av ei (af 3) (af 3)) ac) ac) (af 4)) (af 1))))))))))) rfl
def gU:aH:=a4 4 C.em
def kr(T:Txt P w K mg):zI P w K mg base 1 "_law_low" 2 gU:=er ["_law_top","_law_bottom","_law_one","_law_other"] T.o__law_low (fun _ _ _ _ _ _ _ hr nd=>(ab (rT (i:=2) (j:=3) rfl nd rfl rfl (by decide) rfl rfl (lc (cB (nZ rfl) T.B2 (lc (af 0) (l1 (av cG ac (af 0))))) (l1 (af 1))))
  (ab (f8 FN (bi om (af 3) ac (aV _)) (ai (rT (i:=2) (j:=3) rfl nd rfl rfl (by decide) rfl rfl (lc (af 3) (l1 (av dc (af 2) (af 3)))))))
  (ai (ax (bm (lc (av jo (af 0) (af 2)) (l1 (av jo (af 1) (af 2)))))))))) rfl
def dN:bc:=(aG (bM [(c3 (.str "jars")),(c3 (.str "deed")),(c3 (.str "rest")),(c3 (.str "pay")),(c3 (.str "put")),(c3 (.str "then")),(c3 (.str "either")),(c3 (.str "take")),(c3 (.str "often")),(c3 (.str "use"))]))
def fQ:aH:=a4 0 dN
def jz(T:Txt P w K mg):zI P w K mg base 1 "_law_kept" 0 fQ:=er [] T.o__law_kept (fun _ _ _ _ _ _ _ hr nd=>(ai (ax (bX (lc ag (lc ag (lc ag (lc ag (lc ag (lc ag (lc ag (lc ag (lc ag (l1 ag)))))))))))))) rfl
def dO(yN AY:aH):bc:=(ae (aq 1 (c3 (.str "abcdefghijklmnopqrstuvwxyz")))
  (ae (aq 2 (bI "str" b9 (c3 (.str "")) [(a9 (j6 (aj aF (c3 (.int 1)) (ad yN [(v3 0),(c3 (.int 6))]))) (.n 0) cF (aj aw (v3 2) (ad yN [(v3 1),(c3 (.int 26))])) 1 [0,1])]))
  (ae (bu (aT (aj (bL false) (ad yN [(v3 0),(c3 (.int 8))]) (c3 (.int 0)))) (ae (aq 3 (bM [(c3 (.str "jar")),(c3 (.str "deeds")),(c3 (.str "rests")),(c3 (.str "pays")),(c3 (.str "putt")),(c3 (.str "the")),(c3 (.str "eithe")),(c3 (.str "taken")),(c3 (.str "ofte")),(c3 (.str "user")),(c3 (.str "a"))]))
  (aq 2 (aj aw (v3 3) (ad yN [(v3 0),(c3 (.int 11))])))) aQ)
  (ae (bu (aT (aj (lB false) (v3 2) (ad AY []))) (aG (aj aF (aY (v3 2) kS (jg (tU kP (c3 (.int 1))))) (c3 (.str "z")))) aQ)
  (aG (v3 2))))))
def fR:aH:=a4 4 (dO w__law_draw fQ)
def jA(T:Txt P w K mg):zI P w K mg base 2 "_law_name" 1 fR:=er ["_law_deal_here","_law_letters","_law_word","_law_near"] T.o__law_name (fun _ _ _ _ _ _ _ hr nd=>(ab (s4 1 nd ag)
  (ab (s4 2 nd (fJ cb fc ag (l1 (pL ["_law_letters","_law_deal_here"] 1 [0,1] ["_law_k","_law_deal_here","_law_letters"] (eP rfl rfl T.z6 (l1 (av au ac (c4 (al T) hr (lc (af 0) (l1 ac)))))) (fun _=>(gn 0 xV)) (fun _=>d9) (fun _=>(iI hr (af 2) (c4 (al T) hr (lc (af 1) (l1 ac)))))))))
  (ab (aU (jM hr (c4 (al T) hr (lc (af 0) (l1 ac))) ac) (ab (s4 3 nd (bX (lc ag (lc ag (lc ag (lc ag (lc ag (lc ag (lc ag (lc ag (lc ag (lc ag (l1 ag)))))))))))))
  (ai (s4 2 nd (iI hr (af 3) (c4 (al T) hr (lc (af 0) (l1 ac))))))) aK)
  (ab (aU (bi (nW (j_ hr)) (af 2) (yC (jz T) hr) rfl) (ai (ax (av au (b8 (af 2) fb (cq (vW nV ac))) ag))) aK)
  (ai (ax (af 2)))))))) rfl
def bP(yN A_:aH):bc:=(ae (aq 2 (aj aw (v3 1) (ad yN [(v3 0),(ah bt [(v3 1)])])))
  (ae (aq 3 (ad yN [(v3 0),(c3 (.int 4))]))
  (ae (bu (aT (aj (bL false) (v3 3) (c3 (.int 0)))) (aG (bA [(c3 (.str "rest"))])) aQ)
  (ae (bu (aT (aj (bL false) (v3 3) (c3 (.int 1)))) (ae (aq 4 (ad yN [(v3 0),(aj aw (bM [(c3 (.int 4)),(c3 (.int 1000)),(aj gC (c3 (.int 10)) (c3 (.int 12)))]) (ad yN [(v3 0),(c3 (.int 3))]))]))
  (aG (bA [(c3 (.str "pay")),(ad A_ [(v3 4),(aj aF (c3 (.int 1)) (ad yN [(v3 0),(aj aw (bM [(c3 (.int 9)),(aj gC (c3 (.int 10)) (c3 (.int 9)))]) (ad yN [(v3 0),(c3 (.int 2))]))]))])]))) aQ)
  (aG (aj aw (bM [(bA [(c3 (.str "put")),(v3 2),(aj aF (c3 (.int 1)) (ad yN [(v3 0),(c3 (.int 9))]))]),(bA [(c3 (.str "use")),(v3 2)])]) (aj bw (v3 3) (c3 (.int 2)))))))))
def dg:aH:=a4 5 (bP w__law_draw gU)
def ft(T:Txt P w K mg):zI P w K mg base 2 "_law_any_leaf" 2 dg:=er ["_law_deal_here","_law_words","_law_word","_law_form","_law_top"] T.o__law_any_leaf (fun _ _ _ _ _ _ _ hr nd=>(ab (s4 2 nd (iI hr (af 1) (c4 (al T) hr (lc (af 0) (l1 (cB bn T.y7 (l1 (af 1))))))))
  (ab (s4 3 nd (c4 (al T) hr (lc (af 0) (l1 ac))))
  (ab (aU (jM hr (af 3) ac) (ai (ax (bm (l1 ag)))) aK)
  (ab (aU (jM hr (af 3) ac) (ab (s4 4 nd (c4 (al T) hr (lc (af 0) (l1 (iI hr (bX (lc ac (lc ac (l1 (av gD ac ac))))) (c4 (al T) hr (lc (af 0) (l1 ac))))))))
  (ai (ax (bm (lc ag (l1 (c4 (kr T) hr (lc (af 4) (l1 (av au ac (c4 (al T) hr (lc (af 0) (l1 (iI hr (bX (lc ac (l1 (av gD ac ac)))) (c4 (al T) hr (lc (af 0) (l1 ac))))))))))))))))) aK)
  (ai (ax (iI hr (bX (lc (bm (lc ag (lc (af 2) (l1 (av au ac (c4 (al T) hr (lc (af 0) (l1 ac)))))))) (l1 (bm (lc ag (l1 (af 2))))))) (av cG (af 3) ac))))))))) rfl
def bQ(yN Ar s0:aH):bc:=(ae (aq 4 (ad yN [(v3 0),(c3 (.int 8))]))
  (ae (bu (jb (aT (aj mC (v3 2) (c3 (.int 2)))) (jb (aT (aj mC (v3 3) (c3 (.int 2)))) (aT (aj (bL false) (v3 4) (c3 (.int 0)))))) (aG (ad Ar [(v3 0),(v3 1)])) aQ)
  (ae (bu (jb (aT (aj mC (v3 2) (c3 (.int 3)))) (aT (aj mC (v3 4) (c3 (.int 3))))) (aG (bA [(c3 (.str "often")),(ad s0 [(v3 0),(v3 1),(aj bw (v3 2) (c3 (.int 1))),(aj bw (v3 3) (c3 (.int 1)))])])) aQ)
  (ae (aq 5 (aj aF (c3 (.int 1)) (ad yN [(v3 0),(aj bw (v3 2) (c3 (.int 2)))])))
  (ae (aq 6 (ad s0 [(v3 0),(v3 1),(v3 5),(aj bw (v3 3) (c3 (.int 1)))]))
  (ae (aq 7 (ad s0 [(v3 0),(v3 1),(aj bw (aj bw (v3 2) (c3 (.int 1))) (v3 5)),(aj bw (v3 3) (c3 (.int 1)))]))
  (ae (bu (aT (aj mC (v3 4) (c3 (.int 6)))) (aG (bA [(aj aw (bM [(c3 (.str "then")),(c3 (.str "then")),(c3 (.str "either"))]) (aj bw (v3 4) (c3 (.int 3)))),(v3 6),(v3 7)])) aQ)
  (aG (bA [(c3 (.str "take")),(aj aw (v3 1) (ad yN [(v3 0),(ah bt [(v3 1)])])),(aj aF (c3 (.int 1)) (ad yN [(v3 0),(c3 (.int 9))])),(v3 6),(v3 7)])))))))))
noncomputable def bg:Nat->aH
 |0=>vc
 |n+1=>a4 8 (bQ w__law_draw dg (bg n))
def dh:aH:=bg 12
def fu(T:Txt P w K mg):zI P w K mg base 14 "_law_any_body" 4 dh:=on (b:=2) (r:=bg) T.o__law_any_body (fun n R0=>er ["_law_deal_here","_law_words","_law_room","_law_down","_law_form","_law_left","_law_one","_law_other"] T.o__law_any_body (fun _ _ _ _ _ _ _ hr nd=>(ab (s4 4 nd (c4 (al T) hr (lc (af 0) (l1 ac))))
  (ab (aU (m7 (gu (bi jp (af 2) ac (aV _)) (gu (bi jp (af 3) ac (aV _)) (d6 (jM hr (af 4) ac))))) (ai (ax (c4 (ft T) hr (lc (af 0) (l1 (af 1)))))) aK)
  (ab (aU (m7 (gu (bi jp (af 2) ac (aV _)) (d6 (bi jp (af 4) ac (aV _))))) (ai (ax (bm (lc ag (l1 (c4 R0 hr (lc (af 0) (lc (af 1) (lc (av cG (af 2) ac) (l1 (av cG (af 3) ac))))))))))) aK)
  (ab (s4 5 nd (av au ac (c4 (al T) hr (lc (af 0) (l1 (av cG (af 2) ac))))))
  (ab (s4 6 nd (c4 R0 hr (lc (af 0) (lc (af 1) (lc (af 5) (l1 (av cG (af 3) ac)))))))
  (ab (s4 7 nd (c4 R0 hr (lc (af 0) (lc (af 1) (lc (av cG (av cG (af 2) ac) (af 5)) (l1 (av cG (af 3) ac)))))))
  (ab (aU (bi jp (af 4) ac (aV _)) (ai (ax (bm (lc (iI hr (bX (lc ag (lc ag (l1 ag)))) (av cG (af 4) ac)) (lc (af 6) (l1 (af 7))))))) aK)
  (ai (ax (bm (lc ag (lc (iI hr (af 1) (c4 (al T) hr (lc (af 0) (l1 (cB bn T.y7 (l1 (af 1))))))) (lc (av au ac (c4 (al T) hr (lc (af 0) (l1 ac)))) (lc (af 6) (l1 (af 7))))))))))))))))) rfl) rfl rfl 12
def bC:bc:=(ae (bu (aT (aj (bL false) (aj aw (v3 0) (c3 (.int 1))) (c3 (.int 1)))) (aG (ah cD [(aj aw (v3 0) (c3 (.int 0)))])) aQ)
  (aG (aj aF (aj aF (ah cD [(aj aw (v3 0) (c3 (.int 0)))]) (c3 (.str "/"))) (ah cD [(aj aw (v3 0) (c3 (.int 1)))]))))
def cI:aH:=a4 1 bC
def eY(T:Txt P w K mg):zI P w K mg base 1 "_law_cost_text" 1 cI:=er ["_law_cost"] T.o__law_cost_text (fun _ _ _ _ _ _ _ hr nd=>(ab (aU (jM hr (ee hr (af 0)) ac) (ai (ax (cT Ay T.Ad (l1 (ee hr (af 0)))))) aK)
  (ai (ax (av au (av au (cT Ay T.Ad (l1 (ee hr (af 0)))) ag) (cT Ay T.Ad (l1 (ee hr (af 0))))))))) rfl
def bD(Ak s0:aH):bc:=(ae (bu (aT (aj (bL false) (aj aw (v3 0) (c3 (.int 0))) (c3 (.str "rest")))) (aG (c3 (.str "rest"))) aQ)
  (ae (aq 1 (bM [(aj aw (v3 0) (c3 (.int 0)))]))
  (ae (du (aX (aY (v3 0) (jg (c3 (.int 1))) kS)) (.n 2) (bu (aT (ah kW [(v3 2),(c3 (.ty "str"))])) (a3 (bI "list" aD (v3 1) [(v3 2)])) (bu (aT (ah kW [(v3 2),(c3 (.ty "int"))])) (a3 (bI "list" aD (v3 1) [(ah cD [(v3 2)])])) (bu (aT (ah kW [(aj aw (v3 2) (c3 (.int 0))),(c3 (.ty "str"))])) (a3 (bI "list" aD (v3 1) [(ad s0 [(v3 2)])])) (a3 (bI "list" aD (v3 1) [(ad Ak [(v3 2)])]))))))
  (aG (aj aF (aj aF (c3 (.str "(")) (bI "str" b9 (c3 (.str " ")) [(v3 1)])) (c3 (.str ")")))))))
noncomputable def a8:Nat->aH
 |0=>vc
 |n+1=>a4 3 (bD cI (a8 n))
def bE:aH:=a8 12
def cj(T:Txt P w K mg):zI P w K mg base 13 "_law_body_text" 1 bE:=on (b:=1) (r:=a8) T.o__law_body_text (fun n R0=>er ["_law_body","_law_wrote","_law_thing"] T.o__law_body_text (fun _ _ _ _ _ _ _ hr nd=>(ab (aU (jM hr (ee hr (af 0)) ag) (ai (ax ag)) aK)
  (ab (s4 1 nd (bX (l1 (ee hr (af 0)))))
  (ab (fH FN rfl (cE (b8 (af 0) (cq ac) fb)) (gn 2 nd) (ai (aU (j2 (cB n_ T.zJ (lc (af 2) (l1 (xQ T.Ad))))) (ai (bY (fJ aS aZ (af 1) (l1 (af 2))))) (ai (aU (j2 (cB n_ T.zJ (lc (af 2) (l1 (xQ T.BA))))) (ai (bY (fJ aS aZ (af 1) (l1 (cT Ay T.Ad (l1 (af 2))))))) (ai (aU (j2 (cB n_ T.zJ (lc (ee hr (af 2)) (l1 (xQ T.Ad))))) (ai (bY (fJ aS aZ (af 1) (l1 (c4 R0 hr (l1 (af 2))))))) (ai (bY (fJ aS aZ (af 1) (l1 (c4 (eY T) hr (l1 (af 2))))))))))))))
  (ai (ax (av au (av au ag (fJ cb fc ag (l1 (af 1)))) ag))))))) rfl) rfl rfl 12
def bF(yN AZ As:aH):bc:=(ae (aq 2 (a9 (j6 (aj aF (c3 (.int 2)) (ad yN [(v3 0),(c3 (.int 5))]))) (.n 0) cF (ad AZ [(v3 1)]) 1 [0]))
  (ae (aq 3 (ah a6 [(a9 (j6 (ad yN [(v3 0),(c3 (.int 5))])) (.n 0) cF (aj aw (v3 2) (ad yN [(v3 1),(ah bt [(v3 2)])])) 1 [0,2])]))
  (ae (aq 4 (aj aF (c3 (.int 1)) (ad yN [(v3 0),(c3 (.int 4))])))
  (ae (aq 5 (bM []))
  (ae (du (j6 (v3 4)) (.n 1) (ae (aq 6 (aj aF (c3 (.int 1)) (ad yN [(v3 0),(aj aw (bM [(c3 (.int 20)),(c3 (.int 20)),(c3 (.int 12)),(c3 (.int 9))]) (aj bw (v3 4) (c3 (.int 1))))])))
  (a3 (bI "list" aD (v3 5) [(bA [(aj aw (v3 2) (ad yN [(v3 0),(ah bt [(v3 2)])])),(ad As [(v3 0),(v3 2),(v3 6),(c3 (.int 6))])])]))))
  (aG (bA [(v3 3),(ah a6 [(v3 5)])])))))))
def cJ:aH:=a4 7 (bF w__law_draw fR dh)
def ck(T:Txt P w K mg):zI P w K mg base 15 "_law_any_house" 1 cJ:=er ["_law_deal_here","_law_k","_law_words","_law_jars","_law_many","_law_deeds","_law_room"] T.o__law_any_house (fun _ _ _ _ _ _ _ hr nd=>(ab (s4 2 nd (pL ["_law_deal_here"] 1 [0] ["_law_k","_law_deal_here"] (eP rfl rfl T.z6 (l1 (av au ac (c4 (al T) hr (lc (af 0) (l1 ac)))))) (fun _=>(gn 0 xW)) (fun _=>d9) (fun _=>(c4 (jA T) hr (l1 (af 1))))))
  (ab (s4 3 nd (cT eN T.Ae (l1 (pL ["_law_words","_law_deal_here"] 1 [0,2] ["_law_k","_law_deal_here","_law_words"] (eP rfl rfl T.z6 (l1 (c4 (al T) hr (lc (af 0) (l1 ac))))) (fun _=>(gn 0 xX)) (fun _=>d9) (fun _=>(iI hr (af 2) (c4 (al T) hr (lc (af 1) (l1 (cB bn T.y7 (l1 (af 2))))))))))))
  (ab (s4 4 nd (av au ac (c4 (al T) hr (lc (af 0) (l1 ac)))))
  (ab (s4 5 nd (bX j1))
  (ab (fH FN rfl (eP rfl rfl T.z6 (l1 (af 4))) (gn 1 nd) (ab (s4 6 nd (av au ac (c4 (al T) hr (lc (af 0) (l1 (iI hr (bX (lc ac (lc ac (lc ac (l1 ac))))) (av cG (af 4) ac)))))))
  (ai (bY (fJ aS aZ (af 5) (l1 (bm (lc (iI hr (af 2) (c4 (al T) hr (lc (af 0) (l1 (cB bn T.y7 (l1 (af 2))))))) (l1 (c4 (fu T) hr (lc (af 0) (lc (af 2) (lc (af 6) (l1 ac))))))))))))))
  (ai (ax (bm (lc (af 3) (l1 (cT eN T.Ae (l1 (af 5)))))))))))))) rfl
def bp(za:aH):bc:=(ae (aq 1 (bM [(bI "str" fi (c3 (.str " ")) [(aj aF (bA [(c3 (.str "jars"))]) (aj aw (v3 0) (c3 (.int 0))))])]))
  (aG (bI "str" b9 (c3 (.str "\n")) [(aj aF (v3 1) (a9 (aX (aj aw (v3 0) (c3 (.int 1)))) (.tp (.cons (.n 0) (.cons (.n 1) .nil))) cF (aj aF (aj aF (aj aF (c3 (.str "deed ")) (v3 0)) (c3 (.str " : "))) (ad za [(v3 1)])) 2 []))])))
def cn:aH:=a4 2 (bp bE)
def eA(T:Txt P w K mg):zI P w K mg base 14 "_law_house_text" 1 cn:=er ["_law_house","_law_rows"] T.o__law_house_text (fun _ _ _ _ _ _ _ hr nd=>(ab (s4 1 nd (bX (l1 (fJ cb lM ag (l1 (av au (bm (l1 ag)) (ee hr (af 0))))))))
  (ai (ax (fJ cb fc ag (l1 (av au (af 1) (pL [] 2 [] ["_law_name_here","_law_body"] (cE (ee hr (af 0))) (fun _=>(yg rfl (jh (gn 0 wx) (jh (gn 1 wx) rV)))) (fun _=>d9) (fun _=>(av au (av au (av au ag (af 0)) ag) (c4 (cj T) hr (l1 (af 1))))))))))))) rfl
def cY(Af AI AJ za zY zX:aH):bc:=(ae (aq 1 (ad Af [(v3 0)]))
  (ae (bu (jb (aT (aj (bL true) (ah cH [(ad AI [(v3 0)])]) (ah cH [(v3 1)]))) (aT (aj (bL true) (ah cH [(ad AJ [(v3 1)])]) (ah cH [(v3 0)])))) (aG (c3 (.bl false))) aQ)
  (ae (du (aX (aj aw (v3 0) (c3 (.int 1)))) (.tp (.cons (.n 2) (.cons (.n 3) .nil))) (ae (aq 4 (ad za [(v3 3)]))
  (bu (jb (aT (aj (bL true) (ah cH [(ad zY [(v3 3)])]) (ah cH [(v3 4)]))) (aT (aj (bL true) (ah cH [(ad zX [(v3 4)])]) (ah cH [(v3 3)])))) (aG (c3 (.bl false))) aQ)))
  (aG (c3 (.bl true))))))
def cZ:aH:=a4 5 (cY cn eX cW bE dM cg)
def cx(T:Txt P w K mg):zI P w K mg base 19 "_law_right" 1 cZ:=er ["_law_house","_law_text","_law_name_here","_law_body","_law_own"] T.o__law_right (fun _ _ _ _ _ _ _ hr nd=>(ab (s4 1 nd (c4 (eA T) hr (l1 (af 0))))
  (ab (aU (m7 (gu (lF hr (cB (dz (d_ hr) hr.gd) T.zU (l1 (c4 (ie T) hr (l1 (af 0))))) (cB (dz (d_ hr) hr.gd) T.zU (l1 (af 1)))) (d6 (lF hr (cB (dz (d_ hr) hr.gd) T.zU (l1 (c4 (ic T) hr (l1 (af 1))))) (cB (dz (d_ hr) hr.gd) T.zU (l1 (af 0))))))) (ai (ax qr)) aK)
  (ab (fH FN rfl (cE (ee hr (af 0))) (yg rfl (jh (gn 2 nd) (jh (gn 3 nd) rV))) (ab (s4 4 nd (c4 (cj T) hr (l1 (af 3))))
  (ai (aU (m7 (gu (lF hr (cB (dz (d_ hr) hr.gd) T.zU (l1 (c4 (eW T) hr (l1 (af 3))))) (cB (dz (d_ hr) hr.gd) T.zU (l1 (af 4)))) (d6 (lF hr (cB (dz (d_ hr) hr.gd) T.zU (l1 (c4 (eV T) hr (l1 (af 4))))) (cB (dz (d_ hr) hr.gd) T.zU (l1 (af 3))))))) (ai (ax qr)) aK))))
  (ai (ax qr)))))) rfl
def oW(A0 zG zK:aH):bc:=(ae (aq 1 (ad A0 [(v3 0),(c3 (.int 0))]))
  (ae (aq 2 (ad zG [(v3 1)]))
  (ae (aq 3 (ad zG [(v3 1)]))
  (aG (eK (ad zK [(v3 2)]) (eK (ad zK [(v3 3)]) (ad zK [(v3 2)])))))))
def ku:aH:=a4 4 (oW fP cJ cZ)
def uG(T:Txt P w K mg){f:Addr}{fd:FuncData}(O:wS K mg "law" (bf 45) ["_law_script"] f fd):BY P w K mg base 20 f fd ["_law_script"] ku:=yB ["_law_script","_law_deal_here","_law_one","_law_other"] O (fun _ _ _ _ _ _ _ hr nd=>(ab (s4 1 nd (c4 (jy T) hr (lc (af 0) (l1 ac))))
  (ab (s4 2 nd (c4 (ck T) hr (l1 (af 1))))
  (ab (s4 3 nd (c4 (ck T) hr (l1 (af 1))))
  (ai (ax (nU (c4 (cx T) hr (l1 (af 2))) (nU (c4 (cx T) hr (l1 (af 3))) (rP (c4 (cx T) hr (l1 (af 2)))))))))))) rfl
end
end G07
namespace G07
open PySem L2 L3 Wd
open C T5
def toS(n:Int):PySem.Str.ofString (toString n)=ak (num n):=(eu _).symm
abbrev r9(w:aH):Prop:=∀{S:ap} {n:Int} {Q:bv} {E:b6},0<=n->n < 10 ^ 60->(∀S',Ext S S'->Q (.str (ak (num n))) S')->w [.int n] S Q E
def fx{n:Int}(h:n.natAbs < 10 ^ 60):n.natAbs.log2 < 1920:=by
 by_cases h0:n.natAbs=0
 ·rw[h0];decide
 ·rw[Nat.log2_lt h0]
  exact E6 h (by decide)
def bq{n:Int}{k:Nat}(h:n.natAbs < 10 ^ (k+1)):(num n).length<=k+2:=by
 rcases Int.eq_nat_or_neg n with⟨m,rfl|rfl⟩
 ·rw[bG];have:=oB (k:=k) (m:=m) (by simpa using h);omega
 ·by_cases h0:0 < m
  ·rw[jq m h0];have:=oB (k:=k) (m:=m) (by simpa using h);simp;omega
  ·have:m=0:=by omega
   subst this
   show(num ((0:Nat):Int)).length<=_
   rw[bG,Ac (by decide)];simp
def ln{n m:Nat}(h:n<=m)(hm:m<=100000:=by decide):n<=sizeLine:=Fl h (Fl hm (by decide))
def wy:pX 10 60:=⟨by decide,by decide,by decide⟩
def xY{S:ap}{p:Addr}{o o':SO}(h:S p=none):Ext S (yO (yO S p o) p o'):=fun a u ha=>by
 have hne:a≠p:=fun e=>by rw[e,h]at ha;cases ha
 rw[ao hne,ao hne]
 exact ha
def Ax:r9 (a4 2 b3):=by
 intro S n Q E h0 h1 k
 unfold b3
 refine eR ?_
 rw[show ay 2 [PV.int n]=[some (.int n),none] from rfl]
 refine ar fun N hN=>?_
 walk_at "x"
 intro p hp
 refine hN _ _ (ar fun N hN=>?_)
 refine⟨fun _ σ S'=>σ=[some (.int n),some (.ref p)]/\S'=yO S p (.lst []),⟨0,rfl,rfl⟩,?_⟩
 rintro _ σ S' ⟨rfl,rfl⟩
 walk_at "x"
 refine⟨wy,?_⟩
 rw[E9 (by rw[show((10:Int) ^ Int.toNat 60)=10 ^ 60 from rfl];omega)]
 simp only[Fd,F1]
 refine hN _ _ (ar fun N hN=>?_)
 walk_at "x"
 simp only[aa,cD]
 refine⟨trivial,fx (by omega),?_⟩
 refine⟨ln (m:=1) (by simp),hN _ _ ?_⟩
 walk_at "x"
 simp only[kZ,v3,lk,c3,aa,List.nil_append,texts,Option.map_some]
 rw[toS]
 refine⟨?_,?_⟩
 ·have:=bq (n:=n) (k:=59) (by omega)
  rw[show(Str.ofString "").length=0 from rfl]
  simp[yQ]
  omega
 ·exact k _ (xY hp)
noncomputable def oX(c:Nat):Bool:=decide (c∈(PySem.Str.ofString "0123456789").cps.toList)
def Bh{c:Nat}:oX c=true↔48<=c/\c<=57:=by
 unfold oX
 rw[Hs,show(PySem.Str.ofString "0123456789").cps.toList=[48,49,50,51,52,53,54,55,56,57] from rfl]
 simp only[E1,Fb,FU]
 omega
def Bi{l:List Nat}:l.all oX=true↔NumText.AllDigits l:=by
 rw[Ge]
 exact⟨fun h c hc=>Bh.mp (h c hc),fun h c hc=>Bh.mpr (h c hc)⟩
theorem fy{α:Type}(f:α->Bool):∀l:List α,gx (l.map fun c=>PV.bl (f c))=some (l.map f)
 |[]=>rfl
 |a::r=>by rw[EV,gx,fy f r];rfl
def uH{c:Nat}:(false != !(Builtin.Str.occurrences (PySem.Str.ofString "0123456789") (fE c) 0 (PySem.Str.ofString "0123456789").length 1).isEmpty)=oX c:=by
 unfold oX
 rw[<-GP,Fx]
abbrev r_(w:aH):Prop:=∀{S:ap} {l:List Nat} {Q:bv} {E:b6},l.length<=60->(∀v S',rf l=some v->Ext S S'->Q (.int (v:Int)) S')->(∀S',rf l=none->Ext S S'->False)->w [.str (ak l)] S Q E
def oY:r_ (a4 4 b4):=by
 intro S l Q E hl k1 k2
 unfold b4
 refine eR ?_
 rw[show ay 4 [PV.str (ak l)]=[some (.str (ak l)),none,none,none] from rfl]
 refine ar fun N hN=>?_
 by_cases hz:l=[]
 ·subst hz
  walk_at "x"
  rw[show decide (ak []=Str.ofString "")=true from by decide]
  walk_at "y"
  exact k2 _ (jr fun z=>z.1.1 rfl) .refl
 walk_at "x"
 rw[show decide (ak l=Str.ofString "")=false from E9 fun e=>hz (FA (fun z:Str=>z.cps.toList) e)]
 walk_at "y"
 refine dX (fun c=>PV.str (fE c)) (fun c=>PV.bl (oX c)) trivial l [] (fun c _=>⟨_,rfl,fun Q q=>?_⟩) (ln (m:=60) (by simpa using hl)) ?_
 ·show Q (.bl (false != !(Builtin.Str.occurrences (PySem.Str.ofString "0123456789") (fE c) 0 (PySem.Str.ofString "0123456789").length 1).isEmpty)) S
  rw[uH];exact q
 intro p hp
 simp only[mw,aa,List.nil_append,fy]
 have ea:(l.map oX).all id=l.all oX:=by rw[List.all_map];rfl
 rw[ea]
 have X1:Ext S (yO S p (.lst (l.map fun c=>PV.bl (oX c)))):=.new hp
 generalize yO S p (.lst (l.map fun c=>PV.bl (oX c)))=S1 at X1
 by_cases hd:l.all oX=true
 ·rw[hd]
  walk_at "y"
  refine hN _ _ (ar fun N hN=>?_)
  have hd:=Bi.mp hd
  cases l with
  |nil=>exact absurd rfl hz
  |cons c r=>
  walk_at "x"
  refine⟨ln (m:=60) hl,?_⟩
  rw[show zN (ak (c::r)).cps.toList 0=some c from dR (j:=0) rfl]
  dsimp only
  have rest:kc (c::r)->N [some (PV.str (ak (c::r))),none,none,none] S1:=by
   intro hc
   have ok:um (c::r):=⟨hz,hd⟩
   have hv:rf (c::r)=some (NumText.digitsVal (c::r)):=lJ ok hc
   refine hN _ _ (ar fun N hN=>?_)
   walk_at "x"
   refine hN _ _ (ar fun N hN=>?_)
   walk_at "x"
   have EB:((ak (c::r)).length:Int)+(-((ak (c::r)).length:Int)).fmod 60=60:=by
    rw[yQ,Int.fmod_eq_emod_of_nonneg _ (by decide)]
    have:1<=(c::r).length:=by simp
    omega
   rw[EB]
   simp only[gF]
   have hsz:(ak (c::r)).length<=sizeLine:=ln (m:=60) hl
   refine⟨trivial,hsz,hsz,by decide,by decide,hN _ _ (ar fun N hN=>?_)⟩
   rw[zf ok hl]
   have hsz':(ak (mI (c::r))).length<=sizeLine:=by rw[yQ,dW hl];decide
   walk_at "x"
   simp only[uh,c3,ah,am,v3,lk,bt,yQ,dW hl]
   refine⟨by decide,1,⟨by decide,by decide,by decide,by decide⟩,?_⟩
   rw[show gG 0 60 1=[PV.int 0] from rfl]
   simp only[jk]
   refine⟨trivial,?_⟩
   walk_at "x"
   refine⟨wy,ur (by decide) (by decide),hsz',?_⟩
   rw[show((0:Int)+60)=60 from rfl,oE _ (dW hl)]
   simp only[iJ,qO ok hl]
   refine⟨by rw[yQ,dW hl];decide,trivial,hN _ _ ?_⟩
   walk_at "x"
   rw[Int.zero_mul,Int.zero_add]
   exact k1 _ _ hv X1
  by_cases Dt:c=48
  ·subst Dt
   rw[show decide (({ cps:=#[48] }:Str)=Str.ofString "0")=true from by decide]
   by_cases hr:r=[]
   ·subst hr
    rw[show decide (ak [48]=Str.ofString "0")=true from by decide]
    walk_at "y"
    exact rest fun r e=>((Gv e).2).symm
   ·rw[show decide (ak (48::r)=Str.ofString "0")=false from E9 fun e=>hr (Gv (FA (fun z:Str=>z.cps.toList) e)).2]
    walk_at "y"
    exact k2 _ (jr fun z=>hr (z.2 r rfl)) X1
  ·rw[show decide (({ cps:=#[c] }:Str)=Str.ofString "0")=false from E9 fun e=>Dt (Gv (FA (fun z:Str=>z.cps.toList) e)).1]
   walk_at "y"
   exact rest fun r e=>absurd (Gv e).1 Dt
 ·rw[Bool.not_eq_true]at hd
  rw[hd]
  walk_at "y"
  exact k2 _ (jr fun z=>by have:=Bi.mpr z.1.2;rw[hd]at this;cases this) X1
def br(a b:List Nat):ak a++ak b=ak (a++b):=by
 apply Str.ext'
 show a.toArray++b.toArray=(a++b).toArray
 simp
def xZ(b:List Nat):Str.ofString "-" ++ ak b=ak (45::b):=br [45] b
def oZ(a:List Nat):ak a++Str.ofString "/" = ak (a++[47]):=br a [47]
abbrev k9(w:aH):Prop:=∀{S:ap} {n d:Int} {Q:bv} {E:b6},n.natAbs < 10 ^ 60->1<=d->d < 10 ^ 60->(∀S',Ext S S'->Q (.str (ak (txt (n,d)))) S')->w [.tup [.int n,.int d]] S Q E
def mU{x:aH}(Ax:r9 x):k9 (a4 2 (bN x)):=by
 intro S n d Q E hn hd1 hd2 k
 unfold bN
 refine eR ?_
 rw[show ay 2 [PV.tup [PV.int n,PV.int d]]=[some (.tup [.int n,.int d]),none] from rfl]
 refine ar fun N hN=>?_
 walk_at "y"
 have ha:(if n < 0 then -n else n)=(n.natAbs:Int):=by split<;>omega
 rw[ha]
 refine Ax (by omega) (by omega) fun S1 X1=>hN _ _ (ar fun N hN=>?_)
 have l1:=bq (n:=(n.natAbs:Int)) (k:=59) (by omega)
 have rest:N [some (.tup [.int n,.int d]),some (.str (ak (num n)))] S1:=by
  refine hN _ _ (ar fun N hN=>?_)
  walk_at "y"
  by_cases h1:d=1
  ·subst h1
   walk_at "y"
   have:=k S1 X1
   unfold txt at this
   rw[if_pos rfl]at this
   exact this
  ·rw[E9 h1]
   walk_at "y"
   refine hN _ _ ?_
   walk_at "y"
   have l2:=bq (n:=n) (k:=59) (by omega)
   have l3:=bq (n:=d) (k:=59) (by omega)
   rw[oZ]
   refine⟨ln (m:=62) (by rw[yQ];show _+1<=_;omega),Ax (by omega) (by omega) fun S2 X2=>?_⟩
   dsimp only
   rw[br]
   have:=k S2 (X1.trans X2)
   unfold txt at this
   rw[if_neg h1]at this
   refine⟨ln (m:=1000) (by rw[yQ,yQ];simp;omega),?_⟩
   simpa using this
 walk_at "y"
 by_cases h0:n < 0
 ·rw[FJ h0]
  walk_at "y"
  rw[xZ]
  refine⟨ln (m:=100) (by rw[yQ];show 1+_<=_;omega),?_⟩
  have e:45::num (n.natAbs:Int)=num n:=by
   rw[bG,<-jq _ (by omega)]
   congr 1
   omega
  rw[e]
  exact rest
 ·rw[E9 h0]
  walk_at "y"
  have e:(n.natAbs:Int)=n:=by omega
  rw[e]
  exact rest
def Ps(l:List Nat):Prop:=l.length<=1000/\∀p∈sp l,p.length<=60
abbrev sd(w:aH):Prop:=∀{S:ap} {l:List Nat} {Q:bv} {E:b6},Ps l->(∀t u S',rn l=some (t,u)->Ext S S'->Q (.tup [.int (t:Int),.int (u:Int)]) S')->(∀S',rn l=none->Ext S S'->False)->w [.str (ak l)] S Q E
def o0{xf xc:aH}(BO:r_ xf)(Ci:gM xc):sd (a4 4 (aW xf xc)):=by
 intro S l Q E hl k1 k2
 unfold aW
 refine eR ?_
 rw[show ay 4 [PV.str (ak l)]=[some (.str (ak l)),none,none,none] from rfl]
 refine ar fun N hN=>?_
 have hlen:=uk l
 have Du:=hl.2
 walk_at "x"
 simp only[cu]
 rw[oA,toL]
 refine⟨trivial,by decide,ln (m:=1000) hl.1,ln (m:=1001) (by rw[E2];have:=hl.1;omega),fun p hp=>hN _ _ (ar fun N hN=>?_)⟩
 have X1:Ext S (yO S p (.lst (((sp l).map ak).map PV.str))):=.new hp
 have hS:(yO S p (.lst (((sp l).map ak).map PV.str))) p=some (.lst (((sp l).map ak).map PV.str)):=aa
 generalize yO S p (.lst (((sp l).map ak).map PV.str))=S1 at X1 hS
 unfold rn at k1 k2
 cases e:sp l with
 |nil=>exact absurd e (wj l)
 |cons a t=>
 rw[e]at hS Du k1 k2 hlen
 walk_at "x"
 rw[hS]
 walk_at "y"
 refine BO (Du a (by simp)) (fun v S2 hv X2=>?_) fun S2 hv X2=>?_
 ·have hS2:=X2 _ _ hS
  refine hN _ _ (ar fun N hN=>?_)
  walk_at "y"
  rw[hS2]
  walk_at "y"
  cases t with
  |nil=>
   rw[FJ (by simp)]
   walk_at "y"
   exact k1 v 1 _ (by dsimp only;rw[hv]) (X1.trans X2)
  |cons b t=>
   rw[E9 (by simp;omega)]
   walk_at "y"
   refine hN _ _ (ar fun N hN=>?_)
   walk_at "y"
   rw[hS2]
   walk_at "y"
   cases t with
   |cons c t=>
    rw[FJ (by simp;omega)]
    walk_at "y"
    exact k2 _ rfl (X1.trans X2)
   |nil=>
    rw[E9 (by simp)]
    walk_at "y"
    refine hN _ _ (ar fun N hN=>?_)
    walk_at "y"
    rw[hS2]
    walk_at "y"
    refine BO (Du b (by simp)) (fun u S3 hu X3=>?_) fun S3 hu X3=>k2 _ (by dsimp only;rw[hv,hu]) (X1.trans (X2.trans X3))
    refine hN _ _ (ar fun N hN=>?_)
    dsimp only at k1 k2
    rw[hv,hu]at k1 k2
    dsimp only at k1 k2
    have X4:=X1.trans (X2.trans X3)
    have raise:(u < 2\/Nat.gcd v u≠1)->False:=fun h=>k2 _ (if_pos h) X4
    have go:¬(u < 2\/Nat.gcd v u≠1)->Q (.tup [.int (v:Int),.int (u:Int)]) S3:=fun h=>k1 v u _ (if_neg h) X4
    walk_at "y"
    by_cases h2:(u:Int) < 2
    ·rw[FJ h2]
     walk_at "y"
     exact raise (.inl (by omega))
    ·rw[E9 h2]
     walk_at "y"
     refine Ci (by omega) (by omega) ?_
     walk_at "y"
     rw[show Int.gcd (v:Int) (u:Int)=Nat.gcd v u from rfl]
     by_cases hg:((Nat.gcd v u:Nat):Int)=1
     ·rw[FJ hg]
      walk_at "y"
      refine hN _ _ ?_
      walk_at "y"
      exact go (by omega)
     ·rw[E9 hg]
      walk_at "y"
      exact raise (.inr (by omega))
 ·refine k2 _ ?_ (X1.trans X2)
  match t with
  |[]=>dsimp only;rw[hv]
  |[b]=>dsimp only;rw[hv]
  |_::_::_=>rfl
end G07
namespace G07
open PySem L2 L3 Wd
open C
noncomputable def _root_.C.Bd.g7(ws:Vs):Bd->Prop
 | .rest=>True
 | .pay x y=>M3.rM x y/\0<=x/\x<=10 ^ 12/\y<=10 ^ 9
 | .put z m=>z∈ws/\1<=m/\m<=9
 | .use z=>z∈ws
 | .Av a=>a.g7 ws
 | .yS a b=>a.g7 ws/\b.g7 ws
 | .Aw a b=>a.g7 ws/\b.g7 ws
 | .Am z m a b=>z∈ws/\1<=m/\m<=9/\a.g7 ws/\b.g7 ws
noncomputable def qS(z:Str):Bool:=!z.cps.toList.isEmpty&&decide (z.cps.toList.length<=6)&&z.cps.toList.all fun c=>decide (97<=c)&&decide (c<=122)
def o1{z:Str}(h:qS z=true):Bz z:=by
 unfold qS at h
 simp only[Gd,FG,Ge,Hu,List.isEmpty_eq_false_iff]at h
 exact⟨h.1.1,h.1.2,h.2⟩
def uI:∀z∈zF,(qS (Txt.slice z none (some (-1)) ++ "z")=true/\Txt.slice z none (some (-1)) ++ "z" ∉ zF)/\(Txt.slice z none (some (-1))).length+(("z":String):Str).length<=100/\z.length<=100:=by decide +kernel
noncomputable def Bj:List Str:=["jar","deeds","rests","pays","putt","the","eithe","taken","ofte","user","a"]
def uJ:∀z∈Bj,qS z=true:=by decide +kernel
abbrev kw(w:aH):Prop:=∀{S:ap} {Q:bv} {E:b6},(∀p,S p=none->Q (.ref p) (yO S p (.lst (zF.map PV.str))))->w [] S Q E
def AK:kw (a4 0 dN):=by
 intro S Q E k
 unfold dN
 refine eR ?_
 walk_at "x"
 exact k
abbrev kx(w:aH):Prop:=∀{S:ap} {d l:Addr} {Q:bv} {E:b6},zd S d l->(∀z S',Bz z/\z ∉ zF->zd S' d l->zO d l S S'->Q (.str z) S')->w [.ref d] S Q E
def AL{x0 x1:aH}(yP:bZ x0)(AK:kw x1):kx (a4 4 (dO x0 x1)):=by
 intro S d l Q E D k
 unfold dO
 refine eR ?_
 rw[show ay 4 [PV.ref d]=[some (.ref d),none,none,none] from rfl]
 refine ar fun N hN=>?_
 walk_at "x"
 refine hN _ _ (ar fun N hN=>?_)
 walk_at "x"
 refine⟨trivial,yP D (by decide) (by decide) fun n S1 n0 n1 D1 O1=>⟨by omega,by omega,?_⟩⟩
 refine k6 yP D1 (by omega) rfl rfl ⟨_,rfl⟩ fun cs S2 hl hc D2 O2 pj hj=>?_
 simp only[b9,aa,bU]
 refine⟨mP (by omega),?_⟩
 rw[show Txt.join (Str.ofString "") (cs.map fE)=⟨cs.toArray⟩from kM cs]
 have wz:Bz (⟨cs.toArray⟩:Str):=⟨fun e=>by have e':cs=[]:=e;rw[e']at hl;simp at hl;omega,by show cs.length<=6;omega,hc⟩
 generalize (⟨cs.toArray⟩:Str)=z at wz
 have OB:zO d l S (yO S2 pj (.lst ((cs.map fE).map PV.str))):=O1.trans (O2.trans (.new hj))
 have DB:=D2.new (o:=.lst ((cs.map fE).map PV.str)) hj
 generalize yO S2 pj (.lst ((cs.map fE).map PV.str))=S3 at OB DB
 refine hN _ _ (ar fun N hN=>?_)
 -- what comes behind
 have tail:∀(z:Str) (S':ap) (x3:Option PV),Bz z->zd S' d l->zO d l S S'->N [some (.ref d),some (.str abc),some (.str z),x3] S':=by
  intro z S' x3 wz D' O'
  refine hN _ _ (ar fun N hN=>?_)
  simp only[bu,aT,aj,v3,lk,ad,am]
  refine AK fun p hp=>?_
  refine qR aa (k5 wz) lO ?_
  have O2:zO d l S (yO S' p (.lst (zF.map PV.str))):=O'.trans (.new hp)
  have D2:=D'.new (o:=.lst (zF.map PV.str)) hp
  generalize yO S' p (.lst (zF.map PV.str))=S4 at O2 D2
  by_cases h:z∈zF
  ·simp only[h,GA,Fx,Gg]
   obtain⟨h1,h2,h3⟩:=uI z h
   simp only[aG,aj,aY,v3,lk,kS,jg,tU,kP,c3,gv,aF]
   exact⟨cR (by omega),cR (by omega),k _ _ ⟨o1 h1.1,h1.2⟩ D2 O2⟩
  ·simp only[h,decide_false,Fx,Fd,F1]
   refine hN _ _ ?_
   walk_at "x"
   exact k _ _ ⟨wz,h⟩ D2 O2
 simp only[bu,aT,aj,v3,lk,ad,am,c3]
 refine yP DB (by decide) (by decide) fun r S4 r0 r1 D4 O4=>?_
 simp only[bL,Fx,FG]
 split
 ·refine ar fun N2 BP=>?_
  walk_at "x"
  intro p hp
  have dp:=D4.free hp
  refine BP _ _ ?_
  walk_at "x"
  refine yP (D4.new hp) (by decide) (by decide) fun r2 S5 a0 a1 D5 O5=>?_
  have e5:=O5 _ _ (aa (S:=S4) (o:=.lst (Bj.map PV.str))) dp.1 dp.2
  simp only[e5]
  obtain⟨v,hv,BQ⟩:=f_ (xs:=Bj.map PV.str) a0 (by simpa [Bj]using a1)
  rw[hv]
  obtain⟨y,hy,rfl⟩:=Fq.mp BQ
  exact tail y S5 _ (o1 (uJ y hy)) D5 (OB.trans (O4.trans ((zO.new hp).trans O5)))
 ·exact tail z S4 _ wz D4 (OB.trans O4)
abbrev iP(w:aH):Prop:=∀{S:ap} {d l pw:Addr} {ws:Vs} {Q:bv} {E:b6},zd S d l->S pw=some (.lst (ws.map PV.str))->pw≠d->pw≠l->1<=ws.length->ws.length<=100->(∀(t:Bd) S',t.g7 ws->t.dep=1->t.size=1->zd S' d l->zO d l S S'->Q t.pv S')->w [.ref d,.ref pw] S Q E
def gc{ws:Vs}{r:Int}(h0:0<=r)(h1:r < (ws.length:Int)):∃z∈ws,zN (ws.map PV.str) r=some (.str z):=by
 obtain⟨v,hv,BQ⟩:=f_ (xs:=ws.map PV.str) h0 (by simpa using h1)
 obtain⟨y,hy,rfl⟩:=Fq.mp BQ
 exact⟨y,hy,hv⟩
def o2{x0 x1:aH}(yP:bZ x0)(A7:lN x1):iP (a4 5 (bP x0 x1)):=by
 intro S d l pw ws Q E D hw wd wl h1 h2 k
 unfold bP
 refine eR ?_
 rw[show ay 5 [PV.ref d,PV.ref pw]=[some (.ref d),some (.ref pw),none,none,none] from rfl]
 refine ar fun N hN=>?_
 walk_at "x"
 simp only[hw,E2]
 refine yP D (by omega) (by omega) fun r S1 r0 r1 D1 O1=>?_
 have hw1:=O1 _ _ hw wd wl
 obtain⟨z,hz,ez⟩:=gc r0 r1
 simp only[hw1,ez]
 refine hN _ _ (ar fun N hN=>?_)
 walk_at "x"
 refine yP D1 (by decide) (by decide) fun f S2 f0 f1 D2 O2=>?_
 have Cj:=O1.trans O2
 refine hN _ _ (ar fun N hN=>?_)
 walk_at "x"
 simp only[Fx,FG]
 split
 ·exact k .rest S2 trivial rfl rfl D2 Cj
 refine hN _ _ (ar fun N hN=>?_)
 walk_at "x"
 simp only[Fx,FG]
 split
 ·refine⟨⟨by decide,by decide,by decide⟩,fun p hp=>?_⟩
  have dp:=D2.free hp
  refine yP (D2.new hp) (by decide) (by decide) fun a S3 a0 a1 D3 O3=>?_
  have e3:=O3 _ _ (aa (S:=S2) (o:=.lst [.int 4,.int 1000,.int (10 ^ Int.toNat 12)])) dp.1 dp.2
  simp only[e3]
  obtain⟨v,hv,BQ⟩:=f_ (xs:=[PV.int 4,.int 1000,.int (10 ^ Int.toNat 12)]) a0 (by simpa using a1)
  rw[hv]
  obtain⟨g,rfl,EC,CQ⟩:∃g:Int,v = .int g/\0 < g/\g<=10 ^ 12:=by
   simp only[E1,Fb,FU]at BQ
   rcases BQ with rfl|rfl|rfl
   ·exact⟨4,rfl,by omega,by omega⟩
   ·exact⟨1000,rfl,by omega,by omega⟩
   ·exact⟨10 ^ 12,rfl,by omega,by omega⟩
  refine yP D3 EC (by omega) fun r2 S4 b0 b1 D4 O4=>?_
  refine⟨⟨by decide,by decide,by decide⟩,fun p2 hp2=>?_⟩
  have DZ:=D4.free hp2
  refine yP (D4.new hp2) (by decide) (by decide) fun a2 S6 ED EE D6 O6=>?_
  have e6:=O6 _ _ (aa (S:=S4) (o:=.lst [.int 9,.int (10 ^ Int.toNat 9)])) DZ.1 DZ.2
  simp only[e6]
  obtain⟨v,hv,BQ⟩:=f_ (xs:=[PV.int 9,.int (10 ^ Int.toNat 9)]) ED (by simpa using EE)
  rw[hv]
  obtain⟨g2,rfl,Dv,EF⟩:∃g:Int,v = .int g/\0 < g/\g<=10 ^ 9:=by
   simp only[E1,Fb,FU]at BQ
   rcases BQ with rfl|rfl
   ·exact⟨9,rfl,by omega,by omega⟩
   ·exact⟨10 ^ 9,rfl,by omega,by omega⟩
  refine yP D6 Dv (by omega) fun r3 S5 c0 c1 D5 O5=>?_
  dsimp only
  refine A7 (by omega) (mM (by omega)) ?_
  have zz:=M3.nN (t:=r2) (b:=1+r3) (T:=10 ^ 12) (B:=10 ^ 9) (by omega) (by omega) (by omega) (by omega) (by omega) (by decide) (by decide)
  refine k (.pay _ _) S5 ⟨M3.lz (by omega),?_,zz.2.1,zz.2.2.2⟩ rfl rfl D5 (Cj.trans ((zO.new hp).trans (O3.trans (O4.trans ((zO.new hp2).trans (O6.trans O5))))))
  unfold M3.i_
  rw[if_neg (by omega)]
  exact Int.ediv_nonneg b0 (by omega)
 refine hN _ _ ?_
 walk_at "x"
 refine yP D2 (by decide) (by decide) fun m S3 m0 m1 D3 O3=>?_
 intro p hp
 have e3:(yO S3 p (.lst [.tup [.str "put",.str z,.int (1+m)],.tup [.str "use",.str z]])) p=_:=aa
 simp only[e3]
 have O4:=Cj.trans (O3.trans (zO.new (o:=.lst [.tup [.str "put",.str z,.int (1+m)],.tup [.str "use",.str z]]) hp))
 have D4:=D3.new (o:=.lst [.tup [.str "put",.str z,.int (1+m)],.tup [.str "use",.str z]]) hp
 obtain rfl|rfl:f=2\/f=3:=by omega
 ·exact k (.put z (1+m)) _ ⟨hz,by omega,by omega⟩ rfl rfl D4 O4
 ·exact k (.use z) _ hz rfl rfl D4 O4
abbrev dZ(n:Nat)(w:aH):Prop:=∀{S:ap} {d l pw:Addr} {ws:Vs} {room down:Int} {Q:bv} {E:b6},zd S d l->S pw=some (.lst (ws.map PV.str))->pw≠d->pw≠l->1<=ws.length->ws.length<=100->1<=room->room<=1000->1<=down->down<=n->(∀(t:Bd) S',t.g7 ws->(t.dep:Int)<=down->(t.size:Int)<=room->zd S' d l->zO d l S S'->Q t.pv S')->w [.ref d,.ref pw,.int room,.int down] S Q E
def o3{x0 x1 s0:aH}(yP:bZ x0)(BR:iP x1)(n:Nat)(ih:dZ n s0):dZ (n+1) (a4 8 (bQ x0 x1 s0)):=by
 intro S d l pw ws room down Q E D hw wd wl h1 h2 r1 r2 d1 d2 k
 unfold bQ
 refine eR ?_
 rw[show ay 8 [PV.ref d,PV.ref pw,PV.int room,PV.int down]=[some (.ref d),some (.ref pw),some (.int room),some (.int down),none,none,none,none] from rfl]
 refine ar fun N hN=>?_
 walk_at "x"
 refine yP D (by decide) (by decide) fun f S1 f0 f1 D1 O1=>?_
 have hw1:=O1 _ _ hw wd wl
 refine hN _ _ (ar fun N hN=>?_)
 walk_at "x"
 simp only[Fx,FG]
 have lf:x1 [.ref d,.ref pw] S1 Q ff:=BR D1 hw1 wd wl h1 h2 fun t S2 g t1 t2 D2 O2=>k t S2 g (by omega) (by omega) D2 (O1.trans O2)
 split
 ·rw[if_pos trivial];exact lf
 split
 ·rw[if_pos trivial];exact lf
 split
 ·exact lf
 refine hN _ _ (ar fun N hN=>?_)
 walk_at "x"
 simp only[Fx,FG]
 have of:s0 [.ref d,.ref pw,.int (room - 1),.int (down - 1)] S1 (fun v S'=>Q (.tup [.str "often",v]) S') ff:=ih D1 hw1 wd wl h1 h2 (by omega) (by omega) (by omega) (by omega) fun t S2 g t1 t2 D2 O2=>k (.Av t) S2 g (by simp only[Bd.dep];omega) (by simp only[Bd.size];omega) D2 (O1.trans O2)
 split
 ·rw[if_pos trivial];exact of
 split
 ·exact of
 refine hN _ _ (ar fun N hN=>?_)
 walk_at "x"
 refine yP D1 (by omega) (by omega) fun a S2 a0 a1 D2 O2=>?_
 have D0:=O2 _ _ hw1 wd wl
 refine hN _ _ (ar fun N hN=>?_)
 walk_at "x"
 refine ih D2 D0 wd wl h1 h2 (by omega) (by omega) (by omega) (by omega) fun ta S3 ga da sa D3 O3=>?_
 have D_:=O3 _ _ D0 wd wl
 refine hN _ _ (ar fun N hN=>?_)
 walk_at "x"
 refine ih D3 D_ wd wl h1 h2 (by omega) (by omega) (by omega) (by omega) fun tb S4 gb db sb D4 O4=>?_
 have Ea:=O4 _ _ D_ wd wl
 have Eb:=O1.trans (O2.trans (O3.trans O4))
 refine hN _ _ (ar fun N hN=>?_)
 walk_at "x"
 simp only[FG]
 split
 ·intro p hp
  have e3:(yO S4 p (.lst [.str "then",.str "then",.str "either"])) p=_:=aa
  simp only[e3]
  have O5:=Eb.trans (zO.new (o:=.lst [.str "then",.str "then",.str "either"]) hp)
  have D5:=D4.new (o:=.lst [.str "then",.str "then",.str "either"]) hp
  obtain rfl|rfl|rfl:f=3\/f=4\/f=5:=by omega
  ·exact k (.yS ta tb) _ ⟨ga,gb⟩ (by simp only[Bd.dep];omega) (by simp only[Bd.size];omega) D5 O5
  ·exact k (.yS ta tb) _ ⟨ga,gb⟩ (by simp only[Bd.dep];omega) (by simp only[Bd.size];omega) D5 O5
  ·exact k (.Aw ta tb) _ ⟨ga,gb⟩ (by simp only[Bd.dep];omega) (by simp only[Bd.size];omega) D5 O5
 refine hN _ _ ?_
 walk_at "x"
 simp only[Ea,E2]
 refine yP D4 (by omega) (by omega) fun r S5 q0 q1 D5 O5=>?_
 have EG:=O5 _ _ Ea wd wl
 obtain⟨z,hz,ez⟩:=gc q0 q1
 simp only[EG,ez]
 refine yP D5 (by decide) (by decide) fun m S6 m0 m1 D6 O6=>?_
 exact k (.Am z (1+m) ta tb) S6 ⟨hz,by omega,by omega,ga,gb⟩ (by simp only[Bd.dep];omega) (by simp only[Bd.size];omega) D6 (Eb.trans (O5.trans O6))
end G07
namespace G07
open PySem L2 L3 Wd
open C T5 T7
abbrev se(w:aH):Prop:=∀{S:ap} {n d:Int} {Q:bv} {E:b6},n.natAbs < 10 ^ 60->d.natAbs < 10 ^ 60->Q (.str (ak (txt (n,d)))) S->w [.tup [.int n,.int d]] S Q E
def o4:se (a4 1 bC):=by
 intro S n d Q E hn hd k
 unfold bC
 refine eR ?_
 rw[show ay 1 [PV.tup [PV.int n,PV.int d]]=[some (.tup [.int n,.int d])] from rfl]
 refine ar fun N hN=>?_
 walk_at "y"
 unfold txt at k
 by_cases h1:d=1
 ·subst h1
  rw[if_pos rfl]at k
  walk_at "y"
  simp only[cD]
  refine⟨fx hn,?_⟩
  rw[toS]
  exact k
 ·rw[if_neg h1]at k
  rw[E9 h1]
  walk_at "y"
  refine hN _ _ ?_
  walk_at "y"
  simp only[cD,toS]
  have l2:=bq (n:=n) (k:=59) (by omega)
  have l3:=bq (n:=d) (k:=59) (by omega)
  rw[oZ]
  refine⟨fx hn,ln (m:=62) (by rw[yQ];show _+1<=_;omega),fx hd,ln (m:=1000) (by rw[yQ,yQ];simp;omega),?_⟩
  rw[br]
  simpa using k
noncomputable def its:Bd->List (PV×List Nat)
 | .rest=>[]
 | .pay x y=>[(.tup [.int x,.int y],txt (x,y))]
 | .put z m=>[(.str z,sg z),(.int m,num m)]
 | .use z=>[(.str z,sg z)]
 | .Av a=>[(a.pv,tx a)]
 | .yS a b=>[(a.pv,tx a),(b.pv,tx b)]
 | .Aw a b=>[(a.pv,tx a),(b.pv,tx b)]
 | .Am z m a b=>[(.str z,sg z),(.int m,num m),(a.pv,tx a),(b.pv,tx b)]
def o5(t:Bd):t.tl=(its t).map Prod.fst:=by cases t<;>rfl
def k_{t:Bd}(h:t.hd ≠ "rest"):tx t=[40]++gl [32] (sg t.hd::(its t).map Prod.snd)++[41]:=by
 cases t with
 |rest=>exact absurd rfl h
 |_=>rfl
def lP(t:Bd):(its t).length<=4:=by cases t<;>simp[its]
def dj(ws:Vs):Prop:=∀z∈ws,Bz z/\z ∉ zF
def w6{ws:Vs}(h:dj ws){z:Str}(hz:z∈ws):(sg z).length<=6:=(h z hz).1.le
def gf{x y:Int}(h:M3.rM x y/\0<=x/\x<=10 ^ 12/\y<=10 ^ 9):(txt (x,y)).length<=30:=by
 have:=h.1.pos
 have a:=bq (n:=x) (k:=12) (by omega)
 have b:=bq (n:=y) (k:=9) (by omega)
 unfold txt
 split
 ·show(num x).length<=_;omega
 ·show(num x++47::num y).length<=_;rw[EX,Fc];omega
theorem b5(s:List Nat):∀P:List (List Nat),(gl s P).length<=(P.map List.length).sum+P.length * s.length
 |[]=>by simp[gl]
 |[p]=>by rw[bo];simp
 |p::a::q=>by
  have:=b5 s (a::q)
  rw[a7 s p (q:=a::q) (by simp)]
  simp only[EX,EV,List.sum_cons,List.length_cons,Nat.add_mul,Nat.one_mul]at *
  omega
theorem bR{ws:Vs}(hw:dj ws):∀t:Bd,t.g7 ws->(tx t).length<=60 * t.size
 | .rest,_=>by decide +kernel
 | .pay x y,g=>by
  have:=gf g
  have:=b5 [32] [sg "pay",txt (x,y)]
  have e:(sg "pay").length=3:=by decide +kernel
  simp only[tx,Bd.size,EX,List.length_singleton,EV,Fo,List.sum_cons,List.sum_nil,List.length_cons,List.length_nil]at *
  omega
 | .put z m,g=>by
  have:=w6 hw g.1
  have:=bq (n:=m) (k:=1) (by have:=g.2;omega)
  have:=b5 [32] [sg "put",sg z,num m]
  have e:(sg "put").length=3:=by decide +kernel
  simp only[tx,Bd.size,EX,List.length_singleton,EV,Fo,List.sum_cons,List.sum_nil,List.length_cons,List.length_nil]at *
  omega
 | .use z,g=>by
  have:=w6 hw g
  have:=b5 [32] [sg "use",sg z]
  have e:(sg "use").length=3:=by decide +kernel
  simp only[tx,Bd.size,EX,List.length_singleton,EV,Fo,List.sum_cons,List.sum_nil,List.length_cons,List.length_nil]at *
  omega
 | .Av a,g=>by
  have:=bR hw a g
  have:=b5 [32] [sg "often",tx a]
  have e:(sg "often").length=5:=by decide +kernel
  simp only[tx,Bd.size,EX,List.length_singleton,EV,Fo,List.sum_cons,List.sum_nil,List.length_cons,List.length_nil]at *
  omega
 | .yS a b,g=>by
  have:=bR hw a g.1
  have:=bR hw b g.2
  have:=b5 [32] [sg "then",tx a,tx b]
  have e:(sg "then").length=4:=by decide +kernel
  simp only[tx,Bd.size,EX,List.length_singleton,EV,Fo,List.sum_cons,List.sum_nil,List.length_cons,List.length_nil]at *
  omega
 | .Aw a b,g=>by
  have:=bR hw a g.1
  have:=bR hw b g.2
  have:=b5 [32] [sg "either",tx a,tx b]
  have e:(sg "either").length=6:=by decide +kernel
  simp only[tx,Bd.size,EX,List.length_singleton,EV,Fo,List.sum_cons,List.sum_nil,List.length_cons,List.length_nil]at *
  omega
 | .Am z m a b,g=>by
  have:=w6 hw g.1
  have:=bq (n:=m) (k:=1) (by have:=g.2;omega)
  have:=bR hw a g.2.2.2.1
  have:=bR hw b g.2.2.2.2
  have:=b5 [32] [sg "take",sg z,num m,tx a,tx b]
  have e:(sg "take").length=4:=by decide +kernel
  simp only[tx,Bd.size,EX,List.length_singleton,EV,Fo,List.sum_cons,List.sum_nil,List.length_cons,List.length_nil]at *
  omega
inductive IT (n:Nat) (ws:Vs) (sz:Nat):PV×List Nat->Prop
 |str (z:Str) (h:z∈ws):IT n ws sz (.str z,sg z)
 |int (m:Int) (h1:1<=m) (h2:m<=9):IT n ws sz (.int m,num m)
 |body (u:Bd) (h1:u.dep<=n) (h2:u.g7 ws) (h3:u.size<=sz):IT n ws sz (u.pv,tx u)
 |cost (x y:Int) (h:M3.rM x y/\0<=x/\x<=10 ^ 12/\y<=10 ^ 9):IT n ws sz (.tup [.int x,.int y],txt (x,y))
def la{n sz:Nat}{ws:Vs}{t:Bd}(hd:t.dep<=n+1)(hs:t.size<=sz)(g:t.g7 ws):∀p∈its t,IT n ws sz p:=by
 intro p hp
 cases t with
 |rest=>cases hp
 |pay x y=>rw[E8.mp hp];exact .cost x y g
 |put z m=>
  simp only[its,E1,Fb,FU]at hp
  rcases hp with rfl|rfl
  ·exact .str z g.1
  ·exact .int m g.2.1 g.2.2
 |use z=>rw[E8.mp hp];exact .str z g
 |Av a=>
  simp only[Bd.dep]at hd
  simp only[Bd.size]at hs
  rw[E8.mp hp];exact .body a (by omega) g (by omega)
 |yS a b=>
  simp only[Bd.dep]at hd
  simp only[Bd.size]at hs
  simp only[its,E1,Fb,FU]at hp
  rcases hp with rfl|rfl
  ·exact .body a (by omega) g.1 (by omega)
  ·exact .body b (by omega) g.2 (by omega)
 |Aw a b=>
  simp only[Bd.dep]at hd
  simp only[Bd.size]at hs
  simp only[its,E1,Fb,FU]at hp
  rcases hp with rfl|rfl
  ·exact .body a (by omega) g.1 (by omega)
  ·exact .body b (by omega) g.2 (by omega)
 |Am z m a b=>
  simp only[Bd.dep]at hd
  simp only[Bd.size]at hs
  simp only[its,E1,Fb,FU]at hp
  rcases hp with rfl|rfl|rfl|rfl
  ·exact .str z g.1
  ·exact .int m g.2.1 g.2.2.1
  ·exact .body a (by omega) g.2.2.2.1 (by omega)
  ·exact .body b (by omega) g.2.2.2.2 (by omega)
def uK{n sz:Nat}{ws:Vs}(hw:dj ws){p:PV×List Nat}(h:IT n ws sz p)(hs:sz<=60):p.2.length<=3600:=by
 cases h with
 |str z h=>have:=w6 hw h;show(sg z).length<=_;omega
 |int m h1 h2=>have:=bq (n:=m) (k:=1) (by omega);show(num m).length<=_;omega
 |body u h1 h2 h3=>have:=bR hw u h2;show(tx u).length<=_;omega
 |cost x y h=>have:=gf h;show(txt (x,y)).length<=_;omega
def qT(P:List (List Nat)):Txt.join " " (P.map ak)=ak (gl [32] P):=by
 show Builtin.Str.glued (ak [32]) (P.map ak)=_
 rw[PySem.StrLaws.glued_eq_join]
 have:=eS [32] (P.map ak)
 rw[Fy]at this
 have e:(P.map ((fun z:Str=>z.cps.toList) ∘ ak))=P:=by(conv=>rhs;rw[<-G7 P]);rfl
 rw[e]at this
 rw[<-this,eu]
def ba(z:Str):ak (sg z)=z:=eu z
def dP{te:aJ}{D:iA}{σ:bH}{S:ap}(h:te σ S D.rt D.ex):aG te D σ S:=h
abbrev yV(n:Nat)(w:aH):Prop:=∀{S:ap} {t:Bd} {ws:Vs} {Q:bv} {E:b6},dj ws->t.dep<=n->t.g7 ws->t.size<=60->(∀S',Ext S S'->Q (.str (ak (tx t))) S')->w [t.pv] S Q E
def o6(P:List (List Nat)):P.map (fun l=>PV.str (ak l))=(P.map ak).map PV.str:=by rw[Fy];rfl
def lQ{S:ap}{P:List (List Nat)}{p:Addr}{i:Nat}{σ:bH}{Q:bv}{E:b6}(hi:lk σ i=some (.ref p))(hp:S p=some (.lst ((P.map ak).map PV.str)))(hl:(P.map List.length).sum+P.length<=20000)(k:Q (.str (ak ([40]++gl [32] P++[41]))) S) :
  aj aF (aj aF (c3 (.str "(")) (bI "str" b9 (c3 (.str " ")) [v3 i])) (c3 (.str ")")) σ S Q E:=by
 have g:=b5 [32] P
 simp only[aj,bI,am,c3,v3,hi,f7,b9,hp,bU,qT]
 have e1:(("(":String):Str)=ak [40]:=rfl
 have e2:((")":String):Str)=ak [41]:=rfl
 have e3:((P.map ak).map (·.length)).sum=(P.map List.length).sum:=by rw[Fy];rfl
 refine⟨trivial,?_,?_⟩
 ·rw[e3,E2]
  show _+_ * 1<=_
  omega
 ·rw[e1,e2]
  simp only[aF,br,yQ]
  simp only[List.length_cons,List.length_nil,EX,Hy,Nat.mul_one]at g ⊢
  exact⟨ln (m:=100000) (by omega),ln (m:=100000) (by omega),k⟩
theorem jB{n sz:Nat}{ws:Vs}(hw:dj ws)(hs:sz<=60):∀{ps:List (PV×List Nat)},(∀p∈ps,IT n ws sz p)->((ps.map Prod.snd).map List.length).sum<=3600 * ps.length
 |[],_=>by simp
 |p::r,h=>by
  have a:=uK hw (h p (by simp)) hs
  have b:=jB hw hs (ps:=r) fun x hx=>h x (by simp[hx])
  simp only[EV,List.sum_cons,List.length_cons]
  omega
def o7(t:Bd):(sg t.hd).length<=6:=by cases t<;>simp only[Bd.hd]<;>decide +kernel
def mV{xc s0:aH}(Ci:se xc)(n:Nat)(ih:yV n s0):yV (n+1) (a4 3 (bD xc s0)):=by
 intro S t ws Q E hw hd g hs k
 unfold bD
 refine eR ?_
 rw[show ay 3 [t.pv]=[some t.pv,none,none] from rfl,Bd.An]
 refine ar fun N hN=>?_
 simp only[bu,aT,aj,aw,v3,lk,c3,mL,bL,Fx]
 by_cases hr:t.hd = "rest"
 ·rw[FJ hr]
  simp only[Gg,aG,c3]
  have e:t = .rest:=by cases t<;>simp[Bd.hd,aP]at hr<;>rfl
  subst e
  have:=k S .refl
  exact this
 rw[E9 hr]
 simp only[Fd,F1,aQ]
 refine hN _ _ (ar fun N hN=>?_)
 simp only[aq,bM,am,aj,aw,v3,lk,c3,mL,List.set_cons_zero,List.set_cons_succ]
 intro p hp
 have f1:(yO S p (.lst [.str t.hd])) p=some (.lst ([(sg t.hd:List Nat)].map fun l=>PV.str (ak l))):=by rw[aa,EV,Fo,ba]
 have X1:Ext S (yO S p (.lst [.str t.hd])):=.new hp
 generalize yO S p (.lst [.str t.hd])=S1 at f1 X1
 refine hN _ _ (ar fun N hN=>?_)
 have ec:cr (PV.str t.hd::t.tl) (some 1) none=(its t).map Prod.fst:=by
  rw[<-o5]
  unfold cr
  rw[HT.gi,show(1:Int)=((1:Nat):Int)from rfl,HT.iX,Nat.min_eq_left (by simp)]
  simp
 simp only[du,aX,aY,kS,jg,v3,lk,c3,gv,c_,ec]
 have hit:=la hd hs g
 have EH:=lP t
 have EI:=jB hw (EZ 60) hit
 have h6:=o7 t
 refine cQ (fun done σ S'=>Ext S S'/\done.length<=(its t).length/\∃x2,σ=[some (.tup (PV.str t.hd::t.tl)),some (.ref p),x2]/\S' p=some (.lst ((sg t.hd::((its t).take done.length).map Prod.snd).map fun l=>PV.str (ak l)))) ⟨X1,FE _,_,rfl,f1⟩ (fun _ _ _ _=>trivial) ?_ ?_
 ·rintro done x rest σ S2 K e ⟨X2,hdl,x2,rfl,f2⟩ hK
  have hget:((its t).map Prod.fst)[done.length]?=some x:=by rw[e];simp
  obtain⟨q,hq,rfl⟩:∃q,(its t)[done.length]?=some q/\Prod.fst q=x:=by rw[Fv]at hget;exact FH.mp hget
  have hlt:=(Fw.mp hq).1
  have app:∀S3,Ext S2 S3->K [some (.tup (PV.str t.hd::t.tl)),some (.ref p),some q.1] (yO S3 p (.lst ((sg t.hd::((its t).take done.length).map Prod.snd).map (fun l=>PV.str (ak l))++[.str (ak q.2)]))):=by
   intro S3 X3
   refine hK _ _ ⟨?_,by rw[EX,FP];omega,_,rfl,?_⟩
   ·intro a o ha
    rw[ao (fun e=>by rw[e,hp]at ha;cases ha)]
    exact X3 _ _ (X2 _ _ ha)
   ·rw[aa,EX,FP,G0,hq]
    simp
  have small:∀xs:List PV,xs=(sg t.hd::((its t).take done.length).map Prod.snd).map (fun l=>PV.str (ak l))->xs.length < sizeLine:=fun xs e=>by
   rw[e]
   refine E6 (show _ < 1000 from ?_) (by decide)
   simp
   omega
  simp only[Tg.put,List.set_cons_zero,List.set_cons_succ]
  have hI:=hit q (F5 hq)
  obtain⟨v,w⟩:=q
  simp only[bu,aT,ah,am,v3,lk,c3]
  cases hI with
  |str z hz=>
   refine⟨by decide,?_⟩
   rw[show eO "str" "str" = true by decide]
   simp only[Gg,a3,bI,f7,v3,lk,am,f2,aD,F6]
   refine⟨small _ rfl,?_⟩
   have:=app S2 .refl
   rw[ba]at this
   exact this
  |int m m1 m9=>
   refine⟨by decide,?_⟩
   rw[show eO "int" "str" = false by decide]
   simp only[Fd,F1]
   refine⟨by decide,?_⟩
   rw[show eO "int" "int" = true by decide]
   simp only[Gg,a3,bI,f7,v3,lk,am,f2,ah,cD,F6]
   refine⟨fx (by omega),?_⟩
   simp only[aD,f2]
   refine⟨small _ rfl,?_⟩
   rw[toS]
   exact app S2 .refl
  |body u u1 u2 u3=>
   have ety:∀S:ap,qA S u.pv=some "tuple":=fun S=>by rw[Bd.An];rfl
   simp only[kW,ety]
   refine⟨by decide,?_⟩
   rw[show eO "tuple" "str" = false by decide]
   simp only[Fd,F1]
   refine⟨by decide,?_⟩
   rw[show eO "tuple" "int" = false by decide]
   simp only[Fd,F1,aj,v3,lk,c3]
   rw[Bd.An]
   simp only[aw,mL,qA]
   refine⟨by decide,?_⟩
   rw[show eO "str" "str" = true by decide]
   simp only[Gg,a3,bI,f7,v3,lk,am,f2,ad,F6]
   rw[<-Bd.An]
   refine ih hw u1 u2 u3 fun S3 X3=>?_
   have f3:=X3 _ _ f2
   simp only[aD,f3]
   exact⟨small _ rfl,app S3 X3⟩
  |cost a b h=>
   refine⟨by decide,?_⟩
   rw[show eO "tuple" "str" = false by decide]
   simp only[Fd,F1]
   refine⟨by decide,?_⟩
   rw[show eO "tuple" "int" = false by decide]
   simp only[Fd,F1,aj,v3,lk,c3,aw,mL,kW,qA]
   refine⟨by decide,?_⟩
   rw[show eO "int" "str" = false by decide]
   simp only[Fd,F1,a3,bI,f7,v3,lk,am,f2,ad,F6]
   have:=h.1.pos
   refine Ci (by omega) (by omega) ?_
   simp only[aD,f2]
   exact⟨small _ rfl,app S2 .refl⟩
 ·rintro σ S2 ⟨X2,hdl,x2,rfl,f2⟩
  refine hN _ _ (dP ?_)
  rw[E2,G5]at f2
  rw[o6]at f2
  refine lQ rfl f2 ?_ ?_
  ·simp only[EV,List.sum_cons,List.length_cons,E2]
   omega
  ·rw[<-k_ hr]
   exact k S2 X2
noncomputable def A1:Bd->List (PV×List Nat)
 | .put z m=>[(.str z,sg z),(.int m,num m)]
 | .use z=>[(.str z,sg z)]
 | .Am z m _ _=>[(.str z,sg z),(.int m,num m)]
 |_=>[]
def lR{t:Bd}(h:t.hd ≠ "pay"):its t=A1 t++t.sides.map fun u=>(u.pv,tx u):=by
 cases t with
 |pay x y=>exact absurd rfl h
 |_=>rfl
def uL{t:Bd}{ws:Vs}(g:t.g7 ws):∀p∈A1 t,(∃z∈ws,p=(.str z,sg z))\/∃m:Int,1<=m/\m<=9/\p=(.int m,num m):=by
 intro p hp
 cases t with
 |put z m=>
  simp only[A1,E1,Fb,FU]at hp
  rcases hp with rfl|rfl
  ·exact .inl ⟨z,g.1,rfl⟩
  ·exact .inr ⟨m,g.2.1,g.2.2,rfl⟩
 |use z=>rw[E8.mp hp];exact .inl ⟨z,g,rfl⟩
 |Am z m a b=>
  simp only[A1,E1,Fb,FU]at hp
  rcases hp with rfl|rfl
  ·exact .inl ⟨z,g.1,rfl⟩
  ·exact .inr ⟨m,g.2.1,g.2.2.1,rfl⟩
 |_=>cases hp
theorem d0{α:Type}{g:Tg}{te:aJ}{σ':bH}{keep:ap->Prop}{fin:List PV->ap->Prop}(enc f:α->PV){S0:ap}(hk:∀S,Ext S0 S->keep S):∀(xs:List α) (ys:List PV) (S:ap),Ext S0 S->ys.length+xs.length<=1000->
  (∀x∈xs,∀S,Ext S0 S->∃σ2,g.put (enc x) σ'=some σ2/\∀K:bv,(∀S',Ext S S'->K (f x) S')->te σ2 S K ff)->
  (∀S',Ext S0 S'->fin (ys++xs.map f) S')->b_ g cF te σ' keep fin (xs.map enc) ys S
 |[],ys,S,X,hl,_,hf=>⟨hk S X,gL (by simpa using hl),by simpa using hf S X⟩
 |x::r,ys,S,X,hl,h,hf=>by
  obtain⟨σ2,e,h1⟩:=h x (by simp) S X
  refine⟨hk S X,gL (by simp at hl ⊢;omega),?_⟩
  rw[e]
  simp only[cF,Gg]
  refine h1 _ fun S' X'=>?_
  exact d0 enc f hk r (ys++[f x]) S' (X.trans X') (by simp at hl ⊢;omega) (fun y hy=>h y (by simp[hy])) fun S2 X2=>by simpa using hf S2 X2
def mW(t:Bd):t.sides.length<=2:=by cases t<;>simp[Bd.sides]
def o8{t u:Bd}{ws:Vs}{n:Nat}(hd:t.dep<=n+1)(g:t.g7 ws)(hs:t.size<=60)(h:u∈t.sides):u.dep<=n/\u.g7 ws/\u.size<=60:=by
 cases t with
 |Av a=>
  simp only[Bd.dep]at hd;simp only[Bd.size]at hs
  rw[E8.mp h];exact⟨by omega,g,by omega⟩
 |yS a b=>
  simp only[Bd.dep]at hd;simp only[Bd.size]at hs
  simp only[Bd.sides,E1,Fb,FU]at h
  rcases h with rfl|rfl
  ·exact⟨by omega,g.1,by omega⟩
  ·exact⟨by omega,g.2,by omega⟩
 |Aw a b=>
  simp only[Bd.dep]at hd;simp only[Bd.size]at hs
  simp only[Bd.sides,E1,Fb,FU]at h
  rcases h with rfl|rfl
  ·exact⟨by omega,g.1,by omega⟩
  ·exact⟨by omega,g.2,by omega⟩
 |Am z m a b=>
  simp only[Bd.dep]at hd;simp only[Bd.size]at hs
  simp only[Bd.sides,E1,Fb,FU]at h
  rcases h with rfl|rfl
  ·exact⟨by omega,g.2.2.2.1,by omega⟩
  ·exact⟨by omega,g.2.2.2.2,by omega⟩
 |_=>cases h
def qU{t:Bd}(h:t.hd ≠ "pay"):cr (PV.str t.hd::t.tl) none (some (((PV.str t.hd::t.tl).length:Int) - ((t.sides.map Bd.pv).length:Int)))=PV.str t.hd::(A1 t).map Prod.fst:=by
 have e:t.tl=(A1 t).map Prod.fst++t.sides.map Bd.pv:=by
  rw[o5,lR h,List.map_append,Fy]
  rfl
 have hl:((PV.str t.hd::t.tl).length:Int) - ((t.sides.map Bd.pv).length:Int)=((((A1 t).map Prod.fst).length+1:Nat):Int):=by
  rw[e]
  simp
  omega
 rw[hl,uE (by rw[e];simp),e]
 simp
def uM(x y:Int):ak (tx (.pay x y))=(("(pay ":String):Str)++ak (txt (x,y))++((")":String):Str):=by
 have e1:(("(pay ":String):Str)=ak [40,112,97,121,32]:=by decide +kernel
 have e2:((")":String):Str)=ak [41]:=rfl
 have e3:sg (("pay":String):Str)=[112,97,121]:=by decide +kernel
 rw[e1,e2,br,br]
 unfold tx
 rw[e3,a7 [32] _ (q:=[txt (x,y)]) (by simp),bo]
 simp
def o9{xf xs s0:aH}(BO:k9 xf)(Ck:iM xs)(n:Nat)(ih:yV n s0):yV (n+1) (a4 4 (dL xf xs s0)):=by
 intro S t ws Q E hw hd g hs k
 unfold dL
 refine eR ?_
 rw[show ay 4 [t.pv]=[some t.pv,none,none,none] from rfl]
 refine ar fun N hN=>?_
 rw[Bd.An]
 simp only[bu,aT,aj,aw,v3,lk,c3,mL,bL,Fx]
 by_cases hr:t.hd = "rest"
 ·rw[FJ hr]
  simp only[Gg,aG,c3]
  have e:t = .rest:=by cases t<;>simp[Bd.hd,aP]at hr<;>rfl
  subst e
  exact k S .refl
 rw[E9 hr]
 simp only[Fd,F1,aQ]
 refine hN _ _ (ar fun N hN=>?_)
 simp only[bu,aT,aj,aw,v3,lk,c3,mL,bL,Fx]
 by_cases hp:t.hd = "pay"
 ·rw[FJ hp]
  obtain⟨x,y,rfl⟩:∃x y,t = .pay x y:=by cases t<;>simp[Bd.hd,aP]at hp<;>exact⟨_,_,rfl⟩
  simp only[Gg,aG,aj,c3,ad,am,aw,v3,lk,Bd.tl,rZ]
  have:=g.1.pos
  have tl:=gf g
  refine BO (by have:=g.2;omega) (by omega) (by have:=g.2;omega) fun S1 X1=>?_
  have l1:((("(pay ":String):Str)).length=5:=by decide +kernel
  have l2:(((")":String):Str)).length=1:=by decide +kernel
  have:=k S1 X1
  rw[uM]at this
  simp only[aF]
  refine⟨ln (m:=1000) (by rw[l1,yQ];omega),ln (m:=1000) ?_,this⟩
  rw[l2]
  show(((("(pay ":String):Str)++ak (txt (x,y))).cps).size+1<=1000
  have:(((("(pay ":String):Str)++ak (txt (x,y))).cps).size=((("(pay ":String):Str)).length+(ak (txt (x,y))).length:=Array.size_append
  rw[this,l1,yQ]
  omega
 rw[E9 hp]
 simp only[Fd,F1,aQ]
 refine hN _ _ (ar fun N hN=>?_)
 simp only[aq,ad,am,v3,lk]
 rw[<-Bd.An]
 refine Ck (hN _ _ (ar fun N hN=>?_))
 rw[Bd.An]
 simp only[aq,aY,kS,jg,aj,ah,am,v3,lk,bt,bw,eL,gv,List.set_cons_zero,List.set_cons_succ]
 rw[qU hp]
 refine hN _ _ (ar fun N hN=>?_)
 simp only[aq,aj,a9,aX,v3,lk,c_,fV,List.reduceReplicate,Fo,F2]
 have EJ:=uL g
 have hpl:(A1 t).length<=2:=by cases t<;>simp[A1]
 have e1:PV.str t.hd::(A1 t).map Prod.fst=((PV.str t.hd,sg t.hd)::A1 t).map Prod.fst:=rfl
 rw[e1]
 refine dX (α:=PV×List Nat) (S:=S) (keep:=fun _=>True) Prod.fst (fun q=>.str (ak q.2)) trivial ((PV.str t.hd,sg t.hd)::A1 t) [] (fun q hq=>⟨_,rfl,fun Q q'=>?_⟩) (gL (by simp;omega)) ?_
 ·simp only[ah,am,v3,lk,List.set_cons_zero]
  rcases E1.mp hq with rfl|hq
  ·rw[ba]at q'
   exact q'
  ·rcases EJ q hq with⟨z,_,rfl⟩|⟨m,m1,m9,rfl⟩
   ·rw[ba]at q'
    exact q'
   ·refine⟨fx (by omega),?_⟩
    rw[toS]
    exact q'
 rw[GI]
 intro p1 hp1
 have f1:(yO S p1 (.lst (((PV.str t.hd,sg t.hd)::A1 t).map fun q=>.str (ak q.2)))) p1=some (.lst (((PV.str t.hd,sg t.hd)::A1 t).map fun q=>.str (ak q.2))):=aa
 have X1:Ext S (yO S p1 (.lst (((PV.str t.hd,sg t.hd)::A1 t).map fun q=>.str (ak q.2)))):=.new hp1
 generalize yO S p1 (.lst (((PV.str t.hd,sg t.hd)::A1 t).map fun q=>.str (ak q.2)))=S1 at f1 X1
 have hsl:=mW t
 refine d0 (S0:=S1) Bd.pv (fun u=>.str (ak (tx u))) (fun _ _=>trivial) t.sides [] S1 .refl (by simp;omega) (fun u hu S2 X2=>⟨_,rfl,fun K kk=>?_⟩) fun S2 X2 p2 hp2=>?_
 ·simp only[ad,am,v3,lk,List.set_cons_zero]
  obtain⟨u1,u2,u3⟩:=o8 hd g hs hu
  exact ih hw u1 u2 u3 kk
 rw[GI]
 have CC:=Ext.new (o:=.lst (t.sides.map fun u=>.str (ak (tx u)))) hp2 _ _ (X2 _ _ f1)
 have f2:(yO S2 p2 (.lst (t.sides.map fun u=>.str (ak (tx u))))) p2=some (.lst (t.sides.map fun u=>.str (ak (tx u)))):=aa
 have X3:=X1.trans (X2.trans (Ext.new (o:=.lst (t.sides.map fun u=>.str (ak (tx u)))) hp2))
 generalize yO S2 p2 (.lst (t.sides.map fun u=>.str (ak (tx u))))=S3 at CC f2 X3
 simp only[aF,CC,f2]
 refine⟨gL (by simp;omega),fun p3 hp3=>?_⟩
 have ew:((PV.str t.hd,sg t.hd)::A1 t).map (fun q=>PV.str (ak q.2))++t.sides.map (fun u=>PV.str (ak (tx u)))=((sg t.hd::(its t).map Prod.snd).map ak).map PV.str:=by
  rw[lR hp]
  simp
  rfl
 rw[ew]
 have f3:(yO S3 p3 (.lst (((sg t.hd::(its t).map Prod.snd).map ak).map PV.str))) p3=some (.lst (((sg t.hd::(its t).map Prod.snd).map ak).map PV.str)):=aa
 have X4:=X3.trans (Ext.new (o:=.lst (((sg t.hd::(its t).map Prod.snd).map ak).map PV.str)) hp3)
 generalize yO S3 p3 (.lst (((sg t.hd::(its t).map Prod.snd).map ak).map PV.str))=S4 at f3 X4
 refine hN _ _ (dP ?_)
 have EH:=lP t
 have EI:=jB hw (EZ 60) (la hd hs g)
 have h6:=o7 t
 refine lQ rfl f3 ?_ ?_
 ·simp only[EV,List.sum_cons,List.length_cons,E2]
  omega
 ·rw[<-k_ hr]
  exact k S4 X4
noncomputable def r0(js:Vs):List Nat:=gl [32] (sg "jars" :: js.map sg)
noncomputable def dr(p:Str×Bd):List Nat:=sg "deed " ++ sg p.1++sg " : " ++ tx p.2
noncomputable def hx(js:Vs)(ds:List (Str×Bd)):List Nat:=gl [10] (r0 js::ds.map dr)
structure H7 (js:Vs) (ds:List (Str×Bd)) (ws:Vs):Prop where
 w:dj ws
 j:∀z∈js,z∈ws
 jl:js.length<=4
 d:∀p∈ds,p.1∈ws
 dl:ds.length<=4
 d1:1<=ds.length
 g:∀p∈ds,p.2.g7 ws
 dp:∀p∈ds,p.2.dep<=6
 sz:∀p∈ds,p.2.size<=60
def gV(c:Str)(P:List (List Nat)):Txt.join c (P.map ak)=ak (gl (sg c) P):=by
 show Builtin.Str.glued c (P.map ak)=_
 rw[PySem.StrLaws.glued_eq_join,<-ba c]
 have:=eS (sg c) (P.map ak)
 rw[Fy]at this
 have e:(P.map ((fun z:Str=>z.cps.toList) ∘ ak))=P:=by(conv=>rhs;rw[<-G7 P]);rfl
 rw[e]at this
 rw[ba,<-this,eu,ba]
def yk(zs:Vs):zs=(zs.map sg).map ak:=by
 rw[Fy]
 conv=>lhs;rw[<-G7 zs]
 exact Hq fun z _=>(ba z).symm
def gW{js:Vs}{ds:List (Str×Bd)}{ws:Vs}(h:H7 js ds ws){p:Str×Bd}(hp:p∈ds):(dr p).length<=3700:=by
 have:=bR h.w p.2 (h.g p hp)
 have:=h.sz p hp
 have:=w6 h.w (h.d p hp)
 have e1:(sg "deed ").length=5:=by decide +kernel
 have e2:(sg " : ").length=3:=by decide +kernel
 unfold dr
 simp only[EX]
 omega
def lb{js:Vs}{ds:List (Str×Bd)}{ws:Vs}(h:H7 js ds ws):(r0 js).length<=100:=by
 have g:=b5 [32] (sg "jars" :: js.map sg)
 have e1:(sg "jars").length=4:=by decide +kernel
 have:∀l:List Str,(∀z∈l,z∈ws)->((l.map sg).map List.length).sum<=6 * l.length:=fun l=>by
  induction l with
  |nil=>intro _;simp
  |cons z r ih=>
   intro hl
   have:=w6 h.w (hl z (by simp))
   have:=ih fun y hy=>hl y (by simp[hy])
   simp only[EV,List.sum_cons,List.length_cons]
   omega
 have a:=this js h.j
 have:=h.jl
 unfold r0
 simp only[EV,List.sum_cons,List.length_cons,E2,List.length_nil]at g
 omega
def wA{js:Vs}{ds:List (Str×Bd)}{ws:Vs}(h:H7 js ds ws){S:ap}{Q:bv}(k:Q (.str (ak (r0 js))) S):fi (.str " ") [.tup (PV.str "jars" :: js.map PV.str)] S Q:=by
 have e:PV.str "jars" :: js.map PV.str=(((sg "jars" :: js.map sg).map ak)).map PV.str:=by
  rw[EV,<-yk js,ba]
  rfl
 rw[e]
 simp only[fi,bU,gV]
 refine⟨?_,k⟩
 have jl:=h.jl
 have:∀l:List Str,(∀z∈l,z∈ws)->((l.map sg).map List.length).sum<=6 * l.length:=fun l=>by
  induction l with
  |nil=>intro _;simp
  |cons z r ih=>
   intro hl
   have:=w6 h.w (hl z (by simp))
   have:=ih fun y hy=>hl y (by simp[hy])
   simp only[EV,List.sum_cons,List.length_cons]
   omega
 have a:=this js h.j
 have e1:(sg "jars").length=4:=by decide +kernel
 have e3:(((sg "jars" :: js.map sg).map ak).map (·.length)).sum=((sg "jars" :: js.map sg).map List.length).sum:=by rw[Fy];rfl
 have e4:(((" ":String):Str)).length=1:=by decide +kernel
 rw[e3,e4]
 simp only[EV,List.sum_cons,List.length_cons,E2]
 omega
def iQ{js:Vs}{ds:List (Str×Bd)}{ws:Vs}(h:H7 js ds ws){S:ap}{p:Addr}{Q:bv}(hp:S p=some (.lst (((r0 js::ds.map dr).map ak).map PV.str)))(k:Q (.str (ak (hx js ds))) S):b9 (.str "\n") [.ref p] S Q:=by
 simp only[b9,hp,bU,gV]
 refine⟨?_,k⟩
 have dl:=h.dl
 have a:=lb h
 have:∀l:List (Str×Bd),(∀q∈l,q∈ds)->((l.map dr).map List.length).sum<=3700 * l.length:=fun l=>by
  induction l with
  |nil=>intro _;simp
  |cons z r ih=>
   intro hl
   have:=gW h (hl z (by simp))
   have:=ih fun y hy=>hl y (by simp[hy])
   simp only[EV,List.sum_cons,List.length_cons]
   omega
 have b:=this ds fun q hq=>hq
 have e3:(((r0 js::ds.map dr).map ak).map (·.length)).sum=((r0 js::ds.map dr).map List.length).sum:=by rw[Fy];rfl
 have e4:((("\n":String):Str)).length=1:=by decide +kernel
 rw[e3,e4]
 simp only[EV,List.sum_cons,List.length_cons,E2]
 omega
abbrev jC(w:aH):Prop:=∀{S:ap} {js ws:Vs} {ds:List (Str×Bd)} {Q:bv} {E:b6},H7 js ds ws->(∀S',Ext S S'->Q (.str (ak (hx js ds))) S')->w [m_ js ds] S Q E
def mX{xb:aH}(BC:yV 6 xb):jC (a4 3 (cX xb)):=by
 intro S js ws ds Q E h k
 unfold cX
 refine eR ?_
 rw[show ay 3 [m_ js ds]=[some (.tup [.tup (js.map PV.str),.tup (ds.map ib)]),none,none] from rfl]
 refine ar fun N hN=>?_
 have jl:=h.jl
 simp only[aq,bM,am,bI,c3,f7,aj,bA,aw,v3,lk,mL,aF,F6,List.singleton_append,List.set_cons_zero,List.set_cons_succ]
 refine⟨gL (by simp;omega),wA h fun p hp=>hN _ _ (ar fun N hN=>?_)⟩
 have f1:(yO S p (.lst [.str (ak (r0 js))])) p=some (.lst (((r0 js::(ds.take 0).map dr).map ak).map PV.str)):=aa
 have X1:Ext S (yO S p (.lst [.str (ak (r0 js))])):=.new hp
 generalize yO S p (.lst [.str (ak (r0 js))])=S1 at f1 X1
 simp only[du,aX,aj,v3,lk,c3,aw,rZ,c_]
 refine cQ (fun done σ S'=>Ext S S'/\∃x2,σ=[some (.tup [.tup (js.map PV.str),.tup (ds.map ib)]),some (.ref p),x2]/\S' p=some (.lst (((r0 js::(ds.take done.length).map dr).map ak).map PV.str))) ⟨X1,_,rfl,f1⟩ (fun _ _ _ _=>trivial) ?_ ?_
 ·rintro done x rest σ S2 K e ⟨X2,x2,rfl,f2⟩ hK
  have hget:(ds.map ib)[done.length]?=some x:=by rw[e];simp
  obtain⟨q,hq,rfl⟩:∃q,ds[done.length]?=some q/\ib q=x:=by rw[Fv]at hget;exact FH.mp hget
  have hm:=F5 hq
  have hlt:=(Fw.mp hq).1
  have dl:=h.dl
  simp only[Tg.put,List.set_cons_zero,List.set_cons_succ,a3,bI,f7,v3,lk,f2,am,aj,c3,aw,ib,mL,ad,F6]
  have hdr:=gW h hm
  have e1:(("deed ":String):Str)=ak (sg "deed "):=(ba _).symm
  have e2:((" : ":String):Str)=ak (sg " : "):=(ba _).symm
  have e3:q.1=ak (sg q.1):=(ba _).symm
  have CD:=hdr
  unfold dr at CD
  simp only[EX]at CD
  rw[e1,e2,e3]
  simp only[aF,br,yQ,EX,rZ]
  refine⟨ln (m:=10000) (by omega),ln (m:=10000) (by omega),BC h.w (h.dp q hm) (h.g q hm) (h.sz q hm) fun S3 X3=>?_⟩
  simp only[br,yQ,EX]
  refine⟨ln (m:=10000) (by omega),?_⟩
  have f3:=X3 _ _ f2
  simp only[aD,f3]
  refine⟨E6 (show _ < 1000 by simp;omega) (by decide),hK _ _ ⟨?_,_,rfl,?_⟩⟩
  ·intro a o ha
   rw[ao (fun e=>by rw[e,hp]at ha;cases ha)]
   exact X3 _ _ (X2 _ _ ha)
  ·rw[aa,EX,FP,G0,hq]
   simp[dr]
 ·rintro σ S2 ⟨X2,x2,rfl,f2⟩
  rw[E2,G5]at f2
  refine hN _ _ (dP ?_)
  simp only[bI,c3,f7,am,v3,lk,F6]
  exact iQ h f2 (k S2 X2)
def ld{xb:aH}(BC:yV 6 xb):jC (a4 2 (bp xb)):=by
 intro S js ws ds Q E h k
 unfold bp
 refine eR ?_
 rw[show ay 2 [m_ js ds]=[some (.tup [.tup (js.map PV.str),.tup (ds.map ib)]),none] from rfl]
 refine ar fun N hN=>?_
 have jl:=h.jl
 have dl:=h.dl
 simp only[aq,bM,am,bI,c3,f7,aj,bA,aw,v3,lk,mL,aF,F6,List.singleton_append,List.set_cons_zero,List.set_cons_succ]
 refine⟨gL (by simp;omega),wA h fun p hp=>hN _ _ (dP ?_)⟩
 have f1:(yO S p (.lst [.str (ak (r0 js))])) p=some (.lst [.str (ak (r0 js))]):=aa
 have X1:Ext S (yO S p (.lst [.str (ak (r0 js))])):=.new hp
 generalize yO S p (.lst [.str (ak (r0 js))])=S1 at f1 X1
 simp only[bI,c3,f7,am,aj,v3,lk,F6,a9,aX,aw,rZ,c_,fV,List.reduceReplicate,Fo,F2]
 refine d0 (S0:=S1) ib (fun q=>.str (ak (dr q))) (fun _ _=>trivial) ds [] S1 .refl (by simp;omega) (fun q hm S2 X2=>⟨_,rfl,fun K kk=>?_⟩) fun S2 X2 p2 hp2=>?_
 ·have hdr:=gW h hm
  have e1:(("deed ":String):Str)=ak (sg "deed "):=(ba _).symm
  have e2:((" : ":String):Str)=ak (sg " : "):=(ba _).symm
  have e3:q.1=ak (sg q.1):=(ba _).symm
  unfold dr at hdr
  simp only[EX]at hdr
  simp only[aj,c3,v3,lk,List.set_cons_zero,List.set_cons_succ,ad,am]
  rw[e1,e2,e3]
  simp only[aF,br,yQ,EX]
  refine⟨ln (m:=10000) (by omega),ln (m:=10000) (by omega),BC h.w (h.dp q hm) (h.g q hm) (h.sz q hm) fun S3 X3=>?_⟩
  simp only[br,yQ,EX]
  exact⟨ln (m:=10000) (by omega),kk S3 X3⟩
 rw[GI]
 have CC:=Ext.new (o:=.lst (ds.map fun q=>.str (ak (dr q)))) hp2 _ _ (X2 _ _ f1)
 have f2:(yO S2 p2 (.lst (ds.map fun q=>.str (ak (dr q))))) p2=some (.lst (ds.map fun q=>.str (ak (dr q)))):=aa
 have X3:=X1.trans (X2.trans (Ext.new (o:=.lst (ds.map fun q=>.str (ak (dr q)))) hp2))
 generalize yO S2 p2 (.lst (ds.map fun q=>.str (ak (dr q))))=S3 at CC f2 X3
 simp only[aF,CC,f2]
 refine⟨gL (by simp;omega),fun p3 hp3=>?_⟩
 refine iQ h ?_ (k _ (X3.trans (.new hp3)))
 rw[aa]
 simp
end G07
namespace G07
open PySem L2 L3 Wd
open C T5 T7 PySem.NumText
def uN{c:Nat}(h:97<=c/\c<=122):(false != !(Builtin.Str.occurrences (PySem.Str.ofString "abcdefghijklmnopqrstuvwxyz") (fE c) 0 (PySem.Str.ofString "abcdefghijklmnopqrstuvwxyz").length 1).isEmpty)=true:=by
 rw[Fx,GP,Hs,show(PySem.Str.ofString "abcdefghijklmnopqrstuvwxyz").cps.toList=List.range' 97 26 from by decide +kernel,List.mem_range'_1]
 omega
abbrev wB(w:aH):Prop:=∀{S:ap} {z:Str} {Q:bv} {E:b6},Bz z/\z ∉ zF->(∀S',Ext S S'->Q (.bl true) S')->w [.str z] S Q E
def qV:wB (a4 1 fk):=by
 intro S z Q E ⟨h,hk⟩ k
 unfold fk
 refine eR ?_
 rw[show ay 1 [PV.str z]=[some (.str z)] from rfl]
 refine ar fun N hN=>?_
 have h1:z.cps.toList.length≠0:=fun e=>h.ne (List.length_eq_zero_iff.mp e)
 have h2:=h.le
 have e1:z.length=z.cps.toList.length:=by show z.cps.size=_;simp
 walk_at "x"
 rw[e1,E9 (by omega)]
 walk_at "y"
 rw[E9 (by omega)]
 walk_at "y"
 refine⟨ln (m:=60) (by omega),ln (m:=60) (by omega),hN _ _ (dP ?_)⟩
 simp only[eK,aj,v3,lk,c3]
 refine oP (zs:=zF) (k5 h) lO ?_
 rw[E9 hk]
 walk_at "y"
 refine dX (fun c=>PV.str (fE c)) (fun c=>PV.bl true) trivial z.cps.toList [] (fun c hc=>⟨_,rfl,fun Q q=>?_⟩) (ln (m:=60) (by rw[Gs];omega)) ?_
 ·show Q (.bl (false != !(Builtin.Str.occurrences (PySem.Str.ofString "abcdefghijklmnopqrstuvwxyz") (fE c) 0 (PySem.Str.ofString "abcdefghijklmnopqrstuvwxyz").length 1).isEmpty)) S
  rw[uN (h.sm c hc)];exact q
 intro p hp
 simp only[mw,aa,List.nil_append,fy]
 have ea:(z.cps.toList.map fun _=>true).all id=true:=by simp
 rw[ea]
 exact k _ (.new hp)
abbrev gX(w:aH):Prop:=∀{S:ap} {z:Str} {Q:bv} {E:b6},Bz z/\z ∉ zF->(∀S',Ext S S'->Q (.str z) S')->w [.str z] S Q E
def mY{x:aH}(Dw:wB x):gX (a4 1 (dD x)):=by
 intro S z Q E h k
 unfold dD
 refine eR ?_
 rw[show ay 1 [PV.str z]=[some (.str z)] from rfl]
 refine ar fun N hN=>?_
 walk_at "x"
 refine Dw h fun S' X=>?_
 walk_at "y"
 refine hN _ _ ?_
 walk_at "y"
 exact k _ X
abbrev o_(w:aH):Prop:=∀{S:ap} {m:Int} {Q:bv} {E:b6},1<=m->m<=9->Q (.int m) S->w [.str (ak (num m))] S Q E
def mZ:o_ (a4 1 cv):=by
 intro S m Q E h1 h2 k
 obtain⟨n,rfl⟩:∃n:Nat,m=(n:Int):=⟨m.toNat,by omega⟩
 rw[bG,Ac (by omega)]
 unfold cv
 refine eR ?_
 rw[show ay 1 [PV.str (ak [48+n])]=[some (.str (fE (48+n)))] from rfl]
 refine ar fun N hN=>?_
 walk_at "x"
 rw[show((fE (48+n)).length:Int)=1 from rfl]
 walk_at "y"
 simp only[lB]
 rw[GP,FJ (by rw[show(PySem.Str.ofString "123456789").cps.toList=List.range' 49 9 from by decide +kernel,List.mem_range'_1];omega)]
 walk_at "y"
 refine⟨ln (m:=1) (by show 1<=1;decide),hN _ _ ?_⟩
 walk_at "y"
 simp only[iJ]
 have e:intText? (fE (48+n))=some ((n:Nat):Int):=by
  have:=intText_digits (x:=ak [48+n]) (by rw[toL];intro c hc;rw[E8.mp hc];omega) (by rw[toL];simp) (by rw[yQ];show 1<=_;decide)
  rw[toL]at this
  rw[show fE (48+n)=ak [48+n] from rfl,this]
  simp[NumText.digitsVal]
 rw[e]
 exact⟨by show 1<=640;decide,k⟩
def ym(ws:Vs)(kd:Str)(l:List Nat)(v:PV):Prop:=
 (kd = "name"/\∃z∈ws,l=sg z/\v = .str z)\/(kd = "things"/\∃m:Int,1<=m/\m<=9/\l=num m/\v = .int m)\/(kd = "cost"/\∃x y:Int,(M3.rM x y/\0<=x/\x<=10 ^ 12/\y<=10 ^ 9)/\l=txt (x,y)/\v = .tup [.int x,.int y])
def uO(n:Nat):47 ∉ dn n:=fun h=>by have:=fh n _ h;omega
def pb{x y:Int}(h:M3.rM x y/\0<=x/\x<=10 ^ 12/\y<=10 ^ 9):rn (txt (x,y))=some (x.toNat,y.toNat):=by
 obtain⟨⟨p,g⟩,h0,-,-⟩:=h
 obtain⟨n,rfl⟩:∃n:Nat,x=(n:Int):=⟨x.toNat,by omega⟩
 obtain⟨m,rfl⟩:∃m:Nat,y=(m:Int):=⟨y.toNat,by omega⟩
 have g':Nat.gcd n m=1:=g
 by_cases e:m=1
 ·subst e
  have e1:txt ((n:Int),((1:Nat):Int))=dn n:=by rw[<-bG];exact if_pos rfl
  rw[e1]
  unfold rn
  rw[f9 _ (uO n)]
  dsimp only
  rw[oD]
  rfl
 ·have e1:txt ((n:Int),(m:Int))=dn n++47::dn m:=by rw[<-bG,<-bG];exact if_neg (by show ¬(m:Int)=1;omega)
  rw[e1]
  unfold rn
  rw[k4 _ _ (uO n),f9 _ (uO m)]
  dsimp only
  rw[oD,oD]
  dsimp only
  rw[if_neg (by omega)]
  rfl
def uP{x y:Int}(h:M3.rM x y/\0<=x/\x<=10 ^ 12/\y<=10 ^ 9):Ps (txt (x,y)):=by
 have:=gf h
 exact⟨by omega,fun p hp=>by have:=rX _ p hp;omega⟩
abbrev pc(w:aH):Prop:=∀{S:ap} {ws:Vs} {kd:Str} {l:List Nat} {v:PV} {Q:bv} {E:b6},dj ws->ym ws kd l v->(∀S',Ext S S'->Q v S')->w [.str kd,.str (ak l)] S Q E
def pd{x0 x1 x2:aH}(BD:sd x0)(Dx:o_ x1)(Dy:gX x2):pc (a4 2 (dE x0 x1 x2)):=by
 intro S ws kd l v Q E hw h k
 unfold dE
 refine eR ?_
 rw[show ay 2 [PV.str kd,PV.str (ak l)]=[some (.str kd),some (.str (ak l))] from rfl]
 refine ar fun N hN=>?_
 rcases h with⟨rfl,z,hz,rfl,rfl⟩|⟨rfl,m,m1,m9,rfl,rfl⟩|⟨rfl,x,y,hc,rfl,rfl⟩
 ·walk_at "y"
  refine hN _ _ (ar fun N hN=>?_)
  walk_at "y"
  refine hN _ _ ?_
  walk_at "y"
  rw[ba]
  exact Dy (hw z hz) k
 ·walk_at "y"
  refine hN _ _ (ar fun N hN=>?_)
  walk_at "y"
  exact Dx m1 m9 (k S .refl)
 ·walk_at "y"
  refine BD (uP hc) (fun t u S' e X=>?_) fun S' e X=>?_
  ·rw[pb hc]at e
   cases e
   have:=k S' X
   rw[Int.toNat_of_nonneg hc.2.1,Int.toNat_of_nonneg (GB hc.1.pos)]
   exact this
  ·rw[pb hc]at e
   cases e
abbrev x8(w:aH):Prop:=∀{S:ap} {p:Addr} {W:List (List Nat)} {i:Nat} {l:List Nat} {Q:bv} {E:b6},S p=some (.lst ((W.map ak).map PV.str))->W[i]?=some l->Q (.str (ak l)) S->w [.ref p,.int (i:Int)] S Q E
def pe:x8 (a4 2 fm):=by
 intro S p W i l Q E hp hi k
 unfold fm
 refine eR ?_
 rw[show ay 2 [PV.ref p,PV.int (i:Int)]=[some (.ref p),some (.int (i:Int))] from rfl]
 refine ar fun N hN=>?_
 have hl:=(Fw.mp hi).1
 walk_at "x"
 rw[hp]
 dsimp only
 rw[FJ (by simp only[E2];omega)]
 walk_at "y"
 rw[show zN ((W.map ak).map PV.str) (i:Int)=some (.str (ak l))from dR (j:=i) (by simp[hi])]
 exact k
noncomputable def Ah:Bd->List (Str×List (List Nat)×PV)
 | .rest=>[]
 | .pay x y=>[("cost",[txt (x,y)],.tup [.int x,.int y])]
 | .put z m=>[("name",[sg z],.str z),("things",[num m],.int m)]
 | .use z=>[("name",[sg z],.str z)]
 | .Av a=>[("body",wd a,a.pv)]
 | .yS a b=>[("body",wd a,a.pv),("body",wd b,b.pv)]
 | .Aw a b=>[("body",wd a,a.pv),("body",wd b,b.pv)]
 | .Am z m a b=>[("name",[sg z],.str z),("things",[num m],.int m),("body",wd a,a.pv),("body",wd b,b.pv)]
noncomputable def fw(ps:List (Str×List (List Nat)×PV)):List (List Nat):=ps.flatMap fun r=>r.2.1
def pf{t:Bd}(h:t.hd ≠ "rest"):wd t=[40]::sg t.hd::(fw (Ah t)++[[41]]):=by
 cases t with
 |rest=>exact absurd rfl h
 |_=>simp[wd,Ah,fw,Bd.hd]
def uQ(t:Bd):t.pv = .tup (.str t.hd::(Ah t).map fun r=>r.2.2):=by cases t<;>rfl
def iR{t:Bd}(h:t.hd ≠ "rest"):ke [("pay",["cost"]),("put",["name","things"]),("then",["body","body"]),("either",["body","body"]),("take",["name","things","body","body"]),("often",["body"]),("use",["name"])] t.hd=some ((Ah t).map fun r=>r.1):=by
 cases t with
 |rest=>exact absurd rfl h
 |_=>simp[ke,Ah,Bd.hd,aP]
def PT(n:Nat)(ws:Vs)(r:Str×List (List Nat)×PV):Prop:=(∃a:Bd,a.dep<=n/\a.g7 ws/\r=(("body":Str),wd a,a.pv))\/(r.1 ≠ "body"/\∃l,r.2.1=[l]/\ym ws r.1 l r.2.2)
def jD{n:Nat}{ws:Vs}{z:Str}(h:z∈ws):PT n ws ("name",[sg z],.str z):=.inr ⟨by simp[aP],_,rfl,.inl ⟨rfl,z,h,rfl,rfl⟩⟩
def iS{n:Nat}{ws:Vs}{m:Int}(h1:1<=m)(h2:m<=9):PT n ws ("things",[num m],.int m):=.inr ⟨by simp[aP],_,rfl,.inr (.inl ⟨rfl,m,h1,h2,rfl,rfl⟩)⟩
def uR{n:Nat}{ws:Vs}{t:Bd}(hd:t.dep<=n+1)(g:t.g7 ws):∀r∈Ah t,PT n ws r:=by
 intro p hp
 cases t with
 |rest=>cases hp
 |pay x y=>rw[E8.mp hp];exact .inr ⟨by simp[aP],_,rfl,.inr (.inr ⟨rfl,x,y,g,rfl,rfl⟩)⟩
 |put z m=>
  simp only[Ah,E1,Fb,FU]at hp
  rcases hp with rfl|rfl
  ·exact jD g.1
  ·exact iS g.2.1 g.2.2
 |use z=>rw[E8.mp hp];exact jD g
 |Av a=>
  simp only[Bd.dep]at hd
  rw[E8.mp hp];exact .inl ⟨a,by omega,g,rfl⟩
 |yS a b=>
  simp only[Bd.dep]at hd
  simp only[Ah,E1,Fb,FU]at hp
  rcases hp with rfl|rfl
  ·exact .inl ⟨a,by omega,g.1,rfl⟩
  ·exact .inl ⟨b,by omega,g.2,rfl⟩
 |Aw a b=>
  simp only[Bd.dep]at hd
  simp only[Ah,E1,Fb,FU]at hp
  rcases hp with rfl|rfl
  ·exact .inl ⟨a,by omega,g.1,rfl⟩
  ·exact .inl ⟨b,by omega,g.2,rfl⟩
 |Am z m a b=>
  simp only[Bd.dep]at hd
  simp only[Ah,E1,Fb,FU]at hp
  rcases hp with rfl|rfl|rfl|rfl
  ·exact jD g.1
  ·exact iS g.2.1 g.2.2.1
  ·exact .inl ⟨a,by omega,g.2.2.2.1,rfl⟩
  ·exact .inl ⟨b,by omega,g.2.2.2.2,rfl⟩
def qW(t:Bd):(Ah t).length<=4:=by cases t<;>simp[Ah]
def fz{α:Type}{W X Y:List α}{l:α}{i:Nat}(e:W=X++l::Y)(h:X.length=i):W[i]?=some l:=by rw[e,<-h];simp
def lS{t:Bd}(h:t.hd = "rest"):t = .rest:=by cases t<;>simp[Bd.hd,aP]at h ⊢
abbrev lT(n:Nat)(w:aH):Prop:=∀{S:ap} {ws:Vs} {t:Bd} {A B:List (List Nat)} {p:Addr} {Q:bv} {E:b6},dj ws->t.dep<=n->t.g7 ws->S p=some (.lst (((A++wd t++B).map ak).map PV.str))->(∀S',Ext S S'->Q (.tup [t.pv,.int ((A.length+(wd t).length:Nat):Int)]) S')->w [.ref p,.int (A.length:Int)] S Q E
def qX{ps:List (Str×List (List Nat)×PV)}{k:Nat}{r:Str×List (List Nat)×PV}(h:ps[k]?=some r):fw ps=fw (ps.take k)++r.2.1++fw (ps.drop (k+1)):=by
 have e:ps=ps.take k++r::ps.drop (k+1):=by
  obtain⟨hl,rfl⟩:=Fw.mp h
  rw[List.getElem_cons_drop,List.take_append_drop]
 conv=>lhs;rw[e]
 simp[fw]
def qY{ps:List (Str×List (List Nat)×PV)}{k:Nat}{r:Str×List (List Nat)×PV}(h:ps[k]?=some r):fw (ps.take (k+1))=fw (ps.take k)++r.2.1:=by
 rw[G0,h]
 simp[fw]
def pg{xa xw s0:aH}(AM:x8 xa)(Dz:pc xw)(n:Nat)(ih:lT n s0):lT (n+1) (a4 6 (dG xa xw s0)):=by
 intro S ws t A B p Q E hw hd g hp k
 unfold dG
 refine eR ?_
 rw[show ay 6 [PV.ref p,PV.int (A.length:Int)]=[some (.ref p),some (.int (A.length:Int)),none,none,none,none] from rfl]
 refine ar fun N hN=>?_
 by_cases hr:t.hd = "rest"
 ·obtain rfl:=lS hr
  simp only[bu,aT,aj,ad,am,v3,lk,c3]
  refine AM hp (fz (X:=A) (l:=sg "rest") (Y:=B) (by simp[wd]) rfl) ?_
  rw[ba]
  walk_at "y"
  exact k S .refl
 have hW:A++wd t++B=A++[40]::sg t.hd::(fw (Ah t)++[41]::B):=by rw[pf hr];simp
 simp only[bu,aT,aj,ad,am,v3,lk,c3]
 refine AM hp (fz hW rfl) ?_
 rw[show ak [40]=Str.ofString "(" from rfl]
 walk_at "y"
 refine hN _ _ (ar fun N hN=>?_)
 simp only[aq,aj,ad,am,v3,lk,c3,aF]
 rw[show(A.length:Int)+1=((A.length+1:Nat):Int)from by omega]
 refine AM hp (fz (X:=A++[[40]]) (l:=sg t.hd) (Y:=fw (Ah t)++[41]::B) (by rw[hW];simp) (by simp)) ?_
 rw[ba]
 simp only[List.set_cons_zero,List.set_cons_succ]
 refine hN _ _ (ar fun N hN=>?_)
 simp only[bu,jb,aT,aj,ad,am,v3,lk,c3]
 refine AM hp (fz hW rfl) ?_
 rw[show ak [40]=Str.ofString "(" from rfl]
 simp only[bL,oG,v3,lk,iR hr,Option.isSome_some]
 walk_at "y"
 refine hN _ _ (ar fun N hN=>?_)
 simp only[aq,bM,am,v3,lk,List.set_cons_zero,List.set_cons_succ]
 intro q hq
 have f1:(yO S q (.lst [.str t.hd])) q=some (.lst (.str t.hd::((Ah t).take 0).map fun r=>r.2.2)):=aa
 have X1:Ext S (yO S q (.lst [.str t.hd])):=.new hq
 generalize yO S q (.lst [.str t.hd])=S1 at f1 X1
 refine hN _ _ (ar fun N hN=>?_)
 walk_at "x"
 refine hN _ _ (ar fun N hN=>?_)
 simp only[du,aX,oF,v3,lk,iR hr,c_]
 refine cQ (fun done σ S'=>Ext S S'/\∃x4 x5,σ=[some (.ref p),some (.int ((A.length+2+(fw ((Ah t).take done.length)).length:Nat):Int)),some (.str t.hd),some (.ref q),x4,x5]/\S' q=some (.lst (.str t.hd::((Ah t).take done.length).map fun r=>r.2.2))) ⟨X1,_,_,rfl,f1⟩ (fun _ _ _ _=>trivial) ?_ ?_
 ·rintro done x rest σ S2 K e ⟨X2,x4,x5,rfl,f2⟩ hK
  have hget:(((Ah t).map fun r=>r.1).map PV.str)[done.length]?=some x:=by rw[e];simp
  obtain⟨r,hr1,rfl⟩:∃r,(Ah t)[done.length]?=some r/\PV.str r.1=x:=by
   rw[Fy,Fv]at hget
   exact FH.mp hget
  have hm:=uR hd g r (F5 hr1)
  have hlt:=(Fw.mp hr1).1
  have pl:=qW t
  have hp2:=X2 _ _ hp
  have hS:=qY hr1
  have Ec:A++wd t++B=(A++[40]::sg t.hd::fw ((Ah t).take done.length))++r.2.1++(fw ((Ah t).drop (done.length+1))++[41]::B):=by rw[hW,qX hr1];simp
  have hA:(A++[40]::sg t.hd::fw ((Ah t).take done.length)).length=A.length+2+(fw ((Ah t).take done.length)).length:=by simp;omega
  have fin:∀(S3:ap) (y5:Option PV),Ext S2 S3->∀(m:Int),m=((A.length+2+(fw ((Ah t).take done.length)).length+r.2.1.length:Nat):Int)->K [some (.ref p),some (.int m),some (.str t.hd),some (.ref q),some (.str r.1),y5] (yO S3 q (.lst ((.str t.hd::((Ah t).take done.length).map fun r=>r.2.2)++[r.2.2]))):=by
   intro S3 y5 X3 m hm'
   refine hK _ _ ⟨?_,some (.str r.1),y5,?_,?_⟩
   ·intro a o ha
    rw[ao (fun e=>by rw[e,hq]at ha;cases ha)]
    exact X3 _ _ (X2 _ _ ha)
   ·rw[hm',EX,FP,hS,EX,Nat.add_assoc]
   ·rw[aa,EX,FP,G0,hr1]
    simp
  simp only[Tg.put,List.set_cons_zero,List.set_cons_succ,bu,aT,aj,v3,lk,c3,bL,Fx,FG]
  rcases hm with⟨a,da,ga,rfl⟩|⟨hnb,l,hl,hi⟩
  ·rw[if_pos rfl]
   refine ar fun N2 BP=>?_
   simp only[aq,ad,am,v3,lk]
   rw[<-hA]
   refine ih hw da ga (by rw[<-Ec];exact hp2) fun S3 X3=>?_
   simp only[List.set_cons_zero,List.set_cons_succ]
   refine BP _ _ (ar fun N3 EK=>?_)
   have f3:=X3 _ _ f2
   simp only[a3,bI,f7,v3,lk,f3,am,aj,c3,aw,mL,aD,F6]
   refine⟨E6 (show _ < 1000 by simp;omega) (by decide),EK _ _ ?_⟩
   simp only[aq,aj,v3,lk,c3,aw,rZ,List.set_cons_zero,List.set_cons_succ]
   exact fin S3 _ X3 _ (by rw[hA])
  ·rw[if_neg hnb]
   refine ar fun N2 BP=>?_
   simp only[a3,bI,f7,v3,lk,f2,am,ad,F6]
   refine AM hp2 (fz (l:=l) (by rw[Ec,hl];simp;rfl) hA) ?_
   refine Dz hw hi fun S3 X3=>?_
   have f3:=X3 _ _ f2
   simp only[aD,f3]
   refine⟨E6 (show _ < 1000 by simp;omega) (by decide),BP _ _ ?_⟩
   simp only[aq,aj,v3,lk,c3,aF,List.set_cons_zero,List.set_cons_succ]
   exact fin S3 _ X3 _ (by rw[hl];simp)
 ·rintro σ S2 ⟨X2,x4,x5,rfl,f2⟩
  rw[E2,E2,G5]at f2 ⊢
  refine hN _ _ (ar fun N hN=>?_)
  have hp2:=X2 _ _ hp
  simp only[bu,aT,aj,ad,am,v3,lk,c3]
  refine AM hp2 (fz (X:=A++[40]::sg t.hd::fw (Ah t)) (l:=[41]) (Y:=B) (by rw[hW];simp) (by simp;omega)) ?_
  rw[show ak [41]=Str.ofString ")" from rfl]
  walk_at "y"
  refine hN _ _ ?_
  have:=k S2 X2
  rw[uQ,pf hr]at this
  walk_at "y"
  rw[f2]
  walk_at "y"
  have e:((A.length+([40]::sg t.hd::(fw (Ah t)++[[41]])).length:Nat):Int)=((A.length+2+(fw (Ah t)).length:Nat):Int)+1:=by simp;omega
  rw[e]at this
  exact this
def gY{l:List Nat}(h:∀c∈l,45<=c):Wo l:=⟨fun q=>by have:=h _ q;omega,fun q=>by have:=h _ q;omega,fun q=>by have:=h _ q;omega,fun q=>by have:=h _ q;omega⟩
def qZ{ws:Vs}(hw:dj ws){z:Str}(hz:z∈ws):∀c∈sg z,45<=c:=fun c hc=>by have:=(hw z hz).1.sm c hc;omega
def wC(n:Nat):∀c∈dn n,45<=c:=fun c hc=>by have:=fh n c hc;omega
def gZ{m:Int}(h:0<=m):∀c∈num m,45<=c:=by
 obtain⟨n,rfl⟩:∃n:Nat,m=(n:Int):=⟨m.toNat,by omega⟩
 rw[bG]
 exact wC n
def uS{x y:Int}(h:M3.rM x y/\0<=x/\x<=10 ^ 12/\y<=10 ^ 9):∀c∈txt (x,y),45<=c:=by
 intro c hc
 unfold txt at hc
 split at hc
 ·exact gZ h.2.1 c hc
 ·rcases Fe.mp hc with hc|hc
  ·exact gZ h.2.1 c hc
  ·rcases E1.mp hc with rfl|hc
   ·decide
   ·exact gZ (GB h.1.pos) c hc
theorem jE{ws:Vs}(hw:dj ws):∀t:Bd,t.g7 ws->Wf t
 | .rest,_=>trivial
 | .pay x y,g=>gY (uS g)
 | .put z m,g=>⟨gY (qZ hw g.1),gY (gZ (by have:=g.2.1;omega))⟩
 | .use z,g=>gY (qZ hw g)
 | .Av a,g=>jE hw a g
 | .yS a b,g=>⟨jE hw a g.1,jE hw b g.2⟩
 | .Aw a b,g=>⟨jE hw a g.1,jE hw b g.2⟩
 | .Am z m a b,g=>⟨gY (qZ hw g.1),gY (gZ (by have:=g.2.1;omega)),jE hw a g.2.2.2.1,jE hw b g.2.2.2.2⟩
theorem jF{c:Nat}{s:List Nat}:∀{P:List (List Nat)},c∈gl s P->c∈s\/∃p∈P,c∈p
 |[],h=>by cases h
 |[p],h=>by rw[bo]at h;exact .inr ⟨p,by simp,h⟩
 |p::a::q,h=>by
  rw[a7 _ _ (by simp)]at h
  rcases Fe.mp h with h|h
  ·rcases Fe.mp h with h|h
   ·exact .inr ⟨p,by simp,h⟩
   ·exact .inl h
  ·rcases jF h with h|⟨x,hx,h⟩
   ·exact .inl h
   ·exact .inr ⟨x,Fi _ hx,h⟩
def g6{P:List (List Nat)}(h:∀p∈P,10 ∉ p):10 ∉ [40]++gl [32] P++[41]:=by
 intro q
 rcases Fe.mp q with q|q
 ·rcases Fe.mp q with q|q
  ·simp at q
  ·rcases jF q with q|⟨p,hp,q⟩
   ·simp at q
   ·exact h p hp q
 ·simp at q
def Ao:∀z∈(["rest","pay","put","use","often","then","either","take"]:Vs),10 ∉ sg z:=by decide +kernel
theorem Ap:∀t:Bd,Wf t->10 ∉ tx t
 | .rest,_=>Ao "rest" (by simp)
 | .pay x y,f=>g6 (by rintro p (_|⟨_,(_|⟨_,⟨⟩⟩)⟩)<;>first|exact Ao "pay" (by simp)|exact f.2.2.2)
 | .put z m,f=>g6 (by rintro p (_|⟨_,(_|⟨_,(_|⟨_,⟨⟩⟩)⟩)⟩)<;>first|exact Ao "put" (by simp)|exact f.1.2.2.2|exact f.2.2.2.2)
 | .use z,f=>g6 (by rintro p (_|⟨_,(_|⟨_,⟨⟩⟩)⟩)<;>first|exact Ao "use" (by simp)|exact f.2.2.2)
 | .Av a,f=>g6 (by rintro p (_|⟨_,(_|⟨_,⟨⟩⟩)⟩)<;>first|exact Ao "often" (by simp)|exact Ap a f)
 | .yS a b,f=>g6 (by rintro p (_|⟨_,(_|⟨_,(_|⟨_,⟨⟩⟩)⟩)⟩)<;>first|exact Ao "then" (by simp)|exact Ap a f.1|exact Ap b f.2)
 | .Aw a b,f=>g6 (by rintro p (_|⟨_,(_|⟨_,(_|⟨_,⟨⟩⟩)⟩)⟩)<;>first|exact Ao "either" (by simp)|exact Ap a f.1|exact Ap b f.2)
 | .Am z m a b,f=>g6 (by rintro p (_|⟨_,(_|⟨_,(_|⟨_,(_|⟨_,(_|⟨_,⟨⟩⟩)⟩)⟩)⟩)⟩)<;>first|exact Ao "take" (by simp)|exact f.1.2.2.2|exact f.2.1.2.2.2|exact Ap a f.2.2.1|exact Ap b f.2.2.2)
theorem lg(c:Nat)(d:List Nat)(hd:d.length=2):∀l:List Nat,(rp c d l).length<=2 * l.length
 |[]=>by simp[rp]
 |x::r=>by
  have ih:=lg c d hd r
  have e:rp c d (x::r)=(if x=c then d else [x])++rp c d r:=rfl
  rw[e,EX]
  split
  ·rw[Fc];omega
  ·rw[Fc,Fc,Gs];omega
theorem jG(c:Nat):∀l,(di c l).length<=l.length+1
 |[]=>by simp[di]
 |d::r=>by
  have ih:=jG c r
  unfold di
  split
  ·simp;omega
  ·split
   ·simp
   ·rename_i p q e
    rw[e]at ih
    simp at ih ⊢;omega
def uT(c:Nat)(l:List Nat):gl [c] (di c l)=l:=by
 have h:=gO (ak l) c
 rw[km,Fy,toL]at h
 have e:(di c l).map ((fun y:Str=>y.cps.toList) ∘ ak)=di c l:=by(conv=>rhs;rw[<-G7 (di c l)]);rfl
 rw[e]at h
 exact h
def gg{l:List Nat}{c:Nat}{S:ap}{Q:bv}(hl:l.length<=20000)(k:∀p,S p=none->Q (.ref p) (yO S p (.lst (((di c l).map ak).map PV.str)))):cu (.str (ak l)) [.str ⟨#[c]⟩] S Q:=by
 have:=jG c l
 simp only[cu,km]
 exact⟨rfl,ln (m:=20000) hl,ln (m:=20001) (by rw[E2];omega),k⟩
abbrev ph(w:aH):Prop:=∀{S:ap} {t:Bd} {Q:bv} {E:b6},Wf t->(tx t).length<=3600->(∀p,S p=none->Q (.ref p) (yO S p (.lst (((wd t).map ak).map PV.str))))->w [.str (ak (tx t))] S Q E
def m4:ph (a4 1 cw):=by
 intro S t Q E f hl k
 unfold cw
 refine eR (dP ?_)
 rw[show ay 1 [PV.str (ak (tx t))]=[some (.str (ak (tx t)))] from rfl]
 have e1:("(":Str)=⟨#[40]⟩:=rfl
 have e2:("( ":Str)=ak [40,32]:=rfl
 have e3:(")":Str)=⟨#[41]⟩:=rfl
 have e4:(" )":Str)=ak [32,41]:=rfl
 have l1:=lg 40 [40,32] rfl (tx t)
 have l2:=lg 41 [32,41] rfl (rp 40 [40,32] (tx t))
 simp only[bI,f7,lL,v3,lk,am,c3]
 rw[e1,e2,oU,e3,e4,oU]
 simp only[yQ,List.length_cons,List.length_nil,F6]
 refine⟨by omega,by omega,?_⟩
 rw[show((" ":String):Str)=⟨#[32]⟩from rfl]
 refine gg (by omega) ?_
 rw[show rp 41 [32,41] (rp 40 [40,32] (tx t))=rq (tx t)from rfl,fL t f,gN 32 _ (kn t) (ce t f)]
 exact k
abbrev lU(w:aH):Prop:=∀{S:ap} {ws:Vs} {t:Bd} {Q:bv} {E:b6},dj ws->t.dep<=6->t.g7 ws->t.size<=60->(∀S',Ext S S'->Q t.pv S')->w [.str (ak (tx t))] S Q E
def pk{x0 x1:aH}(Ck:ph x0)(DA:lT 6 x1):lU (a4 3 (dH x0 x1)):=by
 intro S ws t Q E hw hd g hs k
 have hl:=bR hw t g
 unfold dH
 refine eR ?_
 rw[show ay 3 [PV.str (ak (tx t))]=[some (.str (ak (tx t))),none,none] from rfl]
 refine ar fun N hN=>?_
 simp only[aq,ad,am,v3,lk]
 refine Ck (jE hw t g) (by omega) fun p hp=>?_
 have f1:(yO S p (.lst (((wd t).map ak).map PV.str))) p=some (.lst ((([]++wd t++[]).map ak).map PV.str)):=by rw[aa];simp
 have X1:Ext S (yO S p (.lst (((wd t).map ak).map PV.str))):=.new hp
 generalize yO S p (.lst (((wd t).map ak).map PV.str))=S1 at f1 X1
 simp only[List.set_cons_zero,List.set_cons_succ]
 refine hN _ _ (ar fun N hN=>?_)
 simp only[aq,ad,am,v3,lk,c3]
 refine DA (A:=[]) hw hd g f1 fun S2 X2=>?_
 simp only[List.set_cons_zero,List.set_cons_succ]
 refine hN _ _ (ar fun N hN=>?_)
 have f2:=X2 _ _ f1
 walk_at "y"
 rw[f2]
 walk_at "y"
 simp only[List.nil_append,F2,E2,List.length_nil,Hy,GA,GF,Gw,Fd,F1]
 refine hN _ _ ?_
 walk_at "y"
 exact k S2 (X1.trans X2)
def wz{ws:Vs}(hw:dj ws){z:Str}(hz:z∈ws):Wo (sg z):=gY (qZ hw hz)
def q5(zs:Vs):(zs.map sg).map ak=zs:=(yk zs).symm
abbrev sf(w:aH):Prop:=∀{S:ap} {js ws:Vs} {ds:List (Str×Bd)} {Q:bv} {E:b6},H7 js ds ws->(∀S',Ext S S'->Q (.tup (js.map PV.str)) S')->w [.str (ak (r0 js))] S Q E
def uU{js ws:Vs}{ds:List (Str×Bd)}(h:H7 js ds ws):di 32 (r0 js)=sg "jars" :: js.map sg:=by
 refine gN 32 _ (by simp) fun p hp=>?_
 rcases E1.mp hp with rfl|hp
 ·decide +kernel
 ·obtain⟨z,hz,rfl⟩:=Fq.mp hp
  exact(wz h.w (h.j z hz)).1
def pp{x:aH}(BD:gX x):sf (a4 2 (dI x)):=by
 intro S js ws ds Q E h k
 unfold dI
 refine eR ?_
 rw[show ay 2 [PV.str (ak (r0 js))]=[some (.str (ak (r0 js))),none] from rfl]
 refine ar fun N hN=>?_
 have hl:=lb h
 have jl:=h.jl
 simp only[aq,bI,f7,v3,lk,am,c3,F6]
 rw[show((" ":String):Str)=⟨#[32]⟩from rfl]
 refine gg (by omega) fun p hp=>?_
 rw[uU h,EV,q5,ba,EV]
 have f1:(yO S p (.lst (PV.str "jars" :: js.map PV.str))) p=some (.lst (PV.str "jars" :: js.map PV.str)):=aa
 have X1:Ext S (yO S p (.lst (PV.str "jars" :: js.map PV.str))):=.new hp
 generalize yO S p (.lst (PV.str "jars" :: js.map PV.str))=S1 at f1 X1
 simp only[List.set_cons_zero,List.set_cons_succ]
 refine hN _ _ (ar fun N hN=>?_)
 walk_at "y"
 rw[f1]
 walk_at "y"
 refine hN _ _ (dP ?_)
 simp only[ah,am,a9,aX,aY,v3,lk,jg,kS,c3,gv,f1]
 intro p2 hp2
 rw[show cr (PV.str "jars" :: js.map PV.str) (some 1) none=js.map PV.str from oR (n:=1) (by simp)]
 have f2:(yO S1 p2 (.lst (js.map PV.str))) p2=some (.lst (js.map PV.str)):=aa
 have X2:Ext S (yO S1 p2 (.lst (js.map PV.str))):=X1.trans (.new hp2)
 generalize yO S1 p2 (.lst (js.map PV.str))=S2 at f2 X2
 simp only[c_,f2,fV,List.reduceReplicate,Fo,F2]
 refine d0 (S0:=S2) PV.str PV.str (fun S' X'=>X' _ _ f2) js [] S2 .refl (by simp;omega) (fun z hz S3 X3=>⟨_,rfl,fun K kk=>?_⟩) fun S3 X3 p3 hp3=>?_
 ·simp only[ad,am,v3,lk,List.set_cons_zero,List.set_cons_succ]
  exact BD (h.w z (h.j z hz)) kk
 simp only[List.nil_append,a6,je,aa]
 exact k _ (X2.trans (X3.trans (.new hp3)))
noncomputable abbrev x9(q:Str×Bd):PV:=.tup [.str q.1,q.2.pv]
abbrev sh(w:aH):Prop:=∀{S:ap} {js ws:Vs} {ds:List (Str×Bd)} {q:Str×Bd} {Q:bv} {E:b6},H7 js ds ws->q∈ds->(∀S',Ext S S'->Q (x9 q) S')->w [.str (ak (dr q))] S Q E
def uV{js ws:Vs}{ds:List (Str×Bd)}(h:H7 js ds ws){q:Str×Bd}(hq:q∈ds):di 32 (dr q)=sg "deed" :: sg q.1::sg ":" :: di 32 (tx q.2):=by
 have e1:sg "deed " = sg "deed" ++ [32]:=by decide +kernel
 have e2:sg " : " = [32]++(sg ":" ++ [32]):=by decide +kernel
 have e:dr q=sg "deed" ++ [32]++(sg q.1++[32]++(sg ":" ++ [32]++tx q.2)):=by unfold dr;rw[e1,e2];simp
 rw[e,eT 32 _ _ (by decide +kernel),eT 32 _ _ (wz h.w (h.d q hq)).1,eT 32 _ _ (by decide +kernel)]
theorem lV(c:Nat):∀l,((di c l).map List.length).sum<=l.length
 |[]=>by simp[di]
 |d::r=>by
  have ih:=lV c r
  unfold di
  split
  ·simp;omega
  ·split
   ·simp
   ·rename_i p q e
    rw[e]at ih
    simp at ih ⊢;omega
def pq{x0 x1 x2:aH}(AM:x8 x0)(BD:gX x1)(BC:lU x2):sh (a4 2 (dJ x0 x1 x2)):=by
 intro S js ws ds q Q E h hq k
 unfold dJ
 refine eR ?_
 rw[show ay 2 [PV.str (ak (dr q))]=[some (.str (ak (dr q))),none] from rfl]
 refine ar fun N hN=>?_
 have hl:=gW h hq
 have tl:=bR h.w q.2 (h.g q hq)
 have sz:=h.sz q hq
 simp only[aq,bI,f7,v3,lk,am,c3,F6]
 rw[show((" ":String):Str)=⟨#[32]⟩from rfl]
 refine gg (by omega) fun p hp=>?_
 rw[uV h hq]
 have f0:(yO S p (.lst (((sg "deed" :: sg q.1::sg ":" :: di 32 (tx q.2)).map ak).map PV.str))) p=some (.lst (((sg "deed" :: sg q.1::sg ":" :: di 32 (tx q.2)).map ak).map PV.str)):=aa
 have X1:Ext S (yO S p (.lst (((sg "deed" :: sg q.1::sg ":" :: di 32 (tx q.2)).map ak).map PV.str))):=.new hp
 generalize yO S p (.lst (((sg "deed" :: sg q.1::sg ":" :: di 32 (tx q.2)).map ak).map PV.str))=S1 at f0 X1
 simp only[List.set_cons_zero,List.set_cons_succ]
 refine hN _ _ (ar fun N hN=>?_)
 simp only[bu,jb,aT,aj,ad,am,v3,lk,c3]
 refine AM (i:=0) f0 rfl ?_
 rw[ba]
 walk_at "y"
 refine AM (i:=2) f0 rfl ?_
 rw[ba]
 walk_at "y"
 refine hN _ _ (dP ?_)
 have f1:S1 p=some (.lst (.str "deed" :: .str q.1 :: .str ":" :: ((di 32 (tx q.2)).map ak).map PV.str)):=by rw[f0];simp only[EV,ba]
 simp only[bA,am,ad,aj,aw,v3,lk,c3,f1,rZ]
 refine BD (h.w _ (h.d q hq)) fun S2 X2=>?_
 have f2:=X2 _ _ f1
 simp only[bI,f7,c3,am,aY,v3,lk,jg,kS,gv,f2,F6]
 intro p2 hp2
 rw[show cr (PV.str "deed" :: PV.str q.1::PV.str ":" :: ((di 32 (tx q.2)).map ak).map PV.str) (some 3) none=((di 32 (tx q.2)).map ak).map PV.str from oR (n:=3) (by simp)]
 simp only[b9,aa,bU,gV]
 refine⟨?_,?_⟩
 ·have a:=lV 32 (tx q.2)
  have b:=jG 32 (tx q.2)
  have e3:(((di 32 (tx q.2)).map ak).map (·.length)).sum=((di 32 (tx q.2)).map List.length).sum:=by rw[Fy];rfl
  have e4:(((" ":String):Str)).length=1:=by decide +kernel
  rw[e3,e4,E2]
  omega
 rw[show sg (((" ":String):Str))=[32] from by decide +kernel,uT]
 exact BC h.w (h.dp q hq) (h.g q hq) sz fun S3 X3=>k S3 (X1.trans (X2.trans ((Ext.new hp2).trans X3)))
def wD{js ws:Vs}{ds:List (Str×Bd)}(h:H7 js ds ws):10 ∉ r0 js:=by
 intro q
 rcases jF q with q|⟨p,hp,q⟩
 ·simp at q
 ·rcases E1.mp hp with rfl|hp
  ·exact(by decide +kernel:10 ∉ sg "jars") q
  ·obtain⟨z,hz,rfl⟩:=Fq.mp hp
   exact(wz h.w (h.j z hz)).2.2.2 q
def wE{js ws:Vs}{ds:List (Str×Bd)}(h:H7 js ds ws){p:Str×Bd}(hp:p∈ds):10 ∉ dr p:=by
 intro q
 unfold dr at q
 rcases Fe.mp q with q|q
 ·rcases Fe.mp q with q|q
  ·rcases Fe.mp q with q|q
   ·exact(by decide +kernel:10 ∉ sg "deed ") q
   ·exact(wz h.w (h.d p hp)).2.2.2 q
  ·exact(by decide +kernel:10 ∉ sg " : ") q
 ·exact Ap p.2 (jE h.w p.2 (h.g p hp)) q
def uW{js ws:Vs}{ds:List (Str×Bd)}(h:H7 js ds ws):di 10 (hx js ds)=r0 js::ds.map dr:=by
 refine gN 10 _ (by simp) fun p hp=>?_
 rcases E1.mp hp with rfl|hp
 ·exact wD h
 ·obtain⟨q,hq,rfl⟩:=Fq.mp hp
  exact wE h hq
def pr{js ws:Vs}{ds:List (Str×Bd)}(h:H7 js ds ws):(hx js ds).length<=20000:=by
 have g:=b5 [10] (r0 js::ds.map dr)
 have a:=lb h
 have dl:=h.dl
 have:∀l:List (Str×Bd),(∀q∈l,q∈ds)->((l.map dr).map List.length).sum<=3700 * l.length:=fun l=>by
  induction l with
  |nil=>intro _;simp
  |cons z r ih=>
   intro hl
   have:=gW h (hl z (by simp))
   have:=ih fun y hy=>hl y (by simp[hy])
   simp only[EV,List.sum_cons,List.length_cons]
   omega
 have b:=this ds fun q hq=>hq
 unfold hx
 simp only[EV,List.sum_cons,List.length_cons,E2,List.length_nil]at g
 omega
theorem q8{S:ap}{ws:Vs}(hw:dj ws):∀t:Bd,t.g7 ws->Sh S t.pv t.dt (t.size * 4200) (t.dep+1)
 | .rest,_=>(Sh.tup ((Sh.s "rest" 0 (by decide +kernel) (by decide +kernel)).cons .nil)).le (by decide) (by decide)
 | .pay x y,h=>(Sh.tup ((Sh.s "pay" 1 (by decide +kernel) (by decide +kernel)).cons ((Sh.tup ((Sh.i (show x.natAbs < 2 ^ 64 by have:=h.2.1;have:=h.2.2.1;omega)).cons ((Sh.i (show y.natAbs < 2 ^ 64 by have:=h.1.pos;have:=h.2.2.2;omega)).cons .nil))).cons (.A8 1)))).le (by simp only[Bd.size];omega) (by simp only[Bd.dep];omega)
 | .put z m,h=>(Sh.tup ((Sh.s "put" 0 (by decide +kernel) (by decide +kernel)).cons ((Sh.w (hw z h.1).1).cons ((Sh.i (wq h.2)).cons .nil)))).le (by simp only[Bd.size];omega) (by simp only[Bd.dep];omega)
 | .use z,h=>(Sh.tup ((Sh.s "use" 0 (by decide +kernel) (by decide +kernel)).cons ((Sh.w (hw z h).1).cons .nil))).le (by simp only[Bd.size];omega) (by simp only[Bd.dep];omega)
 | .Av a,h=>(Sh.tup ((Sh.s "often" _ (by decide +kernel) (by decide +kernel)).cons ((q8 hw a h).cons (.A8 _)))).le (by simp only[Bd.size];omega) (by simp only[Bd.dep];omega)
 | .yS a b,h=>(Sh.tup ((Sh.s "then" (max a.dep b.dep+1) (by decide +kernel) (by decide +kernel)).cons (((q8 hw a h.1).le (EZ _) (FW (Nat.le_max_left a.dep b.dep))).cons (((q8 hw b h.2).le (EZ _) (FW (Hw a.dep b.dep))).cons (.A8 _))))).le (by simp only[Bd.size];omega) (by simp only[Bd.dep];omega)
 | .Aw a b,h=>(Sh.tup ((Sh.s "either" (max a.dep b.dep+1) (by decide +kernel) (by decide +kernel)).cons (((q8 hw a h.1).le (EZ _) (FW (Nat.le_max_left a.dep b.dep))).cons (((q8 hw b h.2).le (EZ _) (FW (Hw a.dep b.dep))).cons (.A8 _))))).le (by simp only[Bd.size];omega) (by simp only[Bd.dep];omega)
 | .Am z m a b,h=>(Sh.tup ((Sh.s "take" (max a.dep b.dep+1) (by decide +kernel) (by decide +kernel)).cons (((Sh.w (hw z h.1).1).le (EZ _) (FE _)).cons (((Sh.i (wq ⟨h.2.1,h.2.2.1⟩)).le (EZ _) (FE _)).cons (((q8 hw a h.2.2.2.1).le (EZ _) (FW (Nat.le_max_left a.dep b.dep))).cons (((q8 hw b h.2.2.2.2).le (EZ _) (FW (Hw a.dep b.dep))).cons (.A8 _))))))).le (by simp only[Bd.size];omega) (by simp only[Bd.dep];omega)
theorem lW{S:ap}:∀(vs:List PV),(∀v∈vs,∃d,Dat S v d/\d.canLay0=true)->∃ds,zT S vs ds/\PyData.canLayAll0 ds=true/\ds.length=vs.length
 |[],_=>⟨[],.nil,rfl,rfl⟩
 |v::r,h=>by
  obtain⟨d,h1,h2⟩:=h v (by simp)
  obtain⟨ds,g1,g2,g3⟩:=lW r fun x hx=>h x (by simp[hx])
  exact⟨d::ds,.cons h1 g1,by simp[PyData.canLayAll0,h2,g2],by simp[g3]⟩
def uX{neg:Bool}{S:ap}{a b:Addr}{vs:List PV}{Q:bv}(ha:S a=some (.lst vs))(hb:S b=some (.lst []))(h:∀v∈vs,∃d,Dat S v d/\d.canLay0=true)(q:Q (.bl (neg != vs.isEmpty)) S):bL neg (.ref a) (.ref b) S Q:=by
 obtain⟨ds,g1,g2,g3⟩:=lW vs h
 refine⟨.list ds,.list [],.ref ha g1,.ref hb .nil,g2,rfl,Fl (Nat.min_le_right _ _) (by decide),?_⟩
 have e:(PyData.list ds).eqv (.list [])=vs.isEmpty:=by
  cases ds with
  |nil=>cases vs with
   |nil=>rfl
   |cons _ _=>simp at g3
  |cons d r=>cases vs with
   |nil=>simp at g3
   |cons _ _=>rfl
 rw[e]
 exact q
def x_{S:ap}{js ws:Vs}{ds:List (Str×Bd)}(h:H7 js ds ws){p:Str×Bd}(hp:p∈ds):Sh S (ib p) (wU p) 253000 62:=(Sh.tup (((Sh.w (h.w _ (h.d p hp)).1).le (EZ _) (FE _)).cons (((q8 h.w p.2 (h.g p hp)).le (EZ _) (show _<=61 by have:=h.dp p hp;omega)).cons (.A8 _)))).le (by have:=h.sz p hp;omega) (by decide)
def q9{S:ap}{js ws:Vs}{ds:List (Str×Bd)}(h:H7 js ds ws){q:Str×Bd}(hq:q∈ds):∃d,Dat S (ib q) d/\d.canLay0=true:=⟨_,(x_ h hq).dat,(x_ (S:=S) h hq).lay⟩
def pz{S:ap}{js ws:Vs}{ds:List (Str×Bd)}(h:H7 js ds ws):Sh S (m_ js ds) (yj js ds) 5000000 64:=by
 have a:Sh S (.tup (js.map PV.str)) (.tuple (js.map PyData.str)) 2000 63:=(Sh.tup (A3.map PV.str PyData.str (n:=62) (k:=0) fun z hz=>Sh.w (h.w z (h.j z hz)).1)).le (by have:=h.jl;omega) (by decide)
 have b:Sh S (.tup (ds.map ib)) (.tuple (ds.map wU)) 4900000 63:=(Sh.tup (A3.map ib wU (n:=253000) (k:=62) fun p hp=>x_ h hp)).le (by have:=h.dl;omega) (by decide)
 exact(Sh.tup (a.cons (b.cons (.A8 _)))).le (by decide) (by decide)
abbrev pA(w:aH):Prop:=∀{S:ap} {js ws:Vs} {ds:List (Str×Bd)} {Q:bv} {E:b6},H7 js ds ws->(∀S',Ext S S'->Q (m_ js ds) S')->w [.str (ak (hx js ds))] S Q E
def pB{x0 x1:aH}(DC:sf x0)(DD:sh x1):pA (a4 5 (cV x0 x1)):=by
 intro S js ws ds Q E h k
 unfold cV
 refine eR ?_
 rw[show ay 5 [PV.str (ak (hx js ds))]=[some (.str (ak (hx js ds))),none,none,none,none] from rfl]
 refine ar fun N hN=>?_
 have hl:=pr h
 have dl:=h.dl
 simp only[aq,bI,f7,v3,lk,am,c3,F6]
 rw[show(("\n":String):Str)=⟨#[10]⟩from rfl]
 refine gg (by omega) fun p hp=>?_
 rw[uW h]
 have f1:(yO S p (.lst (((r0 js::ds.map dr).map ak).map PV.str))) p=some (.lst (((r0 js::ds.map dr).map ak).map PV.str)):=aa
 have X1:Ext S (yO S p (.lst (((r0 js::ds.map dr).map ak).map PV.str))):=.new hp
 generalize yO S p (.lst (((r0 js::ds.map dr).map ak).map PV.str))=S1 at f1 X1
 simp only[List.set_cons_zero,List.set_cons_succ]
 refine hN _ _ (ar fun N hN=>?_)
 have EL:S1 p=some (.lst (.str (ak (r0 js))::((ds.map dr).map ak).map PV.str)):=f1
 simp only[aq,ad,am,aj,aw,v3,lk,c3,EL,mL]
 refine DC h fun S2 X2=>?_
 simp only[List.set_cons_zero,List.set_cons_succ]
 have f2:=X2 _ _ f1
 have Ed:=X1.trans X2
 refine hN _ _ (ar fun N hN=>?_)
 simp only[aq,bM,am,List.set_cons_zero,List.set_cons_succ]
 intro q hq
 have DE:S q=none:=by
  cases e:S q with
  |none=>rfl
  |some o=>rw[Ed _ _ e]at hq;cases hq
 have hpq:p≠q:=fun e=>by rw[e,hq]at f2;cases f2
 have g1:(yO S2 q (.lst [])) q=some (.lst ((ds.take 0).map ib)):=aa
 have f3:(yO S2 q (.lst [])) p=some (.lst (((r0 js::ds.map dr).map ak).map PV.str)):=by rw[ao hpq];exact f2
 have X3:Ext S (yO S2 q (.lst [])):=Ed.trans (.new hq)
 generalize yO S2 q (.lst [])=S3 at g1 f3 X3
 refine hN _ _ (ar fun N hN=>?_)
 simp only[du,mz,c3,ah,am,v3,lk,bt,f3,E2,List.length_cons]
 refine⟨⟨by decide,by decide,by omega,by omega⟩,?_⟩
 rw[show(((ds.length+1:Nat):Int) - 1).toNat=ds.length from by omega]
 refine cQ (fun done σ S'=>Ext S S'/\S' p=some (.lst (((r0 js::ds.map dr).map ak).map PV.str))/\∃x4,σ=[some (.str (ak (hx js ds))),some (.ref p),some (.tup (js.map PV.str)),some (.ref q),x4]/\S' q=some (.lst ((ds.take done.length).map ib))) ⟨X3,f3,_,rfl,g1⟩ (fun _ _ _ _=>trivial) ?_ ?_
 ·rintro done x rest σ S4 K e ⟨X4,f4,x4,rfl,g4⟩ hK
  have hget:(aR 1 ds.length)[done.length]?=some x:=by rw[e];simp
  have hlt:done.length < ds.length:=by
   have:=FA List.length e
   simp[aR]at this
   omega
  have hx:x = .int (1+(done.length:Int)):=by
   unfold aR at hget
   rw[Fv,Hl hlt]at hget
   exact(FI hget).symm
  subst hx
  obtain⟨d,hd⟩:∃d,ds[done.length]?=some d:=⟨_,F4 hlt⟩
  have hm:=F5 hd
  have hat:zN (((r0 js::ds.map dr).map ak).map PV.str) (1+(done.length:Int))=some (.str (ak (dr d))):=by
   rw[show(1+(done.length:Int))=((done.length+1:Nat):Int)from by omega]
   exact dR (j:=done.length+1) (by simp[hd])
  simp only[Tg.put,List.set_cons_zero,List.set_cons_succ,uq,a3,bI,f7,v3,lk,g4,am,ad,aj,aw,f4,hat,F6]
  refine DD h hm fun S5 X5=>?_
  have g5:=X5 _ _ g4
  have f5:=X5 _ _ f4
  simp only[aD,g5]
  refine⟨E6 (show _ < 1000 by simp;omega) (by decide),hK _ _ ⟨?_,?_,_,rfl,?_⟩⟩
  ·intro a o ha
   rw[ao (fun e=>by rw[e,DE]at ha;cases ha)]
   exact X5 _ _ (X4 _ _ ha)
  ·rw[ao hpq];exact f5
  ·rw[aa,EX,FP,G0,hd]
   simp[ib]
 ·rintro σ S4 ⟨X4,f4,x4,rfl,g4⟩
  rw[show(aR 1 ds.length).length=ds.length from by simp[aR],G5]at g4
  refine hN _ _ (ar fun N hN=>?_)
  simp only[bu,aT,aj,v3,lk,bM,am]
  intro r hr
  have X5:Ext S4 (yO S4 r (.lst [])):=.new hr
  have g5:=X5 _ _ g4
  refine uX g5 aa (fun v hv=>?_) ?_
  ·obtain⟨d,hd,rfl⟩:=Fq.mp hv
   exact q9 h hd
  have ne:(ds.map ib).isEmpty=false:=by
   have:=h.d1
   cases ds with
   |nil=>simp at this
   |cons _ _=>rfl
  rw[ne]
  generalize yO S4 r (.lst [])=S6 at X5 g5
  simp only[Fx,Bool.bne_false,Fd,F1]
  refine hN _ _ (dP ?_)
  simp only[bA,am,v3,lk,ah,a6,je,g5]
  exact k S6 (X4.trans X5)
abbrev pC(w:aH):Prop:=∀{S:ap} {d l:Addr} {Q:bv} {E:b6},zd S d l->(∀js ds ws S',H7 js ds ws->zd S' d l->zO d l S S'->Q (m_ js ds) S')->w [.ref d] S Q E
def Dd(ws:Vs)(q:Str×Bd):Prop:=q.1∈ws/\q.2.g7 ws/\q.2.dep<=6/\q.2.size<=60
def ky{x0 x1 x2:aH}(yP:bZ x0)(AL:kx x1)(BS:dZ 12 x2):pC (a4 7 (bF x0 x1 x2)):=by
 intro S d l Q E D k
 unfold bF
 refine eR ?_
 rw[show ay 7 [PV.ref d]=[some (.ref d),none,none,none,none,none,none] from rfl]
 refine ar fun N hN=>?_
 walk_at "x"
 refine yP D (by decide) (by decide) fun n S1 n0 n1 D1 O1=>⟨by omega,by omega,?_⟩
 refine gI (fun done ys S'=>∃ws:List Str,ys=ws.map PV.str/\ws.length=done.length/\done.length<=(2+n).toNat/\dj ws/\zd S' d l/\zO d l S S') ⟨[],rfl,rfl,FE _,(by intro z hz;cases hz),D1,O1⟩ ?_ ?_ ?_
 ·rintro done ys S' ⟨ws,rfl,e,hd,_⟩
  exact⟨trivial,cR (by rw[E2,e];omega)⟩
 ·rintro done x rest ys S' K e ⟨ws,rfl,e2,hd,hw,D',O'⟩ hK
  have hlen:done.length+1<=(2+n).toNat:=by
   have:=FA List.length e
   rw[bJ,EX,Fc]at this
   omega
  walk_at "x"
  simp only[cF,Gg]
  refine AL D' fun z S2 hz D2 O2=>?_
  refine hK _ _ ⟨ws++[z],by simp,by simp[e2],by simpa using hlen,fun y hy=>?_,D2,O'.trans O2⟩
  rcases Fe.mp hy with hy|hy
  ·exact hw y hy
  ·rw[E8.mp hy];exact hz
 rintro ys S2 ⟨ws,rfl,e,-,hw,D2,O2⟩ pw DF
 rw[bJ]at e
 have l1:1<=ws.length:=by omega
 have l2:ws.length<=100:=by omega
 have fp:=D2.free DF
 have O3:=O2.trans (zO.new (o:=.lst (ws.map PV.str)) DF)
 have D3:=D2.new (o:=.lst (ws.map PV.str)) DF
 have w3:(yO S2 pw (.lst (ws.map PV.str))) pw=some (.lst (ws.map PV.str)):=aa
 generalize yO S2 pw (.lst (ws.map PV.str))=S3 at O3 D3 w3
 refine hN _ _ (ar fun N hN=>?_)
 walk_at "x"
 refine yP D3 (by decide) (by decide) fun m S4 m0 m1 D4 O4=>⟨by omega,by omega,?_⟩
 have EM:=O3.trans O4
 have w4:=O4 _ _ w3 fp.1 fp.2
 refine gI (fun done ys S'=>∃js:List Str,ys=js.map PV.str/\js.length=done.length/\done.length<=m.toNat/\(∀z∈js,z∈ws)/\S' pw=some (.lst (ws.map PV.str))/\zd S' d l/\zO d l S S') ⟨[],rfl,rfl,FE _,(by intro z hz;cases hz),w4,D4,EM⟩ ?_ ?_ ?_
 ·rintro done ys S' ⟨js,rfl,e,hd,_⟩
  exact⟨trivial,cR (by rw[E2,e];omega)⟩
 ·rintro done x rest ys S' K e ⟨js,rfl,e2,hd,hj,w',D',O'⟩ hK
  have hlen:done.length+1<=m.toNat:=by
   have:=FA List.length e
   rw[bJ,EX,Fc]at this
   omega
  walk_at "x"
  simp only[cF,Gg,w',E2]
  refine yP D' (by omega) (by omega) fun r S5 r0 r1 D5 O5=>?_
  have w5:=O5 _ _ w' fp.1 fp.2
  obtain⟨z,hz,ez⟩:=gc r0 r1
  simp only[w5,ez]
  refine hK _ _ ⟨js++[z],by simp,by simp[e2],by simpa using hlen,fun y hy=>?_,w5,D5,O'.trans O5⟩
  rcases Fe.mp hy with hy|hy
  ·exact hj y hy
  ·rw[E8.mp hy];exact hz
 rintro ys S5 ⟨js,rfl,ej,-,hj,w5,D5,O5⟩ pj DG
 rw[bJ]at ej
 simp only[a6,je,aa]
 have w6:(yO S5 pj (.lst (js.map PV.str))) pw=some (.lst (ws.map PV.str)):=by rw[ao (fun e=>by rw[e,DG]at w5;cases w5)];exact w5
 have O6:=O5.trans (zO.new (o:=.lst (js.map PV.str)) DG)
 have D6:=D5.new (o:=.lst (js.map PV.str)) DG
 generalize yO S5 pj (.lst (js.map PV.str))=S6 at O6 D6 w6
 refine hN _ _ (ar fun N hN=>?_)
 walk_at "x"
 refine yP D6 (by decide) (by decide) fun a S7 a0 a1 D7 O7=>?_
 have w7:=O7 _ _ w6 fp.1 fp.2
 have Ee:=O6.trans O7
 refine hN _ _ (ar fun N hN=>?_)
 walk_at "x"
 intro q hq
 have fq:=D7.free hq
 have DE:S q=none:=by
  cases e:S q with
  |none=>rfl
  |some o=>rw[Ee _ _ e fq.1 fq.2]at hq;cases hq
 have hpq:pw≠q:=fun e=>by rw[e,hq]at w7;cases w7
 have w8:(yO S7 q (.lst [])) pw=some (.lst (ws.map PV.str)):=by rw[ao hpq];exact w7
 have g8:(yO S7 q (.lst [])) q=some (.lst (([]:List (Str×Bd)).map ib)):=aa
 have O8:=Ee.trans (zO.new (o:=.lst []) hq)
 have D8:=D7.new (o:=.lst []) hq
 generalize yO S7 q (.lst [])=S8 at O8 D8 w8 g8
 refine hN _ _ (ar fun N hN=>?_)
 walk_at "x"
 refine⟨by omega,by omega,?_⟩
 refine cQ (fun done σ S'=>zd S' d l/\zO d l S S'/\S' pw=some (.lst (ws.map PV.str))/\∃x1 x6 ds,σ=[some (.ref d),x1,some (.ref pw),some (.tup (js.map PV.str)),some (.int (1+a)),some (.ref q),x6]/\S' q=some (.lst (ds.map ib))/\ds.length=done.length/\∀y∈ds,Dd ws y) ⟨D8,O8,w8,_,_,[],rfl,g8,rfl,by intro y hy;cases hy⟩ (fun _ _ _ _=>trivial) ?_ ?_
 ·rintro done x rest σ S9 K e ⟨D9,O9,w9,x1,x6,ds,rfl,g9,hl,hds⟩ hK
  have hlen:done.length+1<=4:=by
   have:=FA List.length e
   rw[bJ,EX,Fc]at this
   omega
  simp only[Tg.put,List.set_cons_zero,List.set_cons_succ]
  refine ar fun N2 BP=>?_
  walk_at "x"
  intro p1 hp1
  have fp1:=D9.free hp1
  have e1:(yO S9 p1 (.lst [.int 20,.int 20,.int 12,.int 9])) p1=some (.lst [.int 20,.int 20,.int 12,.int 9]):=aa
  have Ef:=D9.new (o:=.lst [.int 20,.int 20,.int 12,.int 9]) hp1
  have CU:=zO.new (d:=d) (l:=l) (o:=.lst [.int 20,.int 20,.int 12,.int 9]) hp1
  have w10:=CU _ _ w9 fp.1 fp.2
  have Eg:=CU _ _ g9 fq.1 fq.2
  generalize yO S9 p1 (.lst [.int 20,.int 20,.int 12,.int 9])=S10 at e1 Ef CU w10 Eg
  simp only[e1]
  obtain⟨b,hb,b1,b2⟩:∃b:Int,zN [PV.int 20,PV.int 20,PV.int 12,PV.int 9] (1+a - 1)=some (.int b)/\1<=b/\b<=20:=by
   obtain rfl|rfl|rfl|rfl:a=0\/a=1\/a=2\/a=3:=by omega
   ·exact⟨20,rfl,by decide,by decide⟩
   ·exact⟨20,rfl,by decide,by decide⟩
   ·exact⟨12,rfl,by decide,by decide⟩
   ·exact⟨9,rfl,by decide,by decide⟩
  rw[hb]
  dsimp only
  refine yP Ef (by omega) (by omega) fun c S11 c0 c1 EN DH=>?_
  have w11:=DH _ _ w10 fp.1 fp.2
  have Eh:=DH _ _ Eg fq.1 fq.2
  refine BP _ _ ?_
  walk_at "x"
  simp only[w11,Eh,E2,F6]
  refine yP EN (by omega) (by omega) fun r S12 r0 r1 EO Cj=>?_
  have w12:=Cj _ _ w11 fp.1 fp.2
  have EQ:=Cj _ _ Eh fq.1 fq.2
  obtain⟨z,hz,ez⟩:=gc r0 r1
  simp only[w12,ez]
  refine BS EO w12 fp.1 fp.2 l1 l2 (by omega) (by omega) (by decide) (by decide) fun t S13 gt dt st ER DI=>?_
  have w13:=DI _ _ w12 fp.1 fp.2
  have ES:=DI _ _ EQ fq.1 fq.2
  simp only[ES]
  refine⟨E6 (show _ < 1000 by simp;omega) (by decide),hK _ _ ⟨ER.upd fq.1 fq.2,?_,?_,_,_,ds++[(z,t)],rfl,?_,?_,?_⟩⟩
  ·intro y o hy h1 h2
   rw[ao (fun e=>by rw[e,DE]at hy;cases hy)]
   exact(O9.trans (CU.trans (DH.trans (Cj.trans DI)))) y o hy h1 h2
  ·rw[ao hpq];exact w13
  ·rw[aa];simp[ib]
  ·simp[hl]
  ·intro y hy
   rcases Fe.mp hy with hy|hy
   ·exact hds y hy
   ·rw[E8.mp hy];exact⟨hz,gt,by show t.dep<=6;omega,by show t.size<=60;omega⟩
 ·rintro σ S9 ⟨D9,O9,w9,x1,x6,ds,rfl,g9,hl,hds⟩
  rw[bJ]at hl
  refine hN _ _ ?_
  walk_at "x"
  simp only[g9]
  exact k js ds ws S9 ⟨hw,hj,by omega,fun p hp=>(hds p hp).1,by omega,by omega,fun p hp=>(hds p hp).2.1,fun p hp=>(hds p hp).2.2.1,fun p hp=>(hds p hp).2.2.2⟩ D9 O9
def lX{l:List Nat}(h:∀c∈l,c < 1000)(hl:l.length<=20000):(reprText (ak l)).length<=sizeLine:=by
 have hs:PyData.strOk (ak l)=true:=by
  show(l.toArray.all fun x=>decide (x < 0x110000))=true
  rw[<-Array.all_toList,Ge]
  intro c hc
  have:=h c hc
  simp;omega
 have:=(Sh.str (S:=fun _=>none) hs).len
 exact Fl this (Fl (show _<=2 ^ 24 by rw[yQ];omega) oQ)
def jH(m:Int):∀c∈num m,c < 1000:=by
 intro c hc
 rcases Int.eq_nat_or_neg m with⟨n,rfl|rfl⟩
 ·rw[bG]at hc;have:=fh n c hc;omega
 ·by_cases h0:0 < n
  ·rw[jq n h0]at hc
   rcases E1.mp hc with rfl|hc
   ·decide
   ·have:=fh n c hc;omega
  ·have:n=0:=by omega
   subst this
   have hc:c∈num ((0:Nat):Int):=hc
   rw[bG]at hc;have:=fh 0 c hc;omega
def uY(x y:Int):∀c∈txt (x,y),c < 1000:=by
 intro c hc
 unfold txt at hc
 split at hc
 ·exact jH _ c hc
 ·rcases Fe.mp hc with hc|hc
  ·exact jH _ c hc
  ·rcases E1.mp hc with rfl|hc
   ·decide
   ·exact jH _ c hc
def uZ{ws:Vs}(hw:dj ws){z:Str}(hz:z∈ws):∀c∈sg z,c < 1000:=fun c hc=>by have:=(hw z hz).1.sm c hc;omega
def pD{s:List Nat}{P:List (List Nat)}(hs:∀c∈s,c < 1000)(h:∀p∈P,∀c∈p,c < 1000):∀c∈gl s P,c < 1000:=fun c hc=>by
 rcases jF hc with q|⟨p,hp,q⟩
 ·exact hs c q
 ·exact h p hp c q
def g_{a b:List Nat}(ha:∀c∈a,c < 1000)(hb:∀c∈b,c < 1000):∀c∈a++b,c < 1000:=fun c hc=>by
 rcases Fe.mp hc with q|q
 ·exact ha c q
 ·exact hb c q
def si(t:Bd):∀c∈sg t.hd,c < 1000:=by cases t<;>simp only[Bd.hd]<;>decide +kernel
def u4{n sz:Nat}{ws:Vs}(hw:dj ws)(ht:∀a:Bd,a.dep<=n->a.g7 ws->∀c∈tx a,c < 1000){p:PV×List Nat}(h:IT n ws sz p):∀c∈p.2,c < 1000:=by
 cases h with
 |str z hz=>exact uZ hw hz
 |int m _ _=>exact jH m
 |cost x y _=>exact uY x y
 |body a hd g _=>exact ht a hd g
theorem pE{ws:Vs}(hw:dj ws):∀(n:Nat) (t:Bd),t.dep<=n->t.g7 ws->∀c∈tx t,c < 1000
 |0,t,hd,_=>by cases t<;>simp only[Bd.dep]at hd<;>omega
 |n+1,t,hd,g=>by
  by_cases h:t.hd = "rest"
  ·obtain rfl:=lS h
   exact si .rest
  rw[k_ h]
  refine g_ (g_ (by simp) (pD (by simp) fun p hp=>?_)) (by simp)
  rcases E1.mp hp with rfl|hp
  ·exact si t
  ·obtain⟨q,hq,rfl⟩:=Fq.mp hp
   exact u4 hw (pE hw n) (la hd (EZ _) g q hq)
def wF{js ws:Vs}{ds:List (Str×Bd)}(h:H7 js ds ws):∀c∈hx js ds,c < 1000:=by
 refine pD (by simp) fun p hp=>?_
 rcases E1.mp hp with rfl|hp
 ·refine pD (by simp) fun p hp=>?_
  rcases E1.mp hp with rfl|hp
  ·decide +kernel
  ·obtain⟨z,hz,rfl⟩:=Fq.mp hp
   exact uZ h.w (h.j z hz)
 ·obtain⟨q,hq,rfl⟩:=Fq.mp hp
  exact g_ (g_ (g_ (by decide +kernel) (uZ h.w (h.d q hq))) (by decide +kernel)) (pE h.w 6 q.2 (h.dp q hq) (h.g q hq))
abbrev lh(w:aH):Prop:=∀{S:ap} {js ws:Vs} {ds:List (Str×Bd)} {Q:bv} {E:b6},H7 js ds ws->(∀S',Ext S S'->Q (.bl true) S')->w [m_ js ds] S Q E
def iT{S:ap}{ws:Vs}{t:Bd}{Q:bv}(hw:dj ws)(g:t.g7 ws)(hd:t.dep<=6)(hs:t.size<=60)(q:Q (.str t.dt.shown) S):cH [t.pv] S Q:=by
 have s:=q8 (S:=S) hw t g
 rw[Bd.An]at s ⊢
 exact kj s (by omega) (by omega) q
def jI{S:ap}{z:Str}{Q:bv}(h:(reprText z).length<=sizeLine)(q:Q (.str (reprText z)) S):cH [.str z] S Q:=⟨h,q⟩
def m5{x0 x1 x2 x3 x4 x5:aH}(CF:jC x0)(CG:jC x1)(CH:pA x2)(CI:yV 6 x3)(CJ:yV 6 x4)(CK:lU x5):lh (a4 5 (cY x0 x1 x2 x3 x4 x5)):=by
 intro S js ws ds Q E h k
 unfold cY
 refine eR ?_
 rw[show ay 5 [m_ js ds]=[some (m_ js ds),none,none,none,none] from rfl]
 refine ar fun N hN=>?_
 have rl:=lX (wF h) (pr h)
 simp only[aq,ad,am,v3,lk]
 refine CF h fun S1 X1=>?_
 simp only[List.set_cons_zero,List.set_cons_succ]
 refine hN _ _ (ar fun N hN=>?_)
 simp only[bu,jb,aT,aj,ah,am,ad,v3,lk]
 refine CG h fun S2 X2=>?_
 refine jI rl (jI rl ?_)
 simp only[bL,GA,Hv,GF,Gw,Fd,F1]
 refine CH h fun S3 X3=>?_
 have rh:∀{S:ap} {Q:bv},Q (.str (yj js ds).shown) S->cH [m_ js ds] S Q:=fun q=>kj (pz h) (by decide) (by decide) q
 refine rh (rh ?_)
 simp only[bL,GA,Hv,GF,Gw,Fd,F1]
 refine hN _ _ (ar fun N hN=>?_)
 have EU:=X1.trans (X2.trans X3)
 simp only[du,aX,aj,v3,lk,c3,aw,m_,rZ,c_]
 refine cQ (fun done σ S'=>Ext S S'/\∃x2 x3 x4,σ=[some (m_ js ds),some (.str (ak (hx js ds))),x2,x3,x4]) ⟨EU,_,_,_,rfl⟩ (fun _ _ _ _=>trivial) ?_ ?_
 ·rintro done x rest σ S4 K e ⟨X4,x2,x3,x4,rfl⟩ hK
  obtain⟨q,hq,rfl⟩:∃q∈ds,ib q=x:=Fq.mp (by rw[e];simp)
  have tl:=bR h.w q.2 (h.g q hq)
  have sz:=h.sz q hq
  have rb:=lX (pE h.w 6 q.2 (h.dp q hq) (h.g q hq)) (by omega)
  simp only[Tg.put,Tg.zH,ib,List.set_cons_zero,List.set_cons_succ]
  refine ar fun N2 BP=>?_
  simp only[aq,ad,am,v3,lk]
  refine CI h.w (h.dp q hq) (h.g q hq) sz fun S5 X5=>?_
  simp only[List.set_cons_zero,List.set_cons_succ]
  refine BP _ _ ?_
  simp only[bu,jb,aT,aj,ah,am,ad,v3,lk]
  refine CJ h.w (h.dp q hq) (h.g q hq) sz fun S6 X6=>?_
  refine jI rb (jI rb ?_)
  simp only[bL,GA,Hv,GF,Gw,Fd,F1]
  refine CK h.w (h.dp q hq) (h.g q hq) sz fun S7 X7=>?_
  refine iT h.w (h.g q hq) (h.dp q hq) sz (iT h.w (h.g q hq) (h.dp q hq) sz ?_)
  simp only[bL,GA,Hv,GF,Gw,Fd,F1]
  exact hK _ _ ⟨X4.trans (X5.trans (X6.trans X7)),_,_,_,rfl⟩
 ·rintro σ S4 ⟨X4,x2,x3,x4,rfl⟩
  refine hN _ _ (dP ?_)
  exact k S4 X4
abbrev q_(w:aH):Prop:=∀{ns:Vu} {S:ap} {Q:bv} {E:b6},ns.length<=63->(∀S',Q (.bl true) S')->w [.cl (ns.map PV.int)] S Q E
def u5{x0 x1 x2:aH}(AF:ki x0)(A2:pC x1)(AA:lh x2):q_ (a4 4 (oW x0 x1 x2)):=by
 intro ns S Q E hn k
 unfold oW
 refine eR ?_
 rw[show ay 4 [PV.cl (ns.map PV.int)]=[some (.cl (ns.map PV.int)),none,none,none] from rfl]
 refine ar fun N hN=>?_
 simp only[aq,ad,am,v3,lk,c3]
 refine AF hn (by decide) (by decide) fun d l S1 _ _ D1 _=>?_
 simp only[List.set_cons_zero,List.set_cons_succ]
 refine hN _ _ (ar fun N hN=>?_)
 simp only[aq,ad,am,v3,lk]
 refine A2 D1 fun js ds ws S2 h2 D2 O2=>?_
 simp only[List.set_cons_zero,List.set_cons_succ]
 refine hN _ _ (ar fun N hN=>?_)
 simp only[aq,ad,am,v3,lk]
 refine A2 D2 fun js' ds' ws' S3 h3 D3 O3=>?_
 simp only[List.set_cons_zero,List.set_cons_succ]
 refine hN _ _ (dP ?_)
 simp only[eK,ad,am,v3,lk]
 refine AA h2 fun S4 X4=>?_
 simp only[Gg]
 refine AA h3 fun S5 X5=>?_
 simp only[Gg]
 exact AA h2 fun S6 X6=>k S6
def jJ:bZ w__law_draw:=yP
theorem lY:∀n,dZ n (bg n)
 |0=>fun _ _ _ _ _ _ _ _ h0 h1 _=>by omega
 |n+1=>o3 jJ (o2 jJ A7) n (lY n)
def li{t:Bd}(h:t.dep<=0):False:=by have:=t.BN;omega
theorem jK:∀n,yV n (a8 n)
 |0=>fun _ h _ _ _=>(li h).elim
 |n+1=>mV o4 n (jK n)
def pF:k9 bO:=mU Ax
theorem jL:∀n,yV n (ci n)
 |0=>fun _ h _ _ _=>(li h).elim
 |n+1=>o9 pF oS n (jL n)
def hE:gX bK:=mY qV
def ra:pc dF:=pd (o0 oY mR) mZ hE
theorem lZ:∀n,lT n (cf n)
 |0=>fun _ h _ _ _=>(li h).elim
 |n+1=>pg pe ra n (lZ n)
def yV.six{w:aH}(h:yV 12 w):yV 6 w:=fun hw hd=>h hw (by omega)
def l0:lU cg:=pk m4 fun hw hd=>lZ 12 hw (by omega)
def rc:pA cW:=pB (pp hE) (pq pe hE l0)
def re:lh cZ:=m5 (ld (yV.six (jK 12))) (mX (yV.six (jL 12))) rc (yV.six (jK 12)) (yV.six (jL 12)) l0
def pG:∀ns:List Int,ns.length<=63->ku [.cl (ns.map PV.int)] (fun _=>none) (fun v _=>v = .bl true) ff:=fun ns h=>u5 AF (ky jJ (AL jJ AK) (lY 12)) re h fun _=>rfl
end G07
namespace L3
open PySem L2 Xc
def hG{P:List Value->Prop}(h:∀a,P [a])(us:Vv)(hl:us.length=1):P us:=match us,hl with|[_],_=>h _
def sj{P:List Value->Prop}(h:∀a b,P [a,b])(us:Vv)(hl:us.length=2):P us:=match us,hl with|[_,_],_=>h _ _
def yI{P:List Value->Prop}(h:∀a b c d,P [a,b,c,d])(us:Vv)(hl:us.length=4):P us:=match us,hl with|[_,_,_,_],_=>h _ _ _ _
section
variable {K:Vo} {h:Heap} {mg:Vr} {x c m q:Str} {st:Stmt} {ps fl:Vs}
noncomputable def rg:Option (Option Value)->Bool
 |some none=>true
 |_=>false
def rj{o:Option (Option Value)}(h:rg o=true):o=some none:=by
 unfold rg at h;split at h
 ·rfl
 ·cases h
def FnAt(K:Vo)(f:Addr)(m q:Str)(st:Stmt):Prop:=∃(oc kV doc pm cdv ct:Value) (od an:Option Addr) (osl:Array (Option Value)),
 K.lookup f=some ⟨oc,od,.func (PySem.W.fnOf m q (b7 st) (bb st) (aI st) .none kV doc pm an cdv ct),osl⟩/\PySem.W.codeIn K cdv q=true/\PySem.W.keepIn K (.ref f)=true
abbrev pH(m q:Str)(st:Stmt)(ps:Vs):Prop:=∀(kV doc pm:Value) (an:Option Addr) (cdv ct:Value) (us:Vv),us.length=ps.length->bindArgs (PySem.W.fnOf m q (b7 st) (bb st) (aI st) .none kV doc pm an cdv ct) ⟨us,[]⟩=pure (ps.zip us)
def FnAt.mk{f:Addr}(a:FnAt K f m q st)(hb:pH m q st ps):∃fd,BW K m q st f fd/\Binds K fd ps []/\PySem.W.keepIn K (.ref f)=true:=by
 obtain⟨oc,kV,doc,pm,cdv,ct,od,an,osl,l,cc,k⟩:=a
 exact⟨_,i7 l cc k,(i7 l cc k).binds hb,k⟩
def zQ(K:Vo)(x:Str)(st:Stmt):Prop:=∃f,PySem.W.nsIn K mainGlobals x=some (some (.ref f))/\FnAt K f x x st
def zQ.own(X:K.In h)(G:h.Ns mainGlobals mg)(a:zQ K x st)(hb:pH x x st ps):a5 K mg x st ps:=by
 obtain⟨f,n,a⟩:=a
 obtain⟨fd,F,b,k⟩:=a.mk hb
 exact⟨f,fd,F,b,k,GG X G n⟩
def zQ.law{fa:Addr}(X:K.In h)(G:h.Ns mainGlobals mg)(a:zQ K x st)(hfa:mg x=some (.ref fa))(hb:pH x x st ps):∃kV doc pm an cdv ct,wS K mg x st ps fa (PySem.W.fnOf x x (b7 st) (bb st) (aI st) .none kV doc pm an cdv ct):=by
 obtain⟨f,n,oc,kV,doc,pm,cdv,ct,od,an,osl,l,cc,k⟩:=a
 cases hfa.symm.trans (GG X G n)
 exact⟨kV,doc,pm,an,cdv,ct,i7 l cc k,(i7 l cc k).binds hb,k,hfa⟩
def CV(P:Program)(w:World)(K:Vo)(x:Str)(kvs:List (aL×V)):Prop:=∃a o,PySem.W.nsIn K mainGlobals x=some (some (.ref a))/\K.lookup a=some o/\(a == sysModules)=false/\∃vs,KV kvs vs/\Obj.IsDictOf (aA P w) o vs
def CV.kd{P:Program}{w:World}{kvs:List (aL×V)}(X:K.In h)(G:h.Ns mainGlobals mg)(a:CV P w K x kvs):∃a,mg x=some (.ref a)/\KD P w K a kvs:=by
 obtain⟨a,o,n,l,s,vs,h1,h2⟩:=a
 exact⟨a,GG X G n,s,o,vs,l,h1,h2⟩
def sn{z:Str}(X:K.In h)(G:h.Ns mainGlobals mg)(a:∃t,PySem.W.nsIn K mainGlobals x=some (some (.str z t))):∃t,mg x=some (.str z t):=let ⟨t,e⟩:=a;⟨t,GG X G e⟩
def fW(X:K.In h)(G:h.Ns mainGlobals mg){l:Vs}(a:(l.all fun x=>rg (PySem.W.nsIn K mainGlobals x))=true)(hx:x∈l:=by decide):mg x=none:=PySem.W.mg_none_of X G (rj (Ge.mp a x hx))
section
variable {f C:Addr} {oc kV doc pm cdv ct:Value} {od an:Option Addr} {osl:Array (Option Value)}
def yJ(n:PySem.W.nsIn K mainGlobals x=some (some (.ref f)))(l:K.lookup f=some ⟨oc,od,.func (PySem.W.fnOf x x (b7 st) (bb st) (aI st) .none kV doc pm an cdv ct),osl⟩)(cc:PySem.W.codeIn K cdv x=true)(k:PySem.W.keepIn K (.ref f)=true):zQ K x st:=⟨f,n,oc,kV,doc,pm,cdv,ct,od,an,osl,l,cc,k⟩
def sk{z:Str}{t:Tok}(n:PySem.W.nsIn K mainGlobals x=some (some (.str z t))):∃t,PySem.W.nsIn K mainGlobals x=some (some (.str z t)):=⟨t,n⟩
def yK{P:Program}{w:World}{kvs:List (aL×V)}{o:Obj}(n:PySem.W.nsIn K mainGlobals x=some (some (.ref f)))(l:K.lookup f=some o)(s:(f == sysModules)=false)(v:∃vs,KV kvs vs/\Obj.IsDictOf (aA P w) o vs):CV P w K x kvs:=⟨f,o,n,l,s,v⟩
end
end
end L3
namespace L2
open PySem PySem.Spec PyProof.Rows
noncomputable def fA:List Value->List Str->Bool
 |[],[]=>true
 | .str z _::r,y::q=>z == y&&fA r q
 |_,_=>false
theorem l4:∀{zs:Vs} {vs:Vv},fA vs zs=true->Vals (zs.map V.str) vs
 |[],[],_=>.nil
 |y::q,v::r,h=>by
  cases v<;>simp only[fA,Fd,Gd,beq_iff_eq]at h
  obtain⟨rfl,h⟩:=h
  exact .cons ⟨_,rfl⟩ (l4 h)
 |[],v::r,h=>by cases v<;>simp[fA]at h
 |y::q,[],h=>by simp[fA]at h
noncomputable def rm(o:Obj)(zs:Vs):Bool:=(match o.cls with | .type n=>n == "tuple" | _=>false)&&o.dict.isNone&&(match o.data with | .seq its _=>decide (its.size<=100)&&fA its.toList zs|_=>false)
def sr{K:Vo}{a:Addr}{o:Obj}{zs:Vs}(l:K.lookup a=some o)(h:rm o zs=true):uo K a zs:=by
 unfold rm at h
 simp only[Gd]at h
 obtain⟨⟨h1,h2⟩,h3⟩:=h
 split at h1
 ·rename_i e1
  split at h3
  ·rename_i its n e3
   simp only[Gd,FG]at h3
   refine⟨o,its,n,l,?_,by simpa using h2,e3,Fl h3.1 (by decide),l4 h3.2⟩
   rw[e1,eq_of_beq h1]
  ·cases h3
 ·cases h1
noncomputable abbrev wV(w:World)(x:Str×Addr×Tok):DictEntry:=⟨PyData.keyHash w.params x.1,.str x.1 x.2.2,.ref x.2.1⟩
noncomputable def m6(K:Vo):List (Str×Addr×Tok)->List (Str×List Str)->Bool
 |[],[]=>true
 |(z,b,_)::r,(y,zs)::q=>z == y&&(match K.lookup b with|some o=>rm o zs|none=>false)&&m6 K r q
 |_,_=>false
theorem ss{K:Vo}:∀{xs:List (Str×Addr×Tok)} {fs:List (Str×List Str)},m6 K xs fs=true->BM K (xs.map fun x=>((Sum.inr x.1:aL),V.ref x.2.1)) fs
 |[],[],_=>.nil
 |(z,b,t)::r,(y,zs)::q,h=>by
  simp only[m6,Gd,beq_iff_eq]at h
  obtain⟨⟨rfl,h1⟩,h2⟩:=h
  split at h1
  ·rename_i o e
   exact .cons (sr e h1) (ss h2)
  ·cases h1
 |[],_::_,h=>by simp[m6]at h
 |_::_,[],h=>by simp[m6]at h
def u6(P:Program)(w:World){K:Vo}{fs:List (Str×List Str)}(xs:List (Str×Addr×Tok))(ep:Nat)(nd:(xs.map (·.1)).Nodup)(hk:m6 K xs fs=true) :
  ∃kvs vs,KV kvs vs/\Obj.IsDictOf (aA P w) { cls:=.type "dict",data:=.dict (xs.map (wV w)).toArray ep } vs/\BM K kvs fs:=by
 refine⟨_,xs.map fun x=>((Sum.inr x.1:aL),Value.ref x.2.1),?_,⟨(xs.map (wV w)).toArray,ep,⟨rfl,rfl,rfl⟩,rfl,?_,?_,?_⟩,ss hk⟩
 ·clear hk nd
  induction xs with
  |nil=>exact .nil
  |cons x xs ih=>exact .cons ⟨rfl,rfl⟩ ih
 ·intro e he
  have he':e∈xs.map (wV w):=by simpa using he
  obtain⟨x,_,rfl⟩:=Fq.mp he'
  exact⟨Sum.inr x.1,cy x.1 x.2.2,jY w x.1⟩
 ·have key:∀ys:List (Str×Addr×Tok),Pairs (aA P w) (ys.map (wV w)) (ys.map fun x=>((Sum.inr x.1:aL),Value.ref x.2.1)):=by
   intro ys
   induction ys with
   |nil=>exact .nil
   |cons y ys ih=>exact .cons (cy y.1 y.2.2) rfl ih
  exact key xs
 ·rw[Fy]
  have key:∀ys:List (Str×Addr×Tok),(ys.map (·.1)).Nodup->(ys.map fun x=>(Sum.inr x.1:aL)).Nodup:=by
   intro ys
   induction ys with
   |nil=>intro _;exact List.nodup_nil
   |cons y ys ih=>
    intro h
    rw[EV,Gi]at h ⊢
    refine⟨fun hm=>h.1 ?_,ih h.2⟩
    obtain⟨z,hz,e⟩:=Fq.mp hm
    have e':z.1=y.1:=Sum.inr.inj e
    exact Fq.mpr ⟨z,hz,e'⟩
  exact key xs nd
end L2
namespace L3
open PySem L2
section
variable {K:Vo} {h:Heap} {mg:Vr} {x:Str} {f:Addr} {o:Obj} {zs:Vs} {P:Program} {w:World} {fs:List (Str×List Str)}
def CW(K:Vo)(x:Str)(zs:Vs):Prop:=∃a,PySem.W.nsIn K mainGlobals x=some (some (.ref a))/\uo K a zs
def CW.ts(X:K.In h)(G:h.Ns mainGlobals mg)(a:CW K x zs):∃a,mg x=some (.ref a)/\uo K a zs:=let ⟨a,n,k⟩:=a;⟨a,GG X G n,k⟩
def yL(n:PySem.W.nsIn K mainGlobals x=some (some (.ref f)))(l:K.lookup f=some o)(b:rm o zs=true):CW K x zs:=⟨f,n,sr l b⟩
def CZ(P:Program)(w:World)(K:Vo)(x:Str)(fs:List (Str×List Str)):Prop:=∃a,PySem.W.nsIn K mainGlobals x=some (some (.ref a))/\KF P w K a fs
def CZ.kf(X:K.In h)(G:h.Ns mainGlobals mg)(a:CZ P w K x fs):∃a,mg x=some (.ref a)/\KF P w K a fs:=let ⟨a,n,k⟩:=a;⟨a,GG X G n,k⟩
def yM(n:PySem.W.nsIn K mainGlobals x=some (some (.ref f)))(l:K.lookup f=some o)(s:(f == sysModules)=false)(v:∃kvs vs,KV kvs vs/\Obj.IsDictOf (aA P w) o vs/\BM K kvs fs):CZ P w K x fs:=
 let ⟨kvs,vs,a,b,c⟩:=v
 ⟨f,n,kvs,⟨s,o,vs,l,a,b⟩,c⟩
end
end L3
namespace G07
open PySem L2 L3
def u7{l:PySem.W.OpenLaw}{w:World}{K:Vo}{h:Heap}{mg:Vr}{fa:Addr}(X:K.In h)(G:h.Ns mainGlobals mg)(hfa:mg "law" = some (.ref fa))
  (z8:zQ K "common" (bf 5))
  (zb:zQ K "show_figures" (bf 6))
  (zc:zQ K "read_figures" (bf 7))
  (y8:zQ K "show_fraction" (bf 8))
  (yU:zQ K "read_from_nought_on" (bf 9))
  (zZ:zQ K "is_name" (bf 13))
  (zr:zQ K "read_name" (bf 16))
  (zh:zQ K "read_things" (bf 17))
  (zt:zQ K "read_word" (bf 18))
  (zi:zQ K "split_words" (bf 19))
  (z0:zQ K "word_at" (bf 20))
  (zu:zQ K "read_part" (bf 21))
  (zv:zQ K "read_body" (bf 22))
  (zw:zQ K "read_jars" (bf 23))
  (zx:zQ K "read_deed" (bf 24))
  (zm:zQ K "read_house" (bf 25))
  (zL:zQ K "sides_of" (bf 28))
  (zy:zQ K "show_body" (bf 30))
  (zn:zQ K "show_house" (bf 31))
  (zA:zQ K "_law_deal" (bf 33))
  (zB:zQ K "_law_draw" (bf 34))
  (zM:zQ K "_law_low" (bf 35))
  (zC:zQ K "_law_kept" (bf 36))
  (zD:zQ K "_law_name" (bf 37))
  (y9:zQ K "_law_any_leaf" (bf 38))
  (y_:zQ K "_law_any_body" (bf 39))
  (y2:zQ K "_law_cost_text" (bf 40))
  (y3:zQ K "_law_body_text" (bf 41))
  (y4:zQ K "_law_any_house" (bf 42))
  (yX:zQ K "_law_house_text" (bf 43))
  (zo:zQ K "_law_right" (bf 44))
  (z3:∃t,PySem.W.nsIn K mainGlobals "FIGURES" = some (some (.str "0123456789" t)))
  (Al:CZ l.prog w K "FORMS" [("pay",["cost"]),("put",["name","things"]),("then",["body","body"]),("either",["body","body"]),("take",["name","things","body","body"]),("often",["body"]),("use",["name"])])
  (zp:CW K "KEPT_WORDS" ["jars","deed","rest","pay","put","then","either","take","often","use"])
  (z4:∃t,PySem.W.nsIn K mainGlobals "LETTERS" = some (some (.str "abcdefghijklmnopqrstuvwxyz" t)))
  (zq:CV l.prog w K "SIDES_FROM" (C.k_SIDES_FROM.map fun kv=>(kv.1,V.int kv.2)))
  (Bl:((["abs","all","int","isinstance","len","list","max","range","repr","reversed","str","tuple"]:Vs).all fun x=>rg (PySem.W.nsIn K mainGlobals x))=true)
  (BE:zQ K "law" (bf 45))
  : ∃fd:FuncData,FL fd ["_law_script"]/\(∀(s:Shared) (v:Value),BindsTo s fd ⟨[v],[]⟩ [("_law_script",v)])/\∀base:Heap,K.In base->base.Ns mainGlobals mg->hU l.prog w K mg base rJ 20 fa fd ["_law_script"] (wb K 1 ku):=by
 obtain⟨kV,doc,pm,an,cdv,ct,O⟩:=BE.law X G hfa (ps:=["_law_script"]) (fun _ _ _ _ _ _=>hG fun _=>rfl)
 exact⟨_,by rfl,fun s v=>.of_eq rfl,fun base _ _=>(uG (P:=l.prog) (w:=w) (base:=base) ⟨z8.own X G (fun _ _ _ _ _ _=>sj fun _ _=>rfl),
  zb.own X G (fun _ _ _ _ _ _=>hG fun _=>rfl),
  zc.own X G (fun _ _ _ _ _ _=>hG fun _=>rfl),
  y8.own X G (fun _ _ _ _ _ _=>hG fun _=>rfl),
  yU.own X G (fun _ _ _ _ _ _=>hG fun _=>rfl),
  zZ.own X G (fun _ _ _ _ _ _=>hG fun _=>rfl),
  zr.own X G (fun _ _ _ _ _ _=>hG fun _=>rfl),
  zh.own X G (fun _ _ _ _ _ _=>hG fun _=>rfl),
  zt.own X G (fun _ _ _ _ _ _=>sj fun _ _=>rfl),
  zi.own X G (fun _ _ _ _ _ _=>hG fun _=>rfl),
  z0.own X G (fun _ _ _ _ _ _=>sj fun _ _=>rfl),
  zu.own X G (fun _ _ _ _ _ _=>sj fun _ _=>rfl),
  zv.own X G (fun _ _ _ _ _ _=>hG fun _=>rfl),
  zw.own X G (fun _ _ _ _ _ _=>hG fun _=>rfl),
  zx.own X G (fun _ _ _ _ _ _=>hG fun _=>rfl),
  zm.own X G (fun _ _ _ _ _ _=>hG fun _=>rfl),
  zL.own X G (fun _ _ _ _ _ _=>hG fun _=>rfl),
  zy.own X G (fun _ _ _ _ _ _=>hG fun _=>rfl),
  zn.own X G (fun _ _ _ _ _ _=>hG fun _=>rfl),
  zA.own X G (fun _ _ _ _ _ _=>sj fun _ _=>rfl),
  zB.own X G (fun _ _ _ _ _ _=>sj fun _ _=>rfl),
  zM.own X G (fun _ _ _ _ _ _=>sj fun _ _=>rfl),
  zC.own X G (fun _ _ _ _ _ _ us hl=>match us,hl with|[],_=>rfl),
  zD.own X G (fun _ _ _ _ _ _=>hG fun _=>rfl),
  y9.own X G (fun _ _ _ _ _ _=>sj fun _ _=>rfl),
  y_.own X G (fun _ _ _ _ _ _=>yI fun _ _ _ _=>rfl),
  y2.own X G (fun _ _ _ _ _ _=>hG fun _=>rfl),
  y3.own X G (fun _ _ _ _ _ _=>hG fun _=>rfl),
  y4.own X G (fun _ _ _ _ _ _=>hG fun _=>rfl),
  yX.own X G (fun _ _ _ _ _ _=>hG fun _=>rfl),
  zo.own X G (fun _ _ _ _ _ _=>hG fun _=>rfl),
  fW (x:="abs") X G Bl,
  fW (x:="all") X G Bl,
  fW (x:="int") X G Bl,
  fW (x:="isinstance") X G Bl,
  fW (x:="len") X G Bl,
  fW (x:="list") X G Bl,
  fW (x:="max") X G Bl,
  fW (x:="range") X G Bl,
  fW (x:="repr") X G Bl,
  fW (x:="reversed") X G Bl,
  fW (x:="str") X G Bl,
  fW (x:="tuple") X G Bl,
  sn X G z3,
  Al.kf X G,
  zp.ts X G,
  sn X G z4,
  zq.kd X G⟩ O).ok⟩
def ya{l:PySem.W.OpenLaw}{q:Program}{loose:Vs}{XP:(Vr)->Heap->Prop}{YP:World->Heap->Prop}{d:DefRec}{K:Params->PySem.W.Frag}(hn:l.most=some 63)(hdf:d.params.defaults=[])
  (hY:∀(w:World) (h:Heap),YP w h->(K w.params).In h)
  (F:∀(w:World) (mg:Vr) (fa:Addr) (h:Heap),(K w.params).In h->h.Ns mainGlobals mg->mg d.name=some (.ref fa)->
   ∃fd:FuncData,FL fd ["_law_script"]/\(∀(s:Shared) (u:Value),BindsTo s fd ⟨[u],[]⟩ [("_law_script",u)])/\∀base:Heap,(K w.params).In base->base.Ns mainGlobals mg->hU l.prog w (K w.params) mg base rJ 20 fa fd ["_law_script"] (wb (K w.params) 1 ku)) :
  PySem.W.WalkO q loose XP YP l.row.toRowW d [] (fun f vs=>PySem.call f vs):=
 L2.qf (n:=63) (k:=20) (x:="_law_script") (CX:=fun _=>rJ) (sp:=fun w=>wb (K w.params) 1 ku) hn (by decide) hdf ⟨rfl,by decide,by decide,rfl⟩ hY F (fun _ _ a ns hl hO hS=>xO hO hS (pG ns hl)) fun _ _ _ _ _ z=>z
end G07
local macro_rules | `(tactic| walk_at "k")=>`(tactic| (apply L3.yJ; k_is; k_is; k_is; k_is))
open PySem PySem.W PyProof.Rows
set_option maxRecDepth 100000 in
set_option maxHeartbeats 0 in
theorem PySem.Challenge.cw_dueworth_k07_whole_houses_written_and_re_holds : PySem.Challenge.rw_dueworth_k07_whole_houses_written_and_re.Holds := by
 w_on; refine holds_law E07.said fun said => ?_
 refine holds_open (q := E07.vw) (loose := ["FORMS", "SIDES_FROM"]) (Xt := fun s => (xlAt E07.vw [] s && recOk (RowW.records E07.rr) s)) (XP := XL E07.vw []) (N := 3506)
  (Yf := Hook.obs E07.hk) (Ya := Hook.val E07.hk) (YP := Hook.says (kHook E07.early.heap_1 E07.as E07.yb)) E07.left (Hook.of E07.hk) (Hook.keeps E07.hk) (fun s e => xl_of s (Gx.mp e).1)
  XL.keeps rfl rfl rfl (fun s e => recFacts_of (Gx.mp e).2) rfl (by assumption)
  (by decide +kernel) ⟨rfl, rfl, rfl, rfl, rfl, by decide +kernel⟩ ?hw ?hc
 (case hw => w_witness2)
 k_fill
 refine G07.ya (l := PySem.Challenge.rw_dueworth_k07_whole_houses_written_and_re) rfl rfl (fun w h Y => PySem.W.kIn_of Y) ?F
 case F =>
  intro w mg fa h KX G hmg
  refine' G07.u7 KX G hmg ?z8 ?zb ?zc ?y8 ?yU ?zZ ?zr ?zh ?zt ?zi ?z0 ?zu ?zv ?zw ?zx ?zm ?zL ?zy ?zn ?zA ?zB ?zM ?zC ?zD ?y9 ?y_ ?y2 ?y3 ?y4 ?yX ?zo ?z3 ?Al ?zp ?z4 ?zq ?Bl ?BE
  (case z8 => walk_at "k")
  (case zb => walk_at "k")
  (case zc => walk_at "k")
  (case y8 => walk_at "k")
  (case yU => walk_at "k")
  (case zZ => walk_at "k")
  (case zr => walk_at "k")
  (case zh => walk_at "k")
  (case zt => walk_at "k")
  (case zi => walk_at "k")
  (case z0 => walk_at "k")
  (case zu => walk_at "k")
  (case zv => walk_at "k")
  (case zw => walk_at "k")
  (case zx => walk_at "k")
  (case zm => walk_at "k")
  (case zL => walk_at "k")
  (case zy => walk_at "k")
  (case zn => walk_at "k")
  (case zA => walk_at "k")
  (case zB => walk_at "k")
  (case zM => walk_at "k")
  (case zC => walk_at "k")
  (case zD => walk_at "k")
  (case y9 => walk_at "k")
  (case y_ => walk_at "k")
  (case y2 => walk_at "k")
  (case y3 => walk_at "k")
  (case y4 => walk_at "k")
  (case yX => walk_at "k")
  (case zo => walk_at "k")
  (case z3 => apply L3.sk; k_is)
  (case Al => apply L3.yM; k_is; k_is; rfl; exact L2.u6 _ w [("pay", _, _), ("put", _, _), ("then", _, _), ("either", _, _), ("take", _, _), ("often", _, _), ("use", _, _)] _ (by decide +kernel) (by kernel_rfl))
  (case zp => apply L3.yL; k_is; k_is; kernel_rfl)
  (case z4 => apply L3.sk; k_is)
  (case zq => apply L3.yK; k_is; k_is; rfl; exact L2.tM _ w [("then", 1, _, _), ("either", 1, _, _), ("take", 3, _, _), ("often", 1, _, _)] _ (by decide +kernel))
  (case Bl => kernel_rfl)
  (case BE => walk_at "k")
#print axioms PySem.Challenge.cw_dueworth_k07_whole_houses_written_and_re_holds
