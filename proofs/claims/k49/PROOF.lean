import PyProof.Rows.All
import Wide.All
import OpenK.AllK
import Wide.FinOn
import Lean
import PyProof.EqAt
import PyProof.EqKinds
import PyProof.TupleCall
import PySem.Challenge.RW_dueworth_k49_houses_called_anew
import Open.Tree
import Open.Head
section
set_option Elab.async false
set_option linter.all false
set_option maxRecDepth 100000
set_option maxHeartbeats 0
abbrev EE:=@PySem.wpAny_bind
abbrev EF:=@PySem.Heap.get?_push_of_some
abbrev EG:=@List.length_map
abbrev EH:=@List.size_toArray
abbrev EI:=@PySem.wpAny_pure
abbrev EJ:=@Nat.le_refl
abbrev EK:=@PySem.Heap.lt_size
abbrev EL:=@PySem.Heap.get?_push_size
abbrev EM:=@List.length_append
abbrev EN:=@Nat.lt_of_lt_of_le
abbrev EO:=@List.map_cons
abbrev ER:=@Array.getElem?_eq_getElem
abbrev ES:=@Nat.ne_of_lt
abbrev EU:=@List.length_cons
abbrev EV:=@Bool.false_ne_true
abbrev EW:=@Nat.le_trans
abbrev EX:=@List.mem_cons
abbrev EY:=@List.nodup_cons
abbrev EZ:=@List.mem_map
abbrev E1:=@List.getElem?_map
abbrev E2:=@decide_eq_true_eq
abbrev E4:=@List.mem_append_right
abbrev E5:=@List.getElem?_append_left
abbrev E6:=@Bool.false_bne
abbrev E7:=@List.getElem?_append_right
abbrev E8:=@Bool.false_eq_true
abbrev Fb:=@PySem.wpAny_field
abbrev Fc:=@PyProof.Rows.slot_tuple_getitem
abbrev Fd:=@List.length_singleton
abbrev Fe:=@decide_eq_false
abbrev Ff:=@List.mem_append
abbrev Fg:=@PySem.wpAny_callSpecial?_slot
abbrev Fi:=@List.mem_cons_of_mem
abbrev Fj:=@PySem.Around.under_plainId
abbrev Fl:=@congrArg
abbrev Fo:=@List.getElem?_eq_getElem
abbrev Fp:=@Nat.zero_le
abbrev Fq:=@List.length_replicate
abbrev Ft:=@PySem.wpAny_newObj_type
abbrev Fv:=@PyProof.Rows.callWith_type1
abbrev Fw:=@List.map_nil
abbrev Fx:=@PySem.wpAny_seqItems
abbrev Fy:=@Option.some.inj
abbrev Fz:=@List.length_take
abbrev FA:=@PySem.Heap.get?_update_other
abbrev FD:=@List.map_map
abbrev FE:=@List.getElem?_eq_some_iff
abbrev FF:=@PySem.mem_of_lookup
abbrev FG:=@PySem.F.plain_extend_loop
abbrev FH:=@PySem.Heap.get?_update_self
abbrev FI:=@PySem.wpAny_holding
abbrev FJ:=@List.mem_cons_self
abbrev FL:=@PySem.Calls.spliced_cons
abbrev FN:=@PySem.wpAny_Call_Name_kw
abbrev FO:=@List.mem_singleton
abbrev FP:=@List.getElem?_replicate
abbrev FQ:=@List.length_drop
abbrev FT:=@PySem.Heap.size_push
abbrev FU:=@List.replicate_succ
abbrev FW:=@List.mem_filter
abbrev FY:=@PySem.codeAny_builtin
abbrev FZ:=@List.map_append
abbrev F0:=@PySem.wpAny_call_entry
abbrev F1:=@Nat.succ_le_succ
abbrev F2:=@PySem.wpAny_setField_rec
abbrev F3:=@Ne.symm
abbrev F4:=@Bool.and_eq_true_iff
abbrev F5:=@Nat.pow_le_pow_right
abbrev F6:=@Int.eq_ofNat_of_zero_le
abbrev F7:=@PySem.wpAny_mono
abbrev F8:=@PySem.F.slot_zip_next
abbrev F9:=@PySem.PassesOwn.never
abbrev Ga:=@List.length_reverse
abbrev Gb:=@Option.map_eq_some_iff
abbrev Gd:=@Array.getElem?_eq_none
abbrev Ge:=@Nat.lt_irrefl
abbrev Gf:=@PyProof.Rows.assignInOrder_cons
abbrev Gg:=@PySem.F.slot_tuple_iterator_next
abbrev Gh:=@PySem.wpAny_pyIter_tuple
abbrev Gi:=@PySem.F.slot_dict_get
abbrev Gj:=@PySem.builtinLookup_eq_fast
abbrev Gk:=@List.getElem?_eq_none
abbrev Gm:=@PySem.wpAny_passesOwn
abbrev Gn:=@List.append_nil
abbrev Gp:=@List.of_mem_zip
abbrev Gq:=@List.mem_append_left
abbrev Gr:=@PySem.Calls.spliced_nil
abbrev Gs:=@if_false
abbrev Gu:=@List.flatten_cons
abbrev Gv:=@Nat.lt_trans
abbrev Gw:=@List.mem_of_mem_take
abbrev Gx:=@List.getElem?_take_of_lt
abbrev Gy:=@PySem.plainId_quiet
abbrev Gz:=@Int.mul_ediv_cancel_left
abbrev GA:=@List.mem_map_of_mem
abbrev GB:=@decide_eq_true
abbrev GC:=@Int.fdiv_eq_ediv_of_dvd
abbrev GD:=@PySem.wpAny_typeOf
abbrev GF:=@PySem.Calls.callWith_builtin
abbrev GG:=@PySem.tupleKind_room_in1
abbrev GH:=@of_decide_eq_false
abbrev GI:=@List.nil_append
abbrev GJ:=@List.forIn_cons
abbrev GK:=@List.length_filter_le
abbrev GL:=@List.take_sublist
abbrev GN:=@Int.toNat_natCast
abbrev GO:=@PySem.wpAny_pyIter_list
abbrev GP:=@of_decide_eq_true
abbrev GQ:=@PySem.wpAny_rule
abbrev GR:=@List.mem_of_getElem?
abbrev GS:=@PySem.Calls.evalArgs_plain
abbrev GU:=@Nat.le_of_lt
abbrev GV:=@PySem.F.slot_tuple_getattribute
abbrev GW:=@Array.length_toList
abbrev GX:=@List.getElem?_range
abbrev GY:=@PySem.F.entry_extend_loop
abbrev GZ:=@List.map_congr_left
abbrev G0:=@PySem.F.args_tuple_add_2
abbrev G1:=@Bool.eq_iff_iff
abbrev G2:=@if_true
abbrev G3:=@List.length_nil
abbrev G4:=@PySem.typeLookup_type
abbrev G5:=@PySem.wpAny_updateSeq
abbrev G6:=@Nat.lt_of_le_of_lt
abbrev G7:=@PySem.F.entry_tuple_add
abbrev G8:=@PySem.F.args_dict_get_3
abbrev G9:=@PySem.F.plainAttrs_list
abbrev Hf:=@PySem.wpAny_bindName
abbrev Hg:=@Nat.ne_of_gt
abbrev Hh:=@PySem.W.cellsFrom_some
abbrev Hi:=@PySem.F.slot_tuple_add
abbrev Hj:=@List.reverse_cons
abbrev Hl:=@PySem.F.entry_dict_get
abbrev Ho:=@PySem.F.args_zip_next_1
abbrev Hq:=@List.eraseIdxIfInBounds_toArray
abbrev Hr:=@Nat.le_of_ble_eq_true
abbrev Hs:=@PySem.wpAny_execs_cons
abbrev Ht:=@PySem.call_meets
abbrev Hu:=@PySem.F.entry_zip_next
abbrev Hv:=@PySem.Heap.size_update
abbrev Hw:=@List.filter_cons
abbrev Hx:=@PySem.wpAny_updateSeq_pair
abbrev Hy:=@Nat.pow_lt_pow_right
abbrev Hz:=@PySem.wpAny_execs_nil
abbrev HA:=@PySem.wpAny_specialOf
abbrev HB:=@Int.natCast_pos
abbrev HC:=@beq_eq_false_iff_ne
abbrev HD:=@List.filterMap_cons
abbrev HE:=@List.filter_sublist
abbrev HF:=@Int.le_of_lt
abbrev HG:=@List.map_id'
abbrev HH:=@List.mem_range
abbrev HJ:=@List.getElem?_drop
abbrev HK:=@Int.emod_lt_of_pos
abbrev HL:=@Option.isSome_map
abbrev HM:=@List.length_range
abbrev HN:=@List.nodup_append
abbrev HP:=@List.any_cons
abbrev HQ:=@Bool.true_bne
abbrev HR:=@List.lookup_cons
abbrev HS:=@List.map_reverse
abbrev HU:=@List.mem_reverse
abbrev HV:=@List.not_mem_nil
abbrev HW:=@Nat.le_max_right
namespace ET
open PySem PySem.W PyProof.Rows
def eO(tb:String→Option Builtin)(p:Program)(w:World)(n₀:Nat)(ann:Option Value):Nat→SharedT→Thread→Option SharedT
 |0,_,_=>none
 |n+1,s,t=>match through t with
  |true=>some s
  |false=>match stepOk n₀ ann t with
   |false=>none
   |true=>match stepT (denote tb) p w s t with
    |some x=>eO tb p w n₀ ann n x.1 x.2
    |none=>none
theorem ig{tb:String→Option Builtin}{p:Program}{w:World}{n₀:Nat}{ann:Option Value}:∀{n:Nat} {s s':SharedT} {t:Thread},eO tb p w n₀ ann n s t=some s'→topRun tb p w n₀ ann n s.abs t=some s'.abs
 |0,_,_,_,h=>by cases h
 |n+1,s,s',t,h=>by
  unfold eO at h
  unfold topRun
  cases he:through t with
  |true=>rw[he]at h;cases h;rfl
  |false=>
   rw[he]at h
   cases hk:stepOk n₀ ann t with
   |false=>rw[hk]at h;cases h
   |true=>
    rw[hk]at h
    cases hs:stepT (denote tb) p w s t with
    |none=>rw[hs]at h;cases h
    |some r=>rw[hs]at h;rw[stepT_spec hs];exact ig h
def tX:List Obj→BT→Nat→Option (BT×Nat)
 |[],t,n=>some (t,n)
 |o::os,t,n=>match ((t.ins n o).get n).isSome with
  |true=>tX os (t.ins n o) (n+1)
  |false=>none
theorem kY{life:Life}:∀{os:List Obj} {t t':BT} {n n':Nat},tX os t n=some (t',n')→absHeap t' n' life=⟨(absHeap t n life).objs++os.toArray,life⟩
 |[],t,t',n,n',h=>by cases h;simp[absHeap]
 |o::os,t,t',n,n',h=>by
  unfold tX at h
  cases g:((t.ins n o).get n).isSome with
  |false=>rw[g]at h;cases h
  |true=>
   rw[g]at h
   rw[kY h,absHeap_ins g]
   simp[Heap.push]
def eP(tb:String→Option Builtin)(p:Program)(w:World)(N:Nat)(s₀:Shared):Option Shared:=
 match s₀.heap.isNs mainGlobals&&s₀.gens.size == 0 with
 |true=>match tX s₀.heap.objs.toList .nil 0 with
  |some x=>match eO tb p w x.2 (s₀.heap.nsMap mainGlobals "__annotations__") N ⟨x.1,x.2,s₀.heap.life,s₀.gens,s₀.drawn,s₀.toks,s₀.os⟩ (topStub p)with
   |some s=>match staticsOk (importedModules p.main.body) s₀.heap s.abs.heap&&namesBound p s.abs.heap&&gensDone s.abs&&laidKept s₀.heap s.abs.heap with
    |true=>some s.abs
    |false=>none
   |none=>none
  |none=>none
 |false=>none
theorem kg{tb:String→Option Builtin}{p:Program}{w:World}{N:Nat}{s₀ s:Shared}(h:eP tb p w N s₀=some s):topFrom tb p w N s₀=some s:=by
 unfold eP at h
 unfold topFrom
 cases h1:s₀.heap.isNs mainGlobals&&s₀.gens.size == 0 with
 |false=>rw[h1]at h;cases h
 |true=>
  rw[h1]at h
  dsimp only at h ⊢
  cases h2:tX s₀.heap.objs.toList .nil 0 with
  |none=>rw[h2]at h;cases h
  |some x=>
   rw[h2]at h
   dsimp only at h
   have e:=kY (life:=s₀.heap.life) h2
   have e':absHeap x.1 x.2 s₀.heap.life=s₀.heap:=by
    rw[e]
    simp[absHeap,BT.list]
   have n':x.2=s₀.heap.objs.size:=by rw[←e',absHeap_size]
   cases h3:eO tb p w x.2 (s₀.heap.nsMap mainGlobals "__annotations__") N ⟨x.1,x.2,s₀.heap.life,s₀.gens,s₀.drawn,s₀.toks,s₀.os⟩ (topStub p)with
   |none=>rw[h3]at h;cases h
   |some r=>
    rw[h3]at h
    dsimp only at h
    have ea:SharedT.abs ⟨x.1,x.2,s₀.heap.life,s₀.gens,s₀.drawn,s₀.toks,s₀.os⟩=s₀:=by
     unfold SharedT.abs
     rw[e']
    have:=ig h3
    rw[ea,n']at this
    rw[this]
    exact h
theorem kh{tb:String→Option Builtin}{p:Program}{w:World}{N:Nat}{s₀:Shared}{α:Type}{f:Shared→α}{a:α}(h:Option.map f (eP tb p w N s₀)=some a):Option.map f (topFrom tb p w N s₀)=some a:=by
 obtain⟨s,h1,h2⟩:=Gb.mp h
 rw[kg h1]
 exact Fl some h2
def seenT(p q:Program)(loose:List Str)(Xt:Shared→Bool){α:Type}(Yf:Shared→α)(N:Nat)(u u':World):=
 Option.map (fun c=>Option.map (fun s=>(openSeen q loose (importedModules p.main.body) Xt true s,Yf s)) (eP treeTable p u' N c)) (fencedOpening treeTable p u N)
lay_quick seenT
theorem kZ{p q:Program}{loose:List Str}{Xt:Shared→Bool}{α:Type}{Yf:Shared→α}{N:Nat}{u u':World}{r}(h:PySem.W.Fast.tw2787559817927863336 p q loose Xt Yf N u u'=r):seenT p q loose Xt Yf N u u'=r:=by
 rw[PySem.W.Fast.te2787559817927863336]
 exact h
theorem vq{p q:Program}{loose:List Str}{Xt:Shared→Bool}{α:Type}{Yf:Shared→α}{Ya:World→α}{N:Nat}
  (h:∀u:World,seenT p q loose Xt Yf N u u=some (some (openGood q loose,Ya u))):LeftO p q loose Xt Yf Ya N:=fun u=>by
 obtain⟨c,a,b⟩:=Gb.mp (h u)
 unfold openEnds
 rw[a]
 exact kh b
theorem mz{p q:Program}{loose:List Str}{Xt:Shared→Bool}{α:Type}{Yf:Shared→α}{Ya:World→α}{N:Nat}(row:String)
  (h0:∀u:World,seenT p q loose Xt Yf N u (u.withFollow row false)=some (some (openGood q loose,Ya (u.withFollow row false))))
  (h1:∀u:World,seenT p q loose Xt Yf N u (u.withFollow row true)=some (some (openGood q loose,Ya (u.withFollow row true)))):LeftO p q loose Xt Yf Ya N:=fun u=>by
 obtain⟨c,a,b⟩:=Gb.mp (h0 u)
 obtain⟨c',a',b'⟩:=Gb.mp (h1 u)
 have hc:c'=c:=by rw[a]at a';cases a';rfl
 subst hc
 have b:=kh b
 have b':=kh b'
 have hu:=World.withFollow_self u row
 unfold openEnds
 rw[a]
 cases hb:u.params.followText row<;>rw[hb]at hu
 ·rw[hu]at b
  exact b
 ·rw[hu]at b'
  exact b'
end ET
namespace E49
open PySem PySem.W PyProof.Rows
abbrev tp(i:Nat):Stmt:=PySem.Challenge.pw_dueworth_k49_houses_called_anew.main.body.getD i (.Pass ⟨0,0,0,0⟩)
/-- the text without what says nothing -/
def vw:Program:={ PySem.Challenge.pw_dueworth_k49_houses_called_anew with main:={ PySem.Challenge.pw_dueworth_k49_houses_called_anew.main with body:=[tp 1,tp 2,tp 3,tp 5,tp 7,tp 8,tp 9,tp 10,tp 11,tp 12,tp 13,tp 14,tp 15,tp 16,tp 17,tp 18,tp 19,tp 20,tp 21,tp 22,tp 23] } }
abbrev rr:RowW:=OpenRow.toRowW (OpenLaw.row PySem.Challenge.rw_dueworth_k49_houses_called_anew)
local macro_rules | `(tactic| o_head $H)=>`(tactic|
 refine holds_open (q:=vw) (loose:=["SIDES_FROM"]) (Xt:=fun s=>(xlAt vw [] s&&recOk (RowW.records rr) s)) (XP:=XL vw []) (N:=1480)
  (Yf:=Hook.obs $H) (Ya:=Hook.val $H) (YP:=Hook.says $H) ?hl (Hook.of $H) (Hook.keeps $H) (fun s e=>xl_of s (F4.mp e).1)
  XL.keeps rfl rfl rfl (fun s e=>recFacts_of (F4.mp e).2) rfl (by assumption)
  (by decide +kernel) ⟨rfl,rfl,rfl,rfl,rfl,by decide +kernel⟩ ?hw ?hc)
/-- the law is well said: by the quick twin of the look,with no twin of the program -/
theorem said:OpenLaw.wellSaid PySem.Challenge.rw_dueworth_k49_houses_called_anew=true:=(congrFun PySem.W.Fast.te9446332074065402090 _).trans (by kernel_rfl)
/-- says nothing; what lies in the heap is written down by the way -/
theorem early(h:∀P:Prop,P):PySem.Challenge.rw_dueworth_k49_houses_called_anew.Holds:=by
 w_on;refine holds_law said fun said=>?_;k_head
 all_goals exact h _
abbrev as:List Addr:=[2,3,15,16,18,19,21,22,23,26,27,28,31,32,33,36,37,38,40,41,43,44,45,47,48,50,51,52,55,56,57,59,60,62,63,64,66,67,69,70,71,73,74,76,77,78,80,81,83,84,85,87,88,90,91,92,94,95,97,98,99,102,103,104,107,108,109,111,112,114,115,116,118,119,121,122,123,126,127,128,131,132,133,136,137]
theorem wS(P:Params):as=(early.heap_1 P).map (·.1):=by kernel_rfl
noncomputable abbrev hk:Hook:=kmHook early.heap_1 as wS [29]
theorem tY(u:World):ET.seenT (OpenLaw.row PySem.Challenge.rw_dueworth_k49_houses_called_anew).prog vw ["SIDES_FROM"] (fun s=>(xlAt vw [] s&&recOk (RowW.records rr) s)) (Hook.obs hk) 1480 u (u.withFollow "special-get-raises" false)=some (some (openGood vw ["SIDES_FROM"],Hook.val hk (u.withFollow "special-get-raises" false))):=ET.kZ (by kernel_rfl)
theorem tZ(u:World):ET.seenT (OpenLaw.row PySem.Challenge.rw_dueworth_k49_houses_called_anew).prog vw ["SIDES_FROM"] (fun s=>(xlAt vw [] s&&recOk (RowW.records rr) s)) (Hook.obs hk) 1480 u (u.withFollow "special-get-raises" true)=some (some (openGood vw ["SIDES_FROM"],Hook.val hk (u.withFollow "special-get-raises" true))):=ET.kZ (by kernel_rfl)
theorem left:LeftO (OpenLaw.row PySem.Challenge.rw_dueworth_k49_houses_called_anew).prog vw ["SIDES_FROM"] (fun s=>(xlAt vw [] s&&recOk (RowW.records rr) s)) (Hook.obs hk) (Hook.val hk) 1480:=ET.mz "special-get-raises" tY tZ
end E49
end
open PySem in
abbrev Vq:=Value->Shared->Prop
open PySem in
abbrev Va:=List (Addr×Obj)
open PySem in
abbrev Vo:=PySem.W.Frag
open PySem in
abbrev Vr:=Str->Option Value
open PySem in
abbrev Vs:=List Str
open PySem in
abbrev Vu:=List Int
open PySem in
abbrev Vv:=List Value
open PySem in
abbrev Vw:=Array Value
set_option Elab.async false
set_option linter.all false
set_option maxRecDepth 100000
namespace L2
open PySem PySem.Spec PyProof.Rows
abbrev aK:=Sum Int Str
noncomputable def ij:aK->Value->Bool
 | .inl k,v=>Value.isInt k v
 | .inr x,v=>Value.isStrOf x v
noncomputable def vL(w:World):aK->Int
 | .inl k=>hashInt k
 | .inr x=>hashStr w x
theorem aU:∀{k:aK} {v:Value},ij k v=true->(∃i t,k=Sum.inl i/\v=Value.int i t)\/(∃x t,k=Sum.inr x/\v=Value.str x t)
 | .inl i,v,h=>by
  obtain⟨t,e⟩:=Value.isInt_shape (k:=i) (v:=v) h
  exact .inl ⟨i,t,rfl,e⟩
 | .inr x,v,h=>by
  obtain⟨t,e⟩:=Value.isStrOf_shape (x:=x) (v:=v) h
  exact .inr ⟨x,t,rfl,e⟩
def lH(i:Int)(t:Tok):ij (.inl i) (.int i t)=true:=by simp[ij,Value.isInt]
def fk(x:Str)(t:Tok):ij (.inr x) (.str x t)=true:=by simp[ij,Value.isStrOf]
def qM(a b:Int):decide ((Sum.inl a:aK)=Sum.inl b)=(a == b):=by
 by_cases e:a=b
 ·subst e;simp
 ·have h:¬(Sum.inl a:aK)=Sum.inl b:=fun q=>e (Sum.inl.inj q)
  rw[Fe h]
  exact(HC.mpr e).symm
def qN(a b:Str):decide ((Sum.inr a:aK)=Sum.inr b)=decide (a=b):=by
 by_cases e:a=b
 ·subst e;simp
 ·have h:¬(Sum.inr a:aK)=Sum.inr b:=fun q=>e (Sum.inr.inj q)
  rw[Fe h,Fe e]
def qO(a:Int)(b:Str):decide ((Sum.inl a:aK)=Sum.inr b)=false:=Fe (fun q=>nomatch q)
def qP(a:Str)(b:Int):decide ((Sum.inr a:aK)=Sum.inl b)=false:=Fe (fun q=>nomatch q)
noncomputable def ax(prog:Program)(w:World):PySem.KeyKind prog w aK where
 is:=ij
 hash:=vL w
 inj:=fun v a b ha hb=>by
  rcases aU ha with⟨i,t,rfl,rfl⟩|⟨x,t,rfl,rfl⟩
  ·rcases aU hb with⟨j,u,rfl,e⟩|⟨y,u,rfl,e⟩
   ·injection e with e1 _;rw[e1]
   ·exact nomatch e
  ·rcases aU hb with⟨j,u,rfl,e⟩|⟨y,u,rfl,e⟩
   ·exact nomatch e
   ·injection e with e1 _;rw[e1]
 byValue:=fun k v h=>by
  rcases aU h with⟨i,t,rfl,rfl⟩|⟨x,t,rfl,rfl⟩<;>rfl
 pyHash:=fun hv h=>by
  rcases aU hv with⟨i,t,rfl,rfl⟩|⟨x,t,rfl,rfl⟩
  ·exact wpAny_pyHash_int h
  ·exact wpAny_pyHash_str h
 eqBool:=fun hu hv h=>by
  rcases aU hu with⟨i,t,rfl,rfl⟩|⟨x,t,rfl,rfl⟩
  ·rcases aU hv with⟨j,u,rfl,rfl⟩|⟨y,u,rfl,rfl⟩
   ·rw[qM]at h;exact wpAny_eqBool_int h
   ·rw[qO]at h;exact SeqAt.EqAt.int_str i t y u _ _ _ _ h
  ·rcases aU hv with⟨j,u,rfl,rfl⟩|⟨y,u,rfl,rfl⟩
   ·rw[qP]at h;exact SeqAt.EqAt.str_int x t j u _ _ _ _ h
   ·rw[qN]at h;exact wpAny_eqBool_str h
 «strs»:=fun k x t v h=>by
  rcases aU h with⟨i,u,rfl,e⟩|⟨y,u,rfl,e⟩
  ·exact nomatch e
  ·injection e with e1 _
   subst e1
   cases v<;>rfl
def jz(prog:Program)(w:World)(i:Int)(t:Tok):(ax prog w).is (.inl i) (.int i t)=true:=lH i t
def jA(prog:Program)(w:World)(x:Str)(t:Tok):(ax prog w).is (.inr x) (.str x t)=true:=fk x t
inductive V where
 |non|bl (b:Bool)|int (i:Int)|str (x:Str)|Ac (b:Array UInt8)|BL (b:UInt64)|ref (a:Addr)|ty (n:String)
 deriving DecidableEq
noncomputable def RelV:V->Value->Prop
 | .non,u=>u=Value.none
 | .bl b,u=>u=Value.bool b
 | .int i,u=>∃t,u=Value.int i t
 | .str x,u=>∃t,u=Value.str x t
 | .Ac b,u=>∃t,u=Value.bytes b t
 | .BL b,u=>∃t,u=Value.float b t
 | .ref a,u=>u=Value.ref a
 | .ty n,u=>u=Value.type n
noncomputable abbrev Vals:List V->List Value->Prop:=Paired RelV
theorem Vals.length{xs:List V}{us:Vv}(r:Vals xs us):xs.length=us.length:=Paired.length r
theorem Vals.get:∀{xs:List V} {us:Vv} {i:Nat} {x:V},Vals xs us->xs[i]?=some x->∃u,us[i]?=some u/\RelV x u
 |_,_,_,_,.nil,e=>by simp at e
 |_,_,0,_,.cons r _,e=>by simp at e;subst e;exact⟨_,rfl,r⟩
 |_,_,i+1,x,.cons _ t,e=>by
  obtain⟨u,h1,h2⟩:=Vals.get (i:=i) (x:=x) t (by simpa using e)
  exact⟨u,by simpa using h1,h2⟩
theorem Vals.set{x:V}{u:Value}(r:RelV x u):∀{xs:List V} {us:Vv} (i:Nat),Vals xs us->Vals (xs.set i x) (us.set i u)
 |_,_,_,.nil=>.nil
 |_,_,0,.cons _ t=>.cons r t
 |_,_,i+1,.cons q t=>.cons q (Vals.set r i t)
theorem Vals.append:∀{xs ys:List V} {us ws:Vv},Vals xs us->Vals ys ws->Vals (xs++ys) (us++ws)
 |_,_,_,_,.nil,s=>s
 |_,_,_,_,.cons r t,s=>.cons r (Vals.append t s)
theorem Vals.take:∀{xs:List V} {us:Vv} (n:Nat),Vals xs us->Vals (xs.take n) (us.take n)
 |_,_,0,_=>.nil
 |_,_,_+1,.nil=>.nil
 |_,_,n+1,.cons r t=>.cons r (Vals.take n t)
theorem Vals.drop:∀{xs:List V} {us:Vv} (n:Nat),Vals xs us->Vals (xs.drop n) (us.drop n)
 |_,_,0,r=>r
 |_,_,_+1,.nil=>.nil
 |_,_,n+1,.cons _ t=>Vals.drop n t
noncomputable def RelO:Option V->Option Value->Prop
 |some v,some u=>RelV v u
 |none,none=>True
 |_,_=>False
noncomputable def KV{κ:Type}:List (κ×V)->List (κ×Value)->Prop:=Paired fun(p:κ×V) (q:κ×Value)=>p.1=q.1/\RelV p.2 q.2
noncomputable def kV:aK->V
 | .inl i=>.int i
 | .inr x=>.str x
inductive HO where
 /-- a list -/
 |lst (xs:List V)
 /-- a tuple (never changes) -/
 |tup (xs:List V)
 /-- a dict whose keys are ints and texts; one whose keys are tuples of ints and texts (the empty one is both) -/
 |dK (kvs:List (aK×V))|dT (kvs:List (List aK×V))
 /-- a set of ints: its members,its size -/
 |set (S:Int->Bool) (n:Nat)
 /-- an instance of the class at C,its dict at dx,its attributes -/
 |ins (C dx:Addr) (fs:List (Str×V))
 /-- the dict of the instance at x -/
 |own (x:Addr)
 /-- the dict of an exception -/
 |xd (fs:List (Str×V))
 /-- a bound method,f of x -/
 |met (f x:Addr)
 /-- a range object lo,lo + 1,.. below hi -/
 |BM (lo hi:Int)
 /-- a thing that is known to the object (the script; a dict while a loop walks it): read,never written while it is so -/
 |frz (o:Obj) (u:HO)
 /-- a code object's table -/
 |zp (ps:Vw)
 /-- any other thing,by what is true of its one object (a def of CK own: DG a S n:=HO.ext fun h=>..) -/
 |ext (φ:Heap->Prop)
abbrev Hp:=Addr->Option HO
noncomputable def upd(H:Hp)(a:Addr)(o:HO):Hp:=fun b=>if b=a then some o else H b
def am{H:Hp}{a:Addr}{o:HO}:upd H a o a=some o:=by unfold upd;rw[if_pos rfl]
def ak{H:Hp}{a b:Addr}{o:HO}(h:b≠a):upd H a o b=H b:=by unfold upd;rw[if_neg h]
def t4{H:Hp}{a b:Addr}{o u:HO}(h:H a=some o)(h':H b=some u)(d:o≠u):a≠b:=by
 intro e;subst e;rw[h]at h';exact d (Fy h')
def au{H:Hp}{a b:Addr}{o:HO}(h:H a=some o)(h':H b=none):a≠b:=by
 intro e;subst e;rw[h]at h';cases h'
def xX(h:Heap)(a:Addr)(its:Vw):Prop:=∃o,h.get? a=some o/\o.dict=none/\o.cls = .type "tuple"/\∃n,o.data = .seq its n
def xX.tup{h:Heap}{a:Addr}{its:Vw}(x:xX h a its):IsTup h a its:=let ⟨o,e,_,c,d⟩:=x;⟨o,e,c,d⟩
def xX.new(h:Heap)(its:Vw):xX (h.push { cls:=.type "tuple",data:=.seq its }) h.objs.size its:=⟨_,EL _ rfl,rfl,rfl,_,rfl⟩
section
variable (P:Program) (w:World)
noncomputable def xP(H:Hp)(h:Heap)(a:Addr):HO->Prop
 | .lst xs=>xs.length<=sizeLine/\∃(its:Vv) (n:Nat),Vals xs its/\h.get? a=some { cls:=.type "list",data:=.seq its.toArray n }
 | .tup xs=>xs.length<=sizeLine/\∃its:List Value,Vals xs its/\xX h a its.toArray
 | .dK kvs=>kvs.length<=sizeLine/\(a == sysModules)=false/\∃vs,KV kvs vs/\h.DictOf (ax P w) a vs
 | .dT kvs=>kvs.length<=sizeLine/\(a == sysModules)=false/\∃xs:List (List aK×Addr×Value),
   Paired (fun(p:List aK×V) (q:List aK×Addr×Value)=>p.1=q.1/\H q.2.1=some (.tup (p.1.map kV))/\RelV p.2 q.2.2) kvs xs/\
   ∃o es ep,h.get? a=some o/\o.ExactDict/\o.data = .dict es ep/\es.toList=xs.map (entryOfKey (tupleKind (ax P w)))/\(xs.map (·.1)).Nodup
 | .set S n=>h.SetOf (intKind P w) a S n
 | .ins C dx fs=>H dx=some (.own a)/\fs.length<=1000/\dx≠a/\h.get? a=some (PySem.W.instObj C dx)/\
   ∃mA,h.Ns1 dx mA/\(∀f,RelO (fs.lookup f) (mA f))/\PySem.Within mA (fs.map (·.1))
 | .own _=>∃o,h.get? a=some o
 | .xd fs=>∃mA,h.Ns1 a mA/\∀f,RelO (fs.lookup f) (mA f)
 | .BM lo hi=>∃t u v,h.get? a=some { cls:=.type "range",data:=.fields #[.int lo t,.int hi u,.int 1 v] }
 | .frz o u=>h.get? a=some o/\xP H h a u
 | .zp ps=>h.get? a=some { cls:=.none,data:=.fields ps }
 | .met f x=>h.get? a=some (PySem.W.methodObj (.ref f) (.ref x))
 | .ext φ=>φ h/\(∃o,h.get? a=some o)/\∀h1 h2:Heap,φ h1->(∀o,h1.get? a=some o->h2.get? a=some o)->φ h2
def yF(H:Hp)(h:Heap):Prop:=∀a o,H a=some o->xP P w H h a o
end
section
variable {P:Program} {w:World} {H H':Hp} {h h':Heap} {a:Addr} {o:HO}
theorem xP.lt(x:xP P w H h a o):a < h.objs.size:=by
 cases o with
 |lst xs=>obtain⟨_,_,_,_,e⟩:=x;exact EK e
 |tup xs=>obtain⟨_,_,_,p⟩:=x;exact p.tup.lt
 |dK kvs=>obtain⟨_,_,_,_,o,_,_,e,_⟩:=x;exact EK e
 |dT kvs=>obtain⟨_,_,_,_,o,_,_,e,_⟩:=x;exact EK e
 |set S n=>obtain⟨o,_,_,_,e,_⟩:=x;exact EK e
 |ins C dx fs=>obtain⟨_,_,_,e,_⟩:=x;exact EK e
 |own y=>obtain⟨_,e⟩:=x;exact EK e
 |xd fs=>obtain⟨_,⟨_,_,_,e,_⟩,_⟩:=x;exact EK e
 |BM lo hi=>obtain⟨_,_,_,e⟩:=x;exact EK e
 |frz ob u=>obtain⟨e,_⟩:=x;exact EK e
 |zp ps=>exact EK (show h.get? a=some _ from x)
 |met f y=>exact EK (show h.get? a=some _ from x)
 |ext φ=>obtain⟨_,⟨_,e⟩,_⟩:=x;exact EK e
theorem Paired.AQ{α β:Type}{F G:α->β->Prop}:∀{l₁:List α} {l₂:List β},Paired F l₁ l₂->(∀a b,F a b->G a b)->Paired G l₁ l₂
 |_,_,.nil,_=>.nil
 |_,_,.cons r t,f=>.cons (f _ _ r) (Paired.AQ t f)
def xP.stay(x:xP P w H h a o)(k:∀b u,(b=a\/H b=some (.own a))->h.get? b=some u->h'.get? b=some u)
  (ho:∀b,H b=some (.own a)->H' b=some (.own a)) (ht:∀b xs,H b=some (.tup xs)->H' b=some (.tup xs)):xP P w H' h' a o:=by
 induction o with
 |lst xs=>obtain⟨z,its,n,r,e⟩:=x;exact⟨z,its,n,r,k _ _ (.inl rfl) e⟩
 |tup xs=>obtain⟨z,its,r,ob,e,c⟩:=x;exact⟨z,its,r,ob,k _ _ (.inl rfl) e,c⟩
 |dK kvs=>obtain⟨z,y,vs,r,ob,es,ep,e,c⟩:=x;exact⟨z,y,vs,r,ob,es,ep,k _ _ (.inl rfl) e,c⟩
 |dT kvs=>
  obtain⟨z,y,xs,r,ob,es,ep,e,c⟩:=x
  exact⟨z,y,xs,Paired.AQ r fun p q z=>⟨z.1,ht _ _ z.2.1,z.2.2⟩,ob,es,ep,k _ _ (.inl rfl) e,c⟩
 |set S n=>obtain⟨ob,es,ep,t,e,c⟩:=x;exact⟨ob,es,ep,t,k _ _ (.inl rfl) e,c⟩
 |ins C dx fs=>
  obtain⟨d,z,ne,e,mA,⟨od,es,ep,e2,c⟩,r⟩:=x
  exact⟨ho _ d,z,ne,k _ _ (.inl rfl) e,mA,⟨od,es,ep,k _ _ (.inr d) e2,c⟩,r⟩
 |own y=>obtain⟨ob,e⟩:=x;exact⟨ob,k _ _ (.inl rfl) e⟩
 |xd fs=>obtain⟨mA,⟨od,es,ep,e,c⟩,r⟩:=x;exact⟨mA,⟨od,es,ep,k _ _ (.inl rfl) e,c⟩,r⟩
 |BM lo hi=>obtain⟨t,u,v,e⟩:=x;exact⟨t,u,v,k _ _ (.inl rfl) e⟩
 |frz ob u ih=>obtain⟨e,q⟩:=x;exact⟨k _ _ (.inl rfl) e,ih q⟩
 |zp ps=>
  have e:h.get? a=some { cls:=.none,data:=.fields ps }:=x
  show h'.get? a=some { cls:=.none,data:=.fields ps }
  exact k a _ (.inl rfl) e
 |met f y=>
  have e:h.get? a=some (PySem.W.methodObj (.ref f) (.ref y)):=x
  show h'.get? a=some (PySem.W.methodObj (.ref f) (.ref y))
  exact k a _ (.inl rfl) e
 |ext φ=>obtain⟨p,⟨o,e⟩,st⟩:=x;exact⟨st _ _ p fun o q=>k _ _ (.inl rfl) q,⟨o,k _ _ (.inl rfl) e⟩,st⟩
theorem yF.lt(x:yF P w H h)(e:H a=some o):a < h.objs.size:=(x a o e).lt
def yF.fresh(x:yF P w H h)(e:h.objs.size<=a):H a=none:=by
 cases q:H a with
 |none=>rfl
 |some u=>exact absurd (EN (x.lt q) e) (Ge _)
def yF.kept(x:yF P w H h)(k:∀b u,h.get? b=some u->h'.get? b=some u):yF P w H h':=fun a o e=>
 (x a o e).stay (fun b u _ q=>k b u q) (fun _ q=>q) fun _ _ q=>q
def yF.laid(x:yF P w H h)(k:∀b u,h.get? b=some u->h'.get? b=some u)(hp:h.objs.size<=a)(new:xP P w (upd H a o) h' a o):yF P w (upd H a o) h':=fun b u e=>by
 have hn:=x.fresh hp
 by_cases hb:b=a
 ·subst hb;rw[am]at e;cases e;exact new
 ·rw[ak hb]at e
  exact(x b u e).stay (fun c v _ q=>k c v q) (fun c q=>by rw[ak (au q hn)];exact q) fun c xs q=>by rw[ak (au q hn)];exact q
end
def Rd(H:Hp)(a:Addr)(u:HO):Prop:=H a=some u\/∃o,H a=some (.frz o u)
def Rd.ok{P:Program}{w:World}{H:Hp}{h:Heap}{a:Addr}{u:HO}(r:Rd H a u)(x:yF P w H h):xP P w H h a u:=by
 rcases r with r|⟨o,r⟩
 ·exact x a u r
 ·obtain⟨_,q⟩:=x a _ r
  exact q
noncomputable def t5:Option HO->Prop
 |some (.lst _)=>True
 |some (.dK _)=>True
 |some (.dT _)=>True
 |some (.set _ _)=>True
 |some (.ins _ _ _)=>True
 |some (.ext _)=>True
 |_=>False
section
variable {P:Program} {w:World} {H:Hp} {h h':Heap} {x e:Addr} {o':HO}
def yF.write(ok:yF P w H h)(mu:t5 (H x))(he:e=x\/H e=some (.own x))(k:∀b u,b≠e->h.get? b=some u->h'.get? b=some u)(A8:∃u,h'.get? e=some u)
  (new:xP P w (upd H x o') h' x o'):yF P w (upd H x o') h':=fun b u q=>by
 have Bb:∀c y,H c=some (.own y)->c≠x:=fun c y r z=>by subst z;rw[r]at mu;exact mu
 have BN:∀c xs,H c=some (.tup xs)->c≠x:=fun c xs r z=>by subst z;rw[r]at mu;exact mu
 by_cases hb:b=x
 ·subst hb;rw[am]at q;cases q;exact new
 ·rw[ak hb]at q
  by_cases AR:b=e
  ·have q':H b=some (.own x):=by
    rcases he with z|z
    ·exact absurd (AR.trans z) hb
    ·rw[AR];exact z
   rw[q]at q';cases q'
   obtain⟨v,hv⟩:=A8
   exact⟨v,by rw[AR];exact hv⟩
  ·refine(ok b u q).stay (fun c v hc r=>k c v ?_ r) (fun c r=>by rw[ak (Bb c b r)];exact r) fun c xs r=>by rw[ak (BN c xs r)];exact r
   rcases hc with rfl|hc
   ·exact AR
   ·rintro rfl
    rcases he with z|z
    ·exact Bb c b hc z
    ·rw[hc]at z;cases z;exact hb rfl
end
structure Un (fs ex:List Addr) (H H':Hp) (h h':Heap):Prop where
 keep:∀b o,h.get? b=some o->H b=none->b ∉ fs->b ∉ ex->h'.get? b=some o
 slot:∀b o,h.get? b=some o->H b=none->b∈fs->b ∉ ex->∃sl,h'.get? b=some { o with slots:=sl }
 free:∀b o,h.get? b=some o->H b=none->b ∉ ex->H' b=none
 there:∀b o,h.get? b=some o->b ∉ ex->∃o',h'.get? b=some o'
 tups:∀b xs,H b=some (.tup xs)->H' b=some (.tup xs)
 y8:∀b o u,H b=some (.frz o u)->H' b=some (.frz o u)
 zo:∀b ps,H b=some (.zp ps)->∃more,H' b=some (.zp (ps++more))
section
variable {fs fs' ex ex':List Addr} {H H1 H2:Hp} {h h1 h2 h':Heap} {a x e:Addr} {o:HO}
def Un.any(u:Un fs ex H H1 h h1){b:Addr}{ob:Obj}(q:h.get? b=some ob)(n:H b=none)(hx:b ∉ ex):∃sl,h1.get? b=some { ob with slots:=sl }:=by
 by_cases hb:b∈fs
 ·exact u.slot b ob q n hb hx
 ·exact⟨ob.slots,u.keep b ob q n hb hx⟩
def Un.kept(k:∀b u,h.get? b=some u->h'.get? b=some u):Un fs ex H H h h':=
 ⟨fun b ob q _ _ _=>k b ob q,fun b ob q _ _ _=>⟨ob.slots,k b ob q⟩,fun _ _ _ n _=>n,fun b ob q _=>⟨ob,k b ob q⟩,fun _ _ q=>q,fun _ _ _ q=>q,fun _ ps q=>⟨#[],by rw[q];simp⟩⟩
def Un.refl:Un fs ex H H h h:=Un.kept fun _ _ q=>q
def Un.laid(k:∀b u,h.get? b=some u->h'.get? b=some u)(hp:h.objs.size<=a)(hn:H a=none):Un fs ex H (upd H a o) h h' where
 keep:=fun b u q _ _ _=>k b u q
 slot:=fun b u q _ _ _=>⟨u.slots,k b u q⟩
 free:=fun b u q n _=>by rw[ak (ES (EN (EK q) hp))];exact n
 there:=fun b u q _=>⟨u,k b u q⟩
 tups:=fun b xs q=>by rw[ak (au q hn)];exact q
 y8:=fun b u xs q=>by rw[ak (au q hn)];exact q
 zo:=fun b ps q=>⟨#[],by rw[ak (au q hn),q];simp⟩
def Un.write(mu:t5 (H x))(he:e=x\/H e=some (.own x))(k:∀b u,b≠e->h.get? b=some u->h'.get? b=some u)(A8:∃u,h'.get? e=some u):Un fs ex H (upd H x o) h h':=by
 have hx:∀b,H b=none->b≠x:=fun b n z=>by subst z;rw[n]at mu;exact mu
 have hb:∀b,H b=none->b≠e:=fun b n z=>by
  subst z
  rcases he with r|r
  ·exact hx b n r
  ·rw[n]at r;cases r
 have hm:∀b u,H b=some u->¬t5 (some u)->b≠x:=fun b u q nm z=>by subst z;rw[q]at mu;exact nm mu
 refine⟨fun b u q n _ _=>k b u (hb b n) q,fun b u q n _ _=>⟨u.slots,k b u (hb b n) q⟩,fun b u q n _=>by rw[ak (hx b n)];exact n,fun b u q _=>?_,
  fun b xs q=>by rw[ak (hm b _ q fun z=>z)];exact q,fun b u xs q=>by rw[ak (hm b _ q fun z=>z)];exact q,fun b ps q=>⟨#[],by rw[ak (hm b _ q fun z=>z),q];simp⟩⟩
 by_cases AR:b=e
 ·subst AR;exact A8
 ·exact⟨u,k b u AR q⟩
end
noncomputable def vt(h:Heap)(H:Hp):List Addr:=(List.range h.objs.size).filter fun a=>(H a).isSome
noncomputable def gq(h:Heap)(H:Hp):Heap:=PySem.W.hideAll h (vt h H)
def lI(h:Heap)(H:Hp):(gq h H).objs.size=h.objs.size:=PySem.W.hideAll_size _ _
def mB{h:Heap}{H:Hp}{b:Addr}{o:Obj}(e:h.get? b=some o)(n:H b=none):(gq h H).get? b=some o:=
 PySem.W.hideAll_get _ e fun hm=>by
  have q:(H b).isSome=true:=(FW.mp hm).2
  rw[n]at q;simp at q
def oO{h:Heap}{H:Hp}{b:Addr}{o:Obj}(e:(gq h H).get? b=some o):h.get? b=some o/\H b=none:=by
 have e':h.get? b=some o:=PySem.W.of_hideAll (vt h H) e
 refine⟨e',?_⟩
 cases q:H b with
 |none=>rfl
 |some x=>
  have hm:b∈vt h H:=FW.mpr ⟨HH.mpr (EK e'),by simp[q]⟩
  have z:(gq h H).get? b=none:=PySem.W.hideAll_none (vt h H) hm
  rw[z]at e;cases e
structure Mod (K:Vo) (mg:Vr) (base:Heap):Prop where
 AS:K.In base
 glob:base.Ns mainGlobals mg
 blt:∃mb,base.Ns builtinsNs mb/\∀x:Str,x ≠ "__name__"->mb x=bootBuiltins x
 nolimit:base.NoLimit
structure Cx where
 prog:Program
 w:World
 K:Vo
 mg:Vr
 base:Heap
 A:Around
 N:List Str
 s₀:Shared
 H₀:Hp
 env:Env
 outer:List Env
 stack:List Env
 ex:List Addr
 fn:Str->Bool
 calm:Bool
 pn:Va
 xe:Value->Shared->Prop
noncomputable def frs(l:List Env):List Addr:=l.filterMap (·.frame)
noncomputable abbrev Cx.fs(X:Cx):List Addr:=frs X.outer
def t6(sc:Scope)(x:Str):Prop:=sc.names.lookup x=some .local\/sc.names.lookup x=some .cell\/sc.names.lookup x=some .free
def oK(sc:Scope)(x:Str):Prop:=sc.names.lookup x=some .local\/sc.names.lookup x=some .cell
def vM(env:Env)(h:Heap)(m:Vr)(x:Str)(u:Value):Prop:=
 (env.kindOf x=some .local/\m x=some u)\/((env.kindOf x=some .cell\/env.kindOf x=some .free)/\∃c,env.cells.lookup x=some c/\h.IsCell c (some u))
structure Cx.Ok (X:Cx):Prop where
 mod:Mod X.K X.mg X.base
 kind:X.env.scope.kind = .function
 glob:X.env.globals=mainGlobals
 blt:X.env.builtins=builtinsNs
 above:X.s₀.heap.objs.size<=X.env.locals
 inj:∀x y c,X.env.cells.lookup x=some c->X.env.cells.lookup y=some c->x=y
 has:∀x,(X.env.kindOf x=some .cell\/X.env.kindOf x=some .free)->∃c,X.env.cells.lookup x=some c
 AC:∀x c,X.fn x=true->X.env.cells.lookup x=some c->X.s₀.heap.objs.size<=c
 hd:X.calm=true->X.A.handled=none
 frames:X.A.frames=some X.stack
 stk:X.stack=X.outer\/(X.stack=X.env::X.outer/\X.env.frame=some X.env.locals)
 Bt:∀b∈X.ex,b≠X.env.locals/\∀x c,X.env.cells.lookup x=some c->c≠b
 bs:∀b o,X.base.get? b=some o->X.s₀.heap.get? b=some o/\X.H₀ b=none
 Ad:X.base.objs.size<=X.s₀.heap.objs.size
 zK:∀b o,X.base.get? b=some o->b ∉ X.ex
 zX:∀b∈X.ex,b ∉ X.fs
 yQ:X.s₀.heap.FunFrames X.base X.outer
 Ar:∀b∈X.fs,X.H₀ b=none
structure Inv (X:Cx) (pins:Va) (σ:List (Option V)) (H:Hp) (s:Shared):Prop where
 ok:X.Ok
 os:s.os=X.s₀.os
 bare:AllBare s.gens
 base:Un X.fs X.ex X.H₀ H X.s₀.heap s.heap
 loc:∃m,s.heap.Ns X.env.locals m/\∀(i:Nat) (x:Str) (v:V),X.N[i]?=some x->σ[i]?=some (some v)->t6 X.env.scope x->∃u,RelV v u/\vM X.env s.heap m x u
 cell:∀x c,X.env.cells.lookup x=some c->∃v,s.heap.IsCell c v
 free:H X.env.locals=none
 yu:∀x c,X.env.cells.lookup x=some c->H c=none\/(X.fn x=false/\∃o u,H c=some (.frz o u))
 pin:∀p∈X.pn++pins,s.heap.get? p.1=some p.2/\H p.1=none/\p.1≠X.env.locals/\p.1 ∉ X.fs/\∀v,p.2.data ≠ .cell v
 hok:yF X.prog X.w H s.heap
 len:σ.length=X.N.length
section
variable {X:Cx} {pins:Va} {σ:List (Option V)} {H H':Hp} {s:Shared} {h':Heap}
def Cx.Ok.BO(ok:X.Ok){b:Addr}{o:Obj}(e:X.base.get? b=some o):b ∉ X.fs:=fun hb=>by
 have:=(ok.yQ.mem hb).1
 rw[e]at this;cases this
theorem Inv.bs(I:Inv X pins σ H s):∀b o,X.base.get? b=some o->s.heap.get? b=some o/\H b=none:=fun b o e=>
 ⟨I.base.keep b o (I.ok.bs b o e).1 (I.ok.bs b o e).2 (I.ok.BO e) (I.ok.zK b o e),I.base.free b o (I.ok.bs b o e).1 (I.ok.bs b o e).2 (I.ok.zK b o e)⟩
def Inv.bk(I:Inv X pins σ H s):∀b o,X.base.get? b=some o->s.heap.get? b=some o:=fun b o e=>(I.bs b o e).1
theorem Inv.mod(I:Inv X pins σ H s):Mod X.K X.mg X.base:=I.ok.mod
def Inv.AD(I:Inv X pins σ H s):X.K.In s.heap:=I.ok.mod.AS.keeps I.bk
theorem Inv.lt(I:Inv X pins σ H s):X.env.locals < s.heap.objs.size:=let ⟨_,hn,_⟩:=I.loc;hn.lt
def Inv.sz(I:Inv X pins σ H s):X.s₀.heap.objs.size<=s.heap.objs.size:=EW I.ok.above (GU I.lt)
def Inv.Bc(I:Inv X pins σ H s){a:Addr}(h:s.heap.objs.size<=a):a ∉ X.fs:=fun hb=>by
 obtain⟨_,o,ho,_⟩:=I.ok.yQ.mem hb
 exact absurd (EN (EK ho) (EW I.sz h)) (Ge _)
def Inv.AE(I:Inv X pins σ H s):∀x c,X.env.cells.lookup x=some c->c≠X.env.locals:=fun x c e z=>by
 obtain⟨v,o,ho,hd⟩:=I.cell x c e
 obtain⟨m,⟨o',es,ep,ho',hd',_⟩,_⟩:=I.loc
 rw[z,ho']at ho;cases ho;rw[hd']at hd;cases hd
theorem Inv.yQ(I:Inv X pins σ H s):s.heap.FunFrames X.base X.outer:=by
 have all:∀(l:List Env),(∀b∈frs l,b∈X.fs)->X.s₀.heap.FunFrames X.base l->s.heap.FunFrames X.base l:=by
  intro l
  induction l with
  |nil=>intro _ _;trivial
  |cons env r ih=>
   intro hs hl
   obtain⟨hk,⟨L,o,hf,hn,ho,hd⟩,hr⟩:=hl
   have hL:L∈X.fs:=hs L (by unfold frs;rw[HD,hf];exact FJ)
   obtain⟨sl,e⟩:=I.base.slot L o ho (I.ok.Ar L hL) hL fun z=>I.ok.zX L z hL
   exact⟨hk,⟨L,_,hf,hn,e,hd⟩,ih (fun b hb=>hs b (by unfold frs;rw[HD,hf];exact Fi _ hb)) hr⟩
 exact all X.outer (fun _ hb=>hb) I.ok.yQ
theorem Inv.stack(I:Inv X pins σ H s):s.heap.FunFrames X.base X.stack:=by
 rcases I.ok.stk with e|⟨e,hf⟩
 ·rw[e];exact I.yQ
 ·rw[e]
  obtain⟨m,hn,_⟩:=I.loc
  refine .cons (by rw[I.ok.kind];decide) hf hn ?_ I.yQ
  exact Heap.get?_none_of_le (EW I.ok.Ad I.ok.above)
def Inv.yY(I:Inv X pins σ H s):∀b∈frs X.stack,b∈X.env.locals::X.fs:=fun b hb=>by
 rcases I.ok.stk with e|⟨e,hf⟩
 ·rw[e]at hb;exact Fi _ hb
 ·rw[e]at hb
  unfold frs at hb
  rw[HD,hf]at hb
  exact hb
def Inv.zR(I:Inv X pins σ H s):∀b∈frs X.stack,H b=none:=fun b hb=>by
 rcases EX.mp (I.yY b hb)with e|hb
 ·rw[e];exact I.free
 ·obtain⟨_,o,ho,_⟩:=I.ok.yQ.mem hb
  exact I.base.free b o ho (I.ok.Ar b hb) fun z=>I.ok.zX b z hb
def Inv.step{g':Array GenState}{t':Nat}{d':Drawn}{ch:List Addr}(I:Inv X pins σ H s)
  (hch:∀b∈ch,(b∈X.ex\/X.s₀.heap.objs.size<=b)/\b≠X.env.locals/\(∀x c,X.env.cells.lookup x=some c->c≠b)/\∀p∈X.pn++pins,p.1≠b)
  (keep:∀b o,b≠X.env.locals->b ∉ X.fs->b ∉ ch->s.heap.get? b=some o->H b=none->h'.get? b=some o)
  (slot:∀b o,b≠X.env.locals->b∈X.fs->b ∉ ch->s.heap.get? b=some o->H b=none->∃sl,h'.get? b=some { o with slots:=sl }) (free:∀b o,b ∉ ch->s.heap.get? b=some o->H b=none->H' b=none)
  (there:∀b o,b ∉ ch->s.heap.get? b=some o->∃o',h'.get? b=some o')
  (tups:∀b xs,H b=some (.tup xs)->H' b=some (.tup xs)) (y8:∀b o u,H b=some (.frz o u)->H' b=some (.frz o u)) (zo:∀b ps,H b=some (.zp ps)->∃more,H' b=some (.zp (ps++more)))
  (ns:∀m,s.heap.Ns X.env.locals m->h'.Ns X.env.locals m) (hok:yF X.prog X.w H' h') (hg:AllBare g') :
  Inv X pins σ H' { s with heap:=h',gens:=g',drawn:=d',toks:=t' }:=by
 have CL:∀b o,X.s₀.heap.get? b=some o->b≠X.env.locals:=fun b o e=>ES (EN (EK e) I.ok.above)
 have Bu:∀b o,X.s₀.heap.get? b=some o->b ∉ X.ex->b ∉ ch:=fun b o e hx hb=>by
  rcases(hch b hb).1 with z|z
  ·exact hx z
  ·exact absurd (EN (EK e) z) (Ge _)
 have cellK:∀x c,X.env.cells.lookup x=some c->∀v,s.heap.IsCell c v->h'.IsCell c v:=fun x c e v ⟨o,ho,hd⟩=>by
  have Be:c ∉ ch:=fun z=>(hch c z).2.2.1 x c e rfl
  rcases I.yu x c e with hn|⟨_,ob,u,hz⟩
  ·by_cases hc:c∈X.fs
   ·obtain⟨sl,q⟩:=slot c o (I.AE x c e) hc Be ho hn
    exact⟨_,q,hd⟩
   ·exact⟨o,keep c o (I.AE x c e) hc Be ho hn,hd⟩
  ·have e1:s.heap.get? c=some ob:=(I.hok c _ hz).1
   have e2:h'.get? c=some ob:=(hok c _ (y8 c ob u hz)).1
   rw[ho]at e1
   cases e1
   exact⟨_,e2,hd⟩
 refine⟨I.ok,I.os,hg,⟨fun b o e n hb hx=>?_,fun b o e n hb hx=>?_,fun b o e n hx=>?_,fun b o e hx=>?_,fun b xs e=>tups b xs (I.base.tups b xs e),fun b o xs e=>y8 b o xs (I.base.y8 b o xs e),fun b ps e=>?_⟩,?_,fun x c e=>?_,?_,fun x c e=>?_,fun p hp=>?_,hok,I.len⟩
 ·exact keep b o (CL b o e) hb (Bu b o e hx) (I.base.keep b o e n hb hx) (I.base.free b o e n hx)
 ·obtain⟨sl,e1⟩:=I.base.slot b o e n hb hx
  obtain⟨sl',e2⟩:=slot b _ (CL b o e) hb (Bu b o e hx) e1 (I.base.free b o e n hx)
  exact⟨sl',e2⟩
 ·obtain⟨o',e1⟩:=I.base.there b o e hx
  exact free b o' (Bu b o e hx) e1 (I.base.free b o e n hx)
 ·obtain⟨o',e1⟩:=I.base.there b o e hx
  exact there b o' (Bu b o e hx) e1
 ·obtain⟨m1,e1⟩:=I.base.zo b ps e
  obtain⟨m2,e2⟩:=zo b _ e1
  exact⟨m1++m2,by rw[e2,Array.append_assoc]⟩
 ·obtain⟨m,hn,hl⟩:=I.loc
  refine⟨m,ns m hn,fun i x v e1 e2 e3=>?_⟩
  obtain⟨u,r,l⟩:=hl i x v e1 e2 e3
  refine⟨u,r,?_⟩
  rcases l with l|⟨k,c,e,z⟩
  ·exact .inl l
  ·exact .inr ⟨k,c,e,cellK x c e _ z⟩
 ·obtain⟨v,z⟩:=I.cell x c e
  exact⟨v,cellK x c e v z⟩
 ·obtain⟨m,⟨o,_,_,ho,_⟩,_⟩:=I.loc
  exact free _ o (fun z=>(hch _ z).2.1 rfl) ho I.free
 ·rcases I.yu x c e with hn|⟨hf,ob,u,hz⟩
  ·obtain⟨v,o,ho,hd⟩:=I.cell x c e
   exact .inl (free c o (fun z=>(hch c z).2.2.1 x c e rfl) ho hn)
  ·exact .inr ⟨hf,ob,u,y8 c ob u hz⟩
 ·obtain⟨e,n,ne,nf,d⟩:=I.pin p hp
  have Be:p.1 ∉ ch:=fun z=>(hch p.1 z).2.2.2 p hp rfl
  exact⟨keep p.1 p.2 ne nf Be e n,free p.1 p.2 Be e n,ne,nf,d⟩
def Inv.un{t':Nat}(I:Inv X pins σ H s)(u:Un X.fs [] H H' s.heap h')(hok:yF X.prog X.w H' h'):Inv X pins σ H' { s with heap:=h',toks:=t' }:=by
 obtain⟨m,⟨o,es,ep,ho,r⟩,_⟩:=id I.loc
 obtain⟨sl,hL⟩:=u.any ho I.free (by simp)
 exact I.step (g':=s.gens) (d':=s.drawn) (ch:=[]) (fun _ z=>nomatch z) (fun b o _ hb _ e n=>u.keep b o e n hb (by simp)) (fun b o _ hb _ e n=>u.slot b o e n hb (by simp)) (fun b o _ e n=>u.free b o e n (by simp)) (fun b o _ e=>u.there b o e (by simp)) u.tups u.y8 u.zo (fun m' hm=>by
  obtain⟨o',es',BP,ho',r'⟩:=hm
  rw[ho]at ho';cases ho'
  exact⟨_,es',BP,hL,r'⟩) hok I.bare
def Inv.call{g':Array GenState}{t':Nat}{d':Drawn}{ch:List Addr}(I:Inv X pins σ H s)(u:Un (frs X.stack) ch H H' s.heap h')(hok:yF X.prog X.w H' h')(hg:AllBare g')
  (hch:∀b∈ch,(b∈X.ex\/X.s₀.heap.objs.size<=b)/\b≠X.env.locals/\(∀x c,X.env.cells.lookup x=some c->c≠b)/\∀p∈X.pn++pins,p.1≠b) :
  Inv X pins σ H' { s with heap:=h',gens:=g',drawn:=d',toks:=t' }:=by
 obtain⟨m,⟨o,es,ep,ho,r⟩,_⟩:=id I.loc
 obtain⟨sl,hL⟩:=u.any ho I.free fun z=>(hch _ z).2.1 rfl
 exact I.step (ch:=ch) hch (fun b o hL hb hc e n=>u.keep b o e n (fun z=>(EX.mp (I.yY b z)).elim hL hb) hc) (fun b o _ _ hc e n=>u.any e n hc) (fun b o hc e n=>u.free b o e n hc) (fun b o hc e=>u.there b o e hc) u.tups u.y8 u.zo (fun m' hm=>by
  obtain⟨o',es',BP,ho',r'⟩:=hm
  rw[ho]at ho';cases ho'
  exact⟨_,es',BP,hL,r'⟩) hok hg
def Inv.turned{t':Nat}{it:Addr}(I:Inv X pins σ H s)(k:∀b o,b≠it->s.heap.get? b=some o->h'.get? b=some o)(hn:H it=none)(hL:it≠X.env.locals)
  (h1:it∈X.ex\/X.s₀.heap.objs.size<=it) (h2:∀x c,X.env.cells.lookup x=some c->c≠it) (h3:∀p∈X.pn++pins,p.1≠it):Inv X pins σ H { s with heap:=h',toks:=t' }:=by
 have CM:∀b u,H b=some u->b≠it:=fun b u e z=>by rw[z,hn]at e;cases e
 refine I.step (g':=s.gens) (d':=s.drawn) (ch:=[it]) (fun b hb=>?_) (fun b o _ _ hc e _=>k b o (fun z=>hc (by simp[z])) e) (fun b o _ _ hc e _=>⟨o.slots,k b o (fun z=>hc (by simp[z])) e⟩) (fun _ _ _ _ n=>n)
  (fun b o hc e=>⟨o,k b o (fun z=>hc (by simp[z])) e⟩) (fun _ _ e=>e) (fun _ _ _ e=>e) (fun b ps e=>⟨#[],by rw[e];simp⟩) (fun m hm=>?_) (fun b u e=>?_) I.bare
 ·have e:b=it:=by simpa using hb
  subst e
  exact⟨h1,hL,h2,h3⟩
 ·obtain⟨o,es,ep,ho,r⟩:=hm
  exact⟨o,es,ep,k _ o (F3 hL) ho,r⟩
 ·refine(I.hok b u e).stay (fun c v hc q=>k c v ?_ q) (fun _ q=>q) fun _ _ q=>q
  rcases hc with z|z
  ·rw[z];exact CM b u e
  ·exact CM c _ z
def Inv.tok(I:Inv X pins σ H s)(t:Nat):Inv X pins σ H { s with toks:=t }:=I.un (h':=s.heap) (t':=t) Un.refl I.hok
theorem Inv.kept{t':Nat}(I:Inv X pins σ H s)(k:∀b u,s.heap.get? b=some u->h'.get? b=some u):Inv X pins σ H { s with heap:=h',toks:=t' }:=I.un (Un.kept k) (I.hok.kept k)
theorem Inv.laid{a:Addr}{o:HO}{t':Nat}(I:Inv X pins σ H s)(k:∀b u,s.heap.get? b=some u->h'.get? b=some u)(hp:s.heap.objs.size<=a)(new:xP X.prog X.w (upd H a o) h' a o) :
  Inv X pins σ (upd H a o) { s with heap:=h',toks:=t' }:=I.un (Un.laid k hp (I.hok.fresh hp)) (I.hok.laid k hp new)
theorem Inv.write{x e:Addr}{o:HO}{t':Nat}(I:Inv X pins σ H s)(mu:t5 (H x))(he:e=x\/H e=some (.own x))(k:∀b u,b≠e->s.heap.get? b=some u->h'.get? b=some u)(A8:∃u,h'.get? e=some u)
  (new:xP X.prog X.w (upd H x o) h' x o):Inv X pins σ (upd H x o) { s with heap:=h',toks:=t' }:=I.un (Un.write mu he k A8) (I.hok.write mu he k A8 new)
def Inv.weak{σ':List (Option V)}(I:Inv X pins σ H s)(hl:σ'.length=σ.length)(w:∀(i:Nat) v,σ'[i]?=some (some v)->σ[i]?=some (some v)):Inv X pins σ' H s:=
 ⟨I.ok,I.os,I.bare,I.base,let ⟨m,hn,hl'⟩:=I.loc;⟨m,hn,fun i x v e1 e2 e3=>hl' i x v e1 (w i v e2) e3⟩,I.cell,I.free,I.yu,I.pin,I.hok,hl.trans I.len⟩
def Inv.zc{AF:Va}(I:Inv X pins σ H s)(h:∀p∈AF,s.heap.get? p.1=some p.2/\H p.1=none/\p.1≠X.env.locals/\p.1 ∉ X.fs/\∀v,p.2.data ≠ .cell v):Inv X AF σ H s:=
 ⟨I.ok,I.os,I.bare,I.base,I.loc,I.cell,I.free,I.yu,fun p hp=>(Ff.mp hp).elim (fun z=>I.pin p (Gq _ z)) (h p),I.hok,I.len⟩
def jB{N:Vs}(hN:N.Nodup){i j:Nat}{x:Str}(a:N[i]?=some x)(b:N[j]?=some x):i=j:=by
 obtain⟨h1,e1⟩:=FE.mp a
 obtain⟨h2,e2⟩:=FE.mp b
 exact(List.getElem_inj hN).mp (e1.trans e2.symm)
def ik {M : Model} {A : Around} {E : Value -> Shared -> Prop} {i : Nat} {x : Str} {v : V} {u : Value} {Q : Unit -> Shared -> Prop} (I : Inv X pins σ H s) (hN : X.N.Nodup) (hi : X.N[i]? = some x) (hx : oK X.env.scope x) (r : RelV v u)
  (h : ∀ s', Inv X pins (σ.set i (some v)) H s' -> (∃ a, Heap.SameBut a s.heap s'.heap /\ (a = X.env.locals \/ X.env.cells.lookup x = some a)) -> Q () s') (hf : X.fn x = true \/ X.env.scope.names.lookup x = some .local := by first | exact .inl rfl | exact .inr rfl | assumption) : wpAny M A (storeName X.env x u) Q E s := by
 obtain ⟨m, hn, hl⟩ := id I.loc
 have hcls : (X.env.scope.kind == .class || (X.env.scope.kind == .module && X.env.locals != X.env.globals)) = false := by rw [I.ok.kind]; rfl
 have CO : i < σ.length := by rw [I.len]; exact (FE.mp hi).1
 have AE := I.AE
 have tracked : ∀ {a : Addr} {h' : Heap}, (∃ o, s.heap.get? a = some o /\ H a = none) -> Heap.SameBut a s.heap h' -> yF X.prog X.w H h' := fun {a h'} ha hs b ob e => by
  obtain ⟨_, _, hfree⟩ := ha
  refine (I.hok b ob e).stay (fun c w' hc q => (hs.2 c ?_).trans q) (fun _ q => q) fun _ _ q => q
  rintro rfl
  rcases hc with rfl | hc
  ·rw [hfree] at e; cases e
  ·rw [hfree] at hc; cases hc
 rcases hx with hk | hk
 ·refine wpAny_storeName_local hk hn (fun h' hn' hs => ?_) hcls
  obtain ⟨oL, _, _, DH, _⟩ := id hn
  refine h _ ⟨I.ok, I.os, I.bare, ⟨fun b o e n hb hx => ?_, fun b o e n hb hx => ?_, I.base.free, fun b o e hx => ?_, I.base.tups, I.base.y8, I.base.zo⟩, ⟨_, hn', fun j y v' e1 e2 e3 => ?_⟩, fun y c e => ?_, I.free, I.yu, fun p hp => ?_, tracked ⟨oL, DH, I.free⟩ hs, by simpa using I.len⟩ ⟨_, hs, .inl rfl⟩
  ·exact (hs.2 b (ES (EN (EK e) I.ok.above))).trans (I.base.keep b o e n hb hx)
  ·obtain ⟨sl, e1⟩ := I.base.slot b o e n hb hx
   exact ⟨sl, (hs.2 b (ES (EN (EK e) I.ok.above))).trans e1⟩
  ·obtain ⟨o', e1⟩ := I.base.there b o e hx
   exact ⟨o', (hs.2 b (ES (EN (EK e) I.ok.above))).trans e1⟩
  ·by_cases hj : j = i
   ·subst hj
    rw [hi] at e1; cases e1
    rw [List.getElem?_set_self CO] at e2
    cases e2
    exact ⟨u, r, .inl ⟨hk, by simp⟩⟩
   ·rw [List.getElem?_set_ne (F3 hj)] at e2
    obtain ⟨u', r', q⟩ := hl j y v' e1 e2 e3
    refine ⟨u', r', ?_⟩
    rcases q with ⟨k, e⟩ | ⟨k, c, e, z⟩
    ·refine .inl ⟨k, ?_⟩
     have : y ≠ x := fun e => hj (jB hN e1 (e ▸ hi))
     simp [this, e]
    ·exact .inr ⟨k, c, e, z.sameBut hs (AE y c e)⟩
  ·obtain ⟨w', z⟩ := I.cell y c e
   exact ⟨w', z.sameBut hs (AE y c e)⟩
  ·obtain ⟨e, n, ne, nf, d⟩ := I.pin p hp
   exact ⟨(hs.2 p.1 ne).trans e, n, ne, nf, d⟩
 ·have hfn : X.fn x = true := by
   rcases hf with z | z
   ·exact z
   ·rw [z] at hk; cases hk
  obtain ⟨c, hc⟩ := I.ok.has x (.inl hk)
  obtain ⟨w', z⟩ := I.cell x c hc
  refine wpAny_storeName_cell I.ok.kind hk hc z (fun h' hc' hs => ?_)
  obtain ⟨oc, hoc, BQ⟩ := id z
  refine h { s with heap := h' } ⟨I.ok, I.os, I.bare, ⟨fun b o e n hb hx => ?_, fun b o e n hb hx => ?_, I.base.free, fun b o e hx => ?_, I.base.tups, I.base.y8, I.base.zo⟩, ⟨m, hn.sameBut hs (F3 (AE x c hc)), fun j y v' e1 e2 e3 => ?_⟩, fun y c' e => ?_, I.free, I.yu, fun p hp => ?_, tracked ⟨oc, hoc, (I.yu x c hc).resolve_right fun ⟨z, _⟩ => by rw [hfn] at z; cases z⟩ hs, by simpa using I.len⟩ ⟨c, hs, .inr hc⟩
  ·exact (hs.2 b (ES (EN (EK e) (I.ok.AC x c hfn hc)))).trans (I.base.keep b o e n hb hx)
  ·obtain ⟨sl, e1⟩ := I.base.slot b o e n hb hx
   exact ⟨sl, (hs.2 b (ES (EN (EK e) (I.ok.AC x c hfn hc)))).trans e1⟩
  ·obtain ⟨o', e1⟩ := I.base.there b o e hx
   exact ⟨o', (hs.2 b (ES (EN (EK e) (I.ok.AC x c hfn hc)))).trans e1⟩
  ·by_cases hj : j = i
   ·subst hj
    rw [hi] at e1; cases e1
    rw [List.getElem?_set_self CO] at e2
    cases e2
    exact ⟨u, r, .inr ⟨.inl hk, c, hc, hc'⟩⟩
   ·rw [List.getElem?_set_ne (F3 hj)] at e2
    obtain ⟨u', r', q⟩ := hl j y v' e1 e2 e3
    refine ⟨u', r', ?_⟩
    rcases q with q | ⟨k, c', e, z'⟩
    ·exact .inl q
    ·refine .inr ⟨k, c', e, z'.sameBut hs ?_⟩
     rintro rfl
     exact hj (jB hN e1 (I.ok.inj _ _ _ e hc ▸ hi))
  ·by_cases hcc : c' = c
   ·subst hcc; exact ⟨_, hc'⟩
   ·obtain ⟨w2, z2⟩ := I.cell y c' e
    exact ⟨w2, z2.sameBut hs hcc⟩
  ·obtain ⟨e, n, ne, nf, d⟩ := I.pin p hp
   refine ⟨(hs.2 p.1 ?_).trans e, n, ne, nf, d⟩
   intro q
   rw [q, hoc] at e
   have q' : oc = p.2 := Fy e
   exact d w' (by rw [<- q']; exact BQ)
def bF{M:Model}{A:Around}{E:Vq}{i:Nat}{x:Str}{v:V}{u:Value}{Q:Unit->Shared->Prop}(I:Inv X pins σ H s)(hN:X.N.Nodup)(hi:X.N[i]?=some x)(hx:oK X.env.scope x)(r:RelV v u)
  (h:∀s',Inv X pins (σ.set i (some v)) H s'->Q () s') (hf:X.fn x=true\/X.env.scope.names.lookup x=some .local:=by first|exact .inl rfl|exact .inr rfl|assumption):wpAny M A (storeName X.env x u) Q E s:=
 ik I hN hi hx r (fun s' I' _=>h s' I') hf
def Inv.Bf{s':Shared}{ch:List Addr}(I:Inv X pins σ H s)(ho:s'.os=s.os)(u:Un (frs X.stack) ch H H' s.heap s'.heap)(hok:yF X.prog X.w H' s'.heap)(hg:AllBare s'.gens)
  (hch:∀b∈ch,(b∈X.ex\/X.s₀.heap.objs.size<=b)/\b≠X.env.locals/\(∀x c,X.env.cells.lookup x=some c->c≠b)/\∀p∈X.pn++pins,p.1≠b):Inv X pins σ H' s':=by
 obtain⟨h',g',d',t',o'⟩:=s'
 have e:o'=s.os:=ho
 subst e
 exact I.call (g':=g') (t':=t') (d':=d') u hok hg hch
end
abbrev XK:=Value->Option Addr->Hp->Prop
abbrev St:=List (Option V)
abbrev VK:=V->Hp->Prop
abbrev TE:=St->Hp->VK->Prop
abbrev TT:=St->Hp->(Bool->Hp->Prop)->Prop
abbrev TA:=St->Hp->(List V->Hp->Prop)->Prop
structure ki where
 nx:St->Hp->Prop
 rt:VK
 bk:St->Hp->Prop:=fun _ _=>False
 ct:St->Hp->Prop:=fun _ _=>False
abbrev TS:=ki->St->Hp->Prop
def EP(X:Cx)(pins:Va)(σ:St)(Q:VK)(u:Value)(s':Shared):Prop:=∃v H',Inv X pins σ H' s'/\RelV v u/\Q v H'
def TP(X:Cx)(pins:Va)(σ:St)(Q:Bool->Hp->Prop)(b:Bool)(s':Shared):Prop:=∃H',Inv X pins σ H' s'/\Q b H'
def AP(X:Cx)(pins:Va)(σ:St)(Q:List V->Hp->Prop)(us:Vv)(s':Shared):Prop:=∃vs H',Inv X pins σ H' s'/\Vals vs us/\Q vs H'
def SP(X:Cx)(pins:Va)(D:ki)(f:Flow)(s':Shared):Prop:=
 match f with
 | .next=>∃σ' H',Inv X pins σ' H' s'/\D.nx σ' H'
 | .brk=>∃σ' H',Inv X pins σ' H' s'/\D.bk σ' H'
 | .cont=>∃σ' H',Inv X pins σ' H' s'/\D.ct σ' H'
 | .ret u=>∃v σ' H',Inv X pins σ' H' s'/\RelV v u/\D.rt v H'
def PE(X:Cx)(e:Expr)(t:TE):Prop:=
 ∀(pins:Va) (s:Shared) (σ:St) (H:Hp) (Q:VK),Inv X pins σ H s->t σ H Q->wpAny (model X.prog X.w) X.A (eval e X.env) (EP X pins σ Q) X.xe s
def PT(X:Cx)(e:Expr)(t:TT):Prop:=
 ∀(pins:Va) (s:Shared) (σ:St) (H:Hp) (Q:Bool->Hp->Prop),Inv X pins σ H s->t σ H Q->wpAny (model X.prog X.w) X.A (isTrue e X.env (eval e X.env)) (TP X pins σ Q) X.xe s
def PW(X:Cx)(e:Expr)(t:TT):Prop:=
 ∀(whole:Sem Value) (pins:Va) (s:Shared) (σ:St) (H:Hp) (Q:Bool->Hp->Prop),Inv X pins σ H s->t σ H Q->wpAny (model X.prog X.w) X.A (isTrue e X.env whole) (TP X pins σ Q) X.xe s
def PW.pt{X:Cx}{e:Expr}{t:TT}(h:PW X e t):PT X e t:=h _
def PA(X:Cx)(es:List Expr)(t:TA):Prop:=
 ∀(pos:Pos) (pins:Va) (s:Shared) (σ:St) (H:Hp) (Q:List V->Hp->Prop),Inv X pins σ H s->t σ H Q->wpAny (model X.prog X.w) X.A (spliced (backTo pos (starEach es X.env))) (AP X pins σ Q) X.xe s
def PS(X:Cx)(st:Stmt)(t:TS):Prop:=
 ∀(pins:Va) (s:Shared) (σ:St) (H:Hp) (D:ki),Inv X pins σ H s->t D σ H->wpAny (model X.prog X.w) X.A (exec st X.env) (SP X pins D) X.xe s
def zB(X:Cx)(st:List Stmt)(t:TS):Prop:=
 ∀(pins:Va) (s:Shared) (σ:St) (H:Hp) (D:ki),Inv X pins σ H s->t D σ H->wpAny (model X.prog X.w) X.A (execs st X.env) (SP X pins D) X.xe s
def xI{α:Type}{t:Sem α}{Q Q':α->Shared->Prop}{M:Model}{A:Around}{E:Vq}{s:Shared}(h:wpAny M A t Q E s)(hQ:∀a s,Q a s->Q' a s):wpAny M A t Q' E s:=F7 h hQ fun _ _ x=>x
section
variable {X:Cx}
def t7(i:Nat):TE:=fun σ H Q=>∃v,σ[i]?=some (some v)/\Q v H
def tC(v:V):TE:=fun _ H Q=>Q v H
def mC{i:Nat}{x:Str}{pos:Pos}(hN:X.N[i]?=some x)(hv:t6 X.env.scope x)(hd:(x == ("__debug__":Str))=false:=by decide)(hcd:(x == ("__classdict__":Str))=false:=by decide):PE X (.Name x pos) (t7 i):=by
 intro pins s σ H Q I h
 obtain⟨v,e,h⟩:=h
 obtain⟨m,hn,hl⟩:=I.loc
 obtain⟨u,r,l⟩:=hl i x v hN e hv
 have fin:EP X pins σ Q u s:=⟨v,H,I,r,h⟩
 rcases l with⟨hk,hm⟩|⟨hk,c,hc,hcell⟩
 ·exact wpAny_Name (wpAny_loadName_local I.ok.kind hk hn hm fin) hd
 ·rcases hk with hk|hk
  ·exact wpAny_Name (wpAny_loadName_cell I.ok.kind hk hc hcell fin) hd
  ·exact wpAny_Name (wpAny_loadName_free I.ok.kind hk hc hcell fin hcd) hd
def qQ{i j pos}:PE X (.Constant (.int i) j pos) (tC (.int i)):=fun _ _ _ H _ I h=>wpAny_Constant_int ⟨.int i,H,I.tok _,⟨_,rfl⟩,h⟩
def t8{b j pos}:PE X (.Constant (.bool b) j pos) (tC (.bl b)):=fun _ _ _ H _ I h=>Constant_bool ⟨.bl b,H,I,rfl,h⟩
def qR{x j pos}:PE X (.Constant (.str x) j pos) (tC (.str x)):=fun _ _ _ H _ I h=>Calls.Constant_str ⟨.str x,H,I.tok _,⟨_,rfl⟩,h⟩
def Gl(X:Cx)(x:Str):Prop:=X.env.kindOf x=some .globalImplicit
def k0{E:Vq}{pins:Va}{s:Shared}{σ:St}{H:Hp}{x:Str}{u:Value}{pos:Pos}{Q:Vq}(I:Inv X pins σ H s)(hg:Gl X x)(hm:X.mg x=some u)(h:Q u s)
  (hd:(x == ("__debug__":Str))=false:=by decide):wpAny (model X.prog X.w) X.A (eval (.Name x pos) X.env) Q E s:=
 Calls.Name_function_global I.ok.kind hg (Calls.loadGlobal_global (by rw[I.ok.glob];exact I.mod.glob.keeps I.bk) hm h) hd
def eC{E:Vq}{pins:Va}{s:Shared}{σ:St}{H:Hp}{x:Str}{u:Value}{pos:Pos}{Q:Vq}(I:Inv X pins σ H s)(hg:Gl X x)(hm:X.mg x=none)(hv:bootBuiltins x=some u)(h:Q u s)
  (hn:x ≠ "__name__":=by decide) (hd:(x == ("__debug__":Str))=false:=by decide):wpAny (model X.prog X.w) X.A (eval (.Name x pos) X.env) Q E s:=by
 obtain⟨mb,h1,h2⟩:=I.mod.blt
 exact Calls.Name_function_global I.ok.kind hg (Calls.loadGlobal_builtin (by rw[I.ok.glob];exact I.mod.glob.keeps I.bk) hm (by rw[I.ok.blt];exact h1.keeps I.bk) ((h2 x hn).trans hv) h) hd
variable {a b:Expr} {ta tb:TE} {pos:Pos}
def tB(t:TE):TT:=fun σ H Q=>t σ H fun x H1=>∃c,x = .bl c/\Q c H1
def qS{e:Expr}{t:TE}(h:PE X e t)(he:∀whole,isTrue e X.env whole=(do let v <-whole;standAt e.pos;holding [v] (truthy v)):=by intro _;rfl):PT X e (tB t):=by
 intro pins s σ H Q I hw
 refine isTrue_plain (xI (h pins s σ H _ I hw) fun v s1 ⟨x,H1,I1,r1,q1⟩=>?_) (he _)
 obtain⟨d,rfl,q⟩:=q1
 cases r1
 exact wpAny_truthy_bool ⟨H1,I1,q⟩
variable {tA Bv:TT} {rest:List Expr}
def vN(t u:TT):TT:=fun σ H Q=>t σ H fun c H1=>if c=true then u σ H1 Q else Q false H1
def w4(t u:TT):TT:=fun σ H Q=>t σ H fun c H1=>if c=true then Q true H1 else u σ H1 Q
def vO(t:TT):TT:=fun σ H Q=>t σ H fun c H1=>Q (!c) H1
def oP(ha:PT X a tA):PW X (.BoolOp .And [a] pos) tA:=by
 intro wh pins s σ H Q I h
 refine isTrue_and (xI (ha pins s σ H Q I h) fun c s1 e=>?_)
 cases c with
 |true=>exact isTrue_and_nil e
 |false=>exact e
def qT(ha:PT X a tA):PW X (.BoolOp .Or [a] pos) tA:=by
 intro wh pins s σ H Q I h
 refine isTrue_or (xI (ha pins s σ H Q I h) fun c s1 e=>?_)
 cases c with
 |false=>exact isTrue_or_nil e
 |true=>exact e
def qU(ha:PT X a tA)(hb:PW X (.BoolOp .And (b::rest) pos) Bv):PW X (.BoolOp .And (a::b::rest) pos) (vN tA Bv):=by
 intro wh pins s σ H Q I h
 refine isTrue_and (xI (ha pins s σ H _ I h) fun c s1 ⟨H1,I1,q1⟩=>?_)
 cases c with
 |true=>exact hb wh pins s1 σ H1 Q I1 q1
 |false=>exact⟨H1,I1,q1⟩
def t9(ha:PT X a tA)(hb:PW X (.BoolOp .Or (b::rest) pos) Bv):PW X (.BoolOp .Or (a::b::rest) pos) (w4 tA Bv):=by
 intro wh pins s σ H Q I h
 refine isTrue_or (xI (ha pins s σ H _ I h) fun c s1 ⟨H1,I1,q1⟩=>?_)
 cases c with
 |true=>exact⟨H1,I1,q1⟩
 |false=>exact hb wh pins s1 σ H1 Q I1 q1
def qV(ha:PT X a tA):PT X (.UnaryOp .Not a pos) (vO tA):=by
 intro pins s σ H Q I h
 exact isTrue_not (ha pins s σ H (fun c H1=>Q (!c) H1) I h)
end
def SqL(K:Vo)(H:Hp)(a:Addr)(xs:List V):Prop:=
 Rd H a (.lst xs) \/
  ∃(o:Obj) (its:Vw) (n:Nat),K.lookup a=some o/\o.cls = .type "list"/\o.dict=none/\o.data = .seq its n/\its.size<=sizeLine/\Vals xs its.toList
def SqT(K:Vo)(H:Hp)(a:Addr)(xs:List V):Prop:=
 Rd H a (.tup xs) \/
  ∃(o:Obj) (its:Vw) (n:Nat),K.lookup a=some o/\o.cls = .type "tuple"/\o.dict=none/\o.data = .seq its n/\its.size<=sizeLine/\Vals xs its.toList
noncomputable def vP:Value->Option V
 | .none=>some .non
 | .bool b=>some (.bl b)
 | .int i _=>some (.int i)
 | .str x _=>some (.str x)
 | .bytes b _=>some (.Ac b)
 | .float b _=>some (.BL b)
 | .ref a=>some (.ref a)
 | .type n=>some (.ty n)
 |_=>none
def RelV.abs{x:V}{u:Value}(r:RelV x u):vP u=some x:=by
 cases x with
 |non=>cases r;rfl
 |bl _=>cases r;rfl
 |int _=>obtain⟨t,rfl⟩:=r;rfl
 |str _=>obtain⟨t,rfl⟩:=r;rfl
 |Ac _=>obtain⟨t,rfl⟩:=r;rfl
 |BL _=>obtain⟨t,rfl⟩:=r;rfl
 |ref _=>cases r;rfl
 |ty _=>cases r;rfl
theorem RelV.inj{x y:V}{u:Value}(r:RelV x u)(q:RelV y u):x=y:=Fy (r.abs.symm.trans q.abs)
theorem Vals.inj:∀{xs ys:List V} {us:Vv},Vals xs us->Vals ys us->xs=ys
 |_,_,_,.nil,.nil=>rfl
 |_,_,_,.cons r t,.cons r' t'=>by rw[r.inj r',Vals.inj t t']
section
variable {X:Cx} {pins:Va} {σ:St} {H:Hp} {s:Shared} {a:Addr} {xs ys:List V}
def SqL.of{K:Vo}(h:H a=some (.lst xs)):SqL K H a xs:=.inl (.inl h)
def SqT.of{K:Vo}(h:H a=some (.tup xs)):SqT K H a xs:=.inl (.inl h)
def Inv.list(I:Inv X pins σ H s)(h:SqL X.K H a xs):∃its:List Value,Vals xs its/\PlainL s.heap a its.toArray/\xs.length<=sizeLine:=by
 rcases h with h|⟨o,its,n,hk,hc,hd,hs,hz,r⟩
 ·obtain⟨z,its,n,r,e⟩:=h.ok I.hok
  exact⟨its,r,⟨_,n,e,rfl,rfl,rfl⟩,z⟩
 ·refine⟨its.toList,r,⟨o,n,I.AD a o hk,hc,hd,by simpa using hs⟩,?_⟩
  have e:=r.length
  simp only[Array.length_toList]at e
  omega
def Inv.tuple(I:Inv X pins σ H s)(h:SqT X.K H a xs):∃its:List Value,Vals xs its/\IsTup s.heap a its.toArray/\xs.length<=sizeLine:=by
 rcases h with h|⟨o,its,n,hk,hc,_,hs,hz,r⟩
 ·obtain⟨z,its,r,p⟩:=h.ok I.hok
  exact⟨its,r,p.tup,z⟩
 ·refine⟨its.toList,r,⟨o,I.AD a o hk,hc,n,by simpa using hs⟩,?_⟩
  have e:=r.length
  simp only[Array.length_toList]at e
  omega
def Inv.Ae(I:Inv X pins σ H s)(h:SqL X.K H a xs)(h':SqL X.K H a ys):xs=ys:=by
 obtain⟨its,r,⟨o,n,e,_,_,d⟩,_⟩:=I.list h
 obtain⟨its',r',⟨o',n',e',_,_,d'⟩,_⟩:=I.list h'
 rw[e]at e';cases e'
 rw[d]at d'
 injection d' with d1 _
 have:its=its':=by simpa using Fl Array.toList d1
 subst this
 exact r.inj r'
def Inv.zY(I:Inv X pins σ H s)(h:SqT X.K H a xs)(h':SqT X.K H a ys):xs=ys:=by
 obtain⟨its,r,⟨o,e,_,n,d⟩,_⟩:=I.tuple h
 obtain⟨its',r',⟨o',e',_,n',d'⟩,_⟩:=I.tuple h'
 rw[e]at e';cases e'
 rw[d]at d'
 injection d' with d1 _
 have:its=its':=by simpa using Fl Array.toList d1
 subst this
 exact r.inj r'
end
noncomputable abbrev Cx.wish(X:Cx)(E:Vq):Cx:={ X with xe:=E }
noncomputable abbrev Cx.An(X:Cx):Cx:=X.wish fun _ _=>False
theorem Cx.Ok.wish{X:Cx}(ok:X.Ok)(E:Vq):(X.wish E).Ok:=
 ⟨ok.mod,ok.kind,ok.glob,ok.blt,ok.above,ok.inj,ok.has,ok.AC,ok.hd,ok.frames,ok.stk,ok.Bt,ok.bs,ok.Ad,ok.zK,ok.zX,ok.yQ,ok.Ar⟩
def Cx.Ok.yG{X:Cx}{E:Vq}(ok:(X.wish E).Ok):X.Ok:=
 ⟨ok.mod,ok.kind,ok.glob,ok.blt,ok.above,ok.inj,ok.has,ok.AC,ok.hd,ok.frames,ok.stk,ok.Bt,ok.bs,ok.Ad,ok.zK,ok.zX,ok.yQ,ok.Ar⟩
section
variable {X:Cx} {pins:Va} {σ:St} {H:Hp} {s:Shared} {E:Vq}
theorem Inv.wish(I:Inv X pins σ H s)(E:Vq):Inv (X.wish E) pins σ H s:=⟨I.ok.wish E,I.os,I.bare,I.base,I.loc,I.cell,I.free,I.yu,I.pin,I.hok,I.len⟩
theorem Inv.yG(I:Inv (X.wish E) pins σ H s):Inv X pins σ H s:=⟨I.ok.yG,I.os,I.bare,I.base,I.loc,I.cell,I.free,I.yu,I.pin,I.hok,I.len⟩
theorem SP.yG{D:ki}{f:Flow}{s':Shared}(h:SP (X.wish E) pins D f s'):SP X pins D f s':=by
 cases f with
 |next=>obtain⟨σ',H',I,q⟩:=h;exact⟨σ',H',I.yG,q⟩
 |brk=>obtain⟨σ',H',I,q⟩:=h;exact⟨σ',H',I.yG,q⟩
 |cont=>obtain⟨σ',H',I,q⟩:=h;exact⟨σ',H',I.yG,q⟩
 |ret u=>obtain⟨v,σ',H',I,r,q⟩:=h;exact⟨v,σ',H',I.yG,r,q⟩
theorem zB.An{st:List Stmt}{t:TS}(h:zB X.An st t):zB X st t:=fun pins s σ H D I hw=>
 F7 (h pins s σ H D (I.wish _) hw) (fun _ _ q=>q.yG) fun _ _ z=>False.elim z
end
section
variable {X:Cx} {st:Stmt} {rest:List Stmt} {t u:TS} {e:Expr} {te:TE} {pos:Pos}
def t_:TS:=fun D σ H=>D.nx σ H
def vQ(t u:TS):TS:=fun D σ H=>t { D with nx:=u D } σ H
def oQ:zB X [] t_:=fun _ _ σ H _ I h=>Hz ⟨σ,H,I,h⟩
def mD(h1:PS X st t)(h2:zB X rest u):zB X (st::rest) (vQ t u):=by
 intro pins s σ H D I h
 refine Hs (xI (h1 pins s σ H { D with nx:=u D } I h) fun f s1 q=>?_)
 cases f with
 |next=>
  obtain⟨σ',H',I',q⟩:=q
  exact h2 pins s1 σ' H' D I' q
 |ret v=>exact q
 |brk=>exact q
 |cont=>exact q
def oR(h1:PS X st t):zB X [st] t:=by
 intro pins s σ H D I h
 refine Hs (xI (h1 pins s σ H D I h) fun f s1 q=>?_)
 cases f with
 |next=>exact Hz q
 |ret v=>exact q
 |brk=>exact q
 |cont=>exact q
def Inv.quiet{pins:Va}{σ:St}{H:Hp}{s:Shared}(I:Inv X pins σ H s):interactive X.env=false:=by simp[interactive,I.ok.kind]
def ua(te:TE):TS:=fun D σ H=>te σ H fun _ H1=>D.nx σ H1
def oS(he:PE X e te)(hs:swapsWith e none pos.line X.env=pure false:=by rfl):PS X (.Expr e pos) (ua te):=by
 intro pins s σ H D I h
 exact wpAny_Expr_any (xI (he pins s σ H _ I h) fun v s1 ⟨x,H1,I1,r1,q1⟩=>⟨σ,H1,I1,q1⟩) I.quiet hs
def vR(te:TE):TS:=fun D σ H=>te σ H D.rt
def qW(he:PE X e te):PS X (.Return (some e) pos) (vR te):=by
 intro pins s σ H D I h
 exact wpAny_Return_some (xI (he pins s σ H _ I h) fun v s1 ⟨x,H1,I1,r1,q1⟩=>⟨x,σ,H1,I1,r1,q1⟩)
def vS(c:TT)(t u:TS):TS:=fun D σ H=>c σ H fun b H1=>if b=true then t D σ H1 else u D σ H1
def ub{c:Expr}{a b:List Stmt}{tc:TT}(hc:PT X c tc)(ha:zB X a t)(hb:zB X b u):PS X (.If c a b pos) (vS tc t u):=by
 intro pins s σ H D I h
 refine wpAny_If (xI (hc pins s σ H _ I h) fun d s1 ⟨H1,I1,q1⟩=>?_)
 cases d with
 |true=>exact ha pins s1 σ H1 D I1 q1
 |false=>exact hb pins s1 σ H1 D I1 q1
end
abbrev TG:=V->St->Hp->(St->Hp->Prop)->Prop
abbrev qv:=List V->St->Hp->(St->Hp->Prop)->Prop
def PG(X:Cx)(target:Expr)(t:TG):Prop:=
 ∀(pins:Va) (s:Shared) (σ:St) (H:Hp) (v:V) (u:Value) (Q:St->Hp->Prop),Inv X pins σ H s->RelV v u->t v σ H Q->
  wpAny (model X.prog X.w) X.A (assign target X.env u) (fun _ s'=>∃σ' H',Inv X pins σ' H' s'/\Q σ' H') X.xe s
def uc(X:Cx)(ts:List Expr)(t:qv):Prop:=
 ∀(pins:Va) (s:Shared) (σ:St) (H:Hp) (vs:List V) (us:Vv) (Q:St->Hp->Prop),Inv X pins σ H s->Vals vs us->t vs σ H Q->
  wpAny (model X.prog X.w) X.A (assignInOrder ((assignEach ts X.env).map (·.2)) us) (fun _ s'=>∃σ' H',Inv X pins σ' H' s'/\Q σ' H') X.xe s
abbrev qX:=V->V->V->Hp->(Hp->Prop)->Prop
def oU(X:Cx)(t:qX):Prop:=
 ∀(pins:Va) (s:Shared) (σ:St) (H:Hp) (o i v:V) (ov iv u:Value) (Q:Hp->Prop),Inv X pins σ H s->RelV o ov->RelV i iv->RelV v u->t o i v H Q->
  wpAny (model X.prog X.w) X.A (setItem ov iv u) (fun _ s'=>∃H',Inv X pins σ H' s'/\Q H') X.xe s
section
variable {X:Cx} {pos:Pos}
def jC(i:Nat):TG:=fun v σ H Q=>Q (σ.set i (some v)) H
def oV{i:Nat}{x:Str}(hN:X.N.Nodup)(hi:X.N[i]?=some x)(hx:oK X.env.scope x)(hf:X.fn x=true\/X.env.scope.names.lookup x=some .local:=by first|exact .inl rfl|exact .inr rfl|assumption):PG X (.Name x pos) (jC i):=by
 intro pins s σ H v u Q I r h
 exact wpAny_assign_Name (bF I hN hi hx r (fun s' I'=>⟨_,H,I',h⟩) hf)
noncomputable def ud:qv:=fun vs σ H Q=>vs=[]/\Q σ H
noncomputable def qx(t:TG)(u:qv):qv:=fun vs σ H Q=>∃v r,vs=v::r/\t v σ H fun σ' H'=>u r σ' H' Q
def oW:uc X [] ud:=by
 intro pins s σ H vs us Q I r h
 obtain⟨e,h⟩:=h
 subst e
 cases r
 exact assignInOrder_nil ⟨σ,H,I,h⟩
def mE{e:Expr}{es:List Expr}{t:TG}{u:qv}(h1:PG X e t)(h2:uc X es u)
  (hs:(assignEach (e::es) X.env).map (·.2)=assign e X.env::(assignEach es X.env).map (·.2):=by rfl):uc X (e::es) (qx t u):=by
 intro pins s σ H vs us Q I r h
 obtain⟨v,vr,e1,h⟩:=h
 subst e1
 cases r with
 |cons r rr=>
  rw[hs]
  refine Gf (xI (h1 pins s σ H _ _ _ I r h) fun _ s1 ⟨σ1,H1,I1,q1⟩=>?_)
  exact h2 pins s1 σ1 H1 _ _ Q I1 rr q1
def ue(K:Vo)(n:Nat)(t:qv):TG:=fun v σ H Q=>∃a xs,v = .ref a/\SqT K H a xs/\xs.length=n/\t xs σ H Q
def qY{es:List Expr}{k:Nat}{t:qv}{n:Nat}(hc:X.calm=true)(h:uc X es t)
  (hn:(assignEach es X.env).length=n:=by rfl) (hst:(assignEach es X.env).findIdx? (·.1)=none:=by rfl):PG X (.Tuple es k pos) (ue X.K n t):=by
 intro pins s σ H v u Q I r hw
 obtain⟨a,xs,e1,hq,hl,hw⟩:=hw
 subst e1
 cases r
 obtain⟨its,rv,ht,hz⟩:=I.tuple hq
 refine assign_Tuple_tuple (I.ok.hd hc) ht (by simp[hn,<-hl,rv.length]) hst fun h' hx=>?_
 have I1:Inv X pins σ H { s with heap:=h' }:=I.kept (t':=s.toks) fun b o e=>hx b o (ES (EK e)) e
 exact h pins _ σ H xs _ Q I1 (by simpa using rv) hw
def vT(to ti:TE)(t:qX):TG:=fun v σ H Q=>to σ H fun o H1=>ti σ H1 fun i H2=>t o i v H2 fun H3=>Q σ H3
def qZ{o i:Expr}{to ti:TE}{t:qX}(ho:PE X o to)(hi:PE X i ti)(hs:oU X t)
  (ha:∀v,assign (.Subscript o i pos) X.env v=(do
   let ov <-holding [v] (eval o X.env)
   let iv <-holding [v,ov] (eval i X.env)
   standAt pos
   holding [v,ov,iv] (setItem ov iv v)
   release [v,ov,iv] []):=by intro _;rfl):PG X (.Subscript o i pos) (vT to ti t):=by
 intro pins s σ H v u Q I r h
 rw[ha]
 refine EE (FI (xI (ho pins s σ H _ I h) fun ov s1 ⟨x,H1,I1,r1,q1⟩=>?_))
 refine EE (FI (xI (hi pins s1 σ H1 _ I1 q1) fun iv s2 ⟨y,H2,I2,r2,q2⟩=>?_))
 refine EE (wpAny_standAt (EE (FI (xI (hs pins s2 σ H2 x y v ov iv u _ I2 r1 r2 r q2) fun _ s3 ⟨H3,I3,q3⟩=>?_))))
 exact wpAny_release ⟨σ,H3,I3,q3⟩
def oX(te:TE)(g:TG):TS:=fun D σ H=>te σ H fun x H1=>g x σ H1 D.nx
def q9{tg e:Expr}{te:TE}{g:TG}(he:PE X e te)(hg:PG X tg g)(hs:swapsWithSole [tg] e pos.line X.env=pure false:=by rfl)(hw:swappedStores [tg] e X.env=pure none:=by rfl)
  (h1:(assignEach [tg] X.env).map (·.2)=[assign tg X.env]:=by rfl):PS X (.Assign [tg] e pos) (oX te g):=by
 intro pins s σ H D I h
 refine wpAny_Assign_stores (xI (he pins s σ H _ I h) fun v s1 ⟨x,H1,I1,r1,q1⟩=>?_) hs hw
 rw[h1]
 exact xI (hg pins s1 σ H1 x v _ I1 r1 q1) fun _ s2 q=>q
def q_{i:Nat}{x:Str}{e:Expr}{te:TE}{pos':Pos}(hN:X.N.Nodup)(hi:X.N[i]?=some x)(hx:oK X.env.scope x)(he:PE X e te)(hs:swapsWith e (some (.Name x pos')) pos.line X.env=pure false:=by rfl)(hf:X.fn x=true\/X.env.scope.names.lookup x=some .local:=by first|exact .inl rfl|exact .inr rfl|assumption) :
  PS X (.Assign [.Name x pos'] e pos) (oX te (jC i)):=by
 intro pins s σ H D I h
 refine wpAny_Assign_Name (xI (he pins s σ H _ I h) fun v s1 ⟨y,H1,I1,r1,q1⟩=>?_) hs
 exact bF I1 hN hi hx r1 (fun s2 I2=>⟨_,H1,I2,q1⟩) hf
def vU(i j:Nat)(ta:TA):TS:=fun D σ H=>ta σ H fun vs H1=>∃v w,vs=[v,w]/\D.nx ((σ.set i (some v)).set j (some w)) H1
def re{i j:Nat}{x y:Str}{a b:Expr}{ta:TA}{px py pt:Pos}{kt k2 As}(hc:X.calm=true)(hN:X.N.Nodup)(hi:X.N[i]?=some x)(hj:X.N[j]?=some y)(hij:i≠j)
  (hx:X.env.scope.names.lookup x=some .local) (hy:X.env.scope.names.lookup y=some .local) (ha:PA X [a,b] ta)
  (hw:swappedStores [.Tuple [.Name x px,.Name y py] kt pt] (.Tuple [a,b] k2 As) X.env=pure (some [x,y]))
  (hs:swapsWithSole [.Tuple [.Name x px,.Name y py] kt pt] (.Tuple [a,b] k2 As) pos.line X.env=pure false:=by rfl) :
  PS X (.Assign [.Tuple [.Name x px,.Name y py] kt pt] (.Tuple [a,b] k2 As) pos) (vU i j ta):=by
 intro pins s σ H D I h
 rw[exec_Assign_arm]
 refine EE (wpAny_standAt ?_)
 rw[hs]
 refine EE (EI ?_)
 rw[if_neg (by decide)]
 refine EE (Tuple_ (xI (ha _ pins s σ H _ I h) fun us s1 ⟨vs,H1,I1,r1,q1⟩=>?_))
 obtain⟨v,w,e1,q1⟩:=q1
 subst e1
 obtain⟨u1,u2,rfl,rv,rw'⟩:∃u1 u2,us=[u1,u2]/\RelV v u1/\RelV w u2:=by
  cases r1 with
  |cons p q=>
   cases q with
   |cons p' q'=>
    cases q'
    exact⟨_,_,rfl,p,p'⟩
 refine Ft ?_ (by show 2<=sizeLine;decide)
 have I2:Inv X pins σ H1 { s1 with heap:=s1.heap.push { cls:=.type "tuple",data:=.seq [u1,u2].toArray } }:=I1.kept (t':=s1.toks) fun b o e=>EF _ e
 rw[hw]
 refine EE (EI ?_)
 show wpAny (model X.prog X.w) X.A (do rule "assign.swapped-stores"; let items <-unpackItems (.ref s1.heap.objs.size) 2 none;assignInOrder [fun v=>bindName X.env y v,fun v=>bindName X.env x v] items.reverse;pure Flow.next) _ _ _
 refine EE (GQ (EE (unpackItems_tuple (items:=#[u1,u2]) (I.ok.hd hc) (IsTup.new s1.heap _) fun h' hx'=>?_)))
 have I3:=I2.kept (h':=h') (t':=s1.toks) fun b o e=>hx' b o (ES (EK e)) e
 show wpAny _ _ (assignInOrder [fun v=>bindName X.env y v,fun v=>bindName X.env x v] [u2,u1] >>= fun _=>pure Flow.next) _ _ _
 refine EE (Gf (Hf (bF I3 hN hj (.inl hy) rw' (fun s2 I4=>?_) (.inr hy))))
 refine Gf (Hf (bF I4 hN hi (.inl hx) rv (fun s3 I5=>assignInOrder_nil (EI ?_)) (.inr hx)))
 rw[List.set_comm _ _ (F3 hij)]at I5
 exact⟨_,H1,I5,q1⟩
end
section
variable {X:Cx} {pos:Pos}
def rf(c:TT)(tb:TS):TS:=fun D σ H=>∃W:Nat->St->Hp->Prop,(∃m,W m σ H)/\∀m σ H,W m σ H->
 c σ H fun b H1=>if b=true then ∃N:St->Hp->Prop,(∀σ' H',N σ' H'->∃m',m' < m/\W m' σ' H')/\tb { D with nx:=N,ct:=N,bk:=D.nx } σ H1 else D.nx σ H1
def mF{c:Expr}{body:List Stmt}{tc:TT}{tb:TS}(hp:PassesOwn (model X.prog X.w) X.A X.env X.xe)(hc:PT X c tc)(hb:zB X body tb):PS X (.While c body [] pos) (rf tc tb):=by
 intro pins s σ H D I h
 obtain⟨W,⟨m0,w0⟩,turn⟩:=h
 refine wpAny_While (codeAny_whileLoop (fun n s'=>∃σ' H',Inv X pins σ' H' s'/\W n σ' H') ?_ m0 ⟨σ,H,I,w0⟩)
 rintro n s1 ⟨σ1,H1,I1,w1⟩
 refine Gm hp (xI (hc pins s1 σ1 H1 _ I1 (turn n σ1 H1 w1)) fun b s2 ⟨H2,I2,q2⟩=>?_)
 cases b with
 |true=>
  obtain⟨N,hN,q2⟩:=q2
  rw[if_pos rfl]
  refine Gm hp (xI (hb pins s2 σ1 H2 _ I2 q2) fun f s3 q3=>?_)
  cases f with
  |next=>
   obtain⟨σ3,H3,I3,n3⟩:=q3
   obtain⟨m',hm,w3⟩:=hN σ3 H3 n3
   exact⟨m',hm,σ3,H3,I3,w3⟩
  |cont=>
   obtain⟨σ3,H3,I3,n3⟩:=q3
   obtain⟨m',hm,w3⟩:=hN σ3 H3 n3
   exact⟨m',hm,σ3,H3,I3,w3⟩
  |brk=>exact q3
  |ret v=>exact q3
 |false=>
  rw[if_neg EV]
  exact Hz ⟨σ1,H2,I2,q2⟩
end
structure It where
 go:Nat->Hp->Prop
 Bw:Nat->Hp->V->Hp->Prop
 stop:Nat->Hp->Prop
def d0(X:Cx)(pins:Va)(H:Hp)(b:Addr):Prop:=
 H b=none/\b≠X.env.locals/\b ∉ X.fs/\(b∈X.ex\/X.s₀.heap.objs.size<=b)/\(∀x c,X.env.cells.lookup x=some c->c≠b)/\∀p∈X.pn++pins,p.1≠b
def Inv.zC{X:Cx}{pins:Va}{σ:St}{H H':Hp}{s:Shared}{b:Addr}(I:Inv X pins σ H s)(hb:s.heap.objs.size<=b)(hn:H' b=none):d0 X pins H' b:=by
 refine⟨hn,Hg (EN I.lt hb),I.Bc hb,.inr (EW I.sz hb),fun x c e z=>?_,fun p hp z=>?_⟩
 ·obtain⟨v,q⟩:=I.cell x c e
  exact absurd (EN q.lt (by rw[z];exact hb)) (Ge _)
 ·exact absurd (EN (EK (I.pin p hp).1) (by rw[z];exact hb)) (Ge _)
structure lJ (P:Program) (w:World) (K:Vo) (tg:Expr) (J:It) (fp:List Addr) (it:Addr) (tn:Nat->Heap->Prop):Prop where
 mem:it∈fp
 obj:∀i h,tn i h->∀b∈fp,∃o,h.get? b=some o/\∀v,o.data ≠ .cell v
 keep:∀i h h',tn i h->(∀b∈fp,∀o,h.get? b=some o->h'.get? b=some o)->tn i h'
 item:∀(X:Cx),X.prog=P->X.w=w->X.K=K->X.calm=true->∀(i:Nat) (pins:Va) (s:Shared) (σ:St) (H:Hp) (E:Vq),Inv X pins σ H s->(∀b∈fp,d0 X pins H b)->tn i s.heap->J.go i H->
  wpAny (model P w) X.A (pyNext (.ref it)) (fun r s1=>∃u,r=some u/\
   wpAny (model P w) X.A (letOwnedTupleGo tg (.ref it) u) (fun _ s2=>∃x H',Inv X pins σ H' s2/\RelV x u/\J.Bw i H x H'/\tn (i+1) s2.heap/\∀b∈fp,H' b=none) E s1) E s
 done:∀(X:Cx),X.prog=P->X.w=w->X.K=K->X.calm=true->∀(i:Nat) (pins:Va) (s:Shared) (σ:St) (H:Hp) (E:Vq),Inv X pins σ H s->(∀b∈fp,d0 X pins H b)->tn i s.heap->J.stop i H->
  wpAny (model P w) X.A (pyNext (.ref it)) (fun r s1=>r=none/\Inv X pins σ H s1) E s
 self:∀(A:Around) (i:Nat) (s:Shared) (Q:Vq) (E:Vq),tn i s.heap->Q (.ref it) s->wpAny (model P w) A (pyIter (.ref it)) Q E s
abbrev TI:=St->Hp->(It->Hp->Prop)->Prop
def vV(X:Cx)(pins:Va)(σ:St)(tg:Expr)(R:It->Hp->Prop)(itv:Value)(s2:Shared):Prop:=
 ∃(it:Addr) (fp:List Addr) (tn:Nat->Heap->Prop) (J:It) (H':Hp),itv = .ref it/\Inv X pins σ H' s2/\lJ X.prog X.w X.K tg J fp it tn/\tn 0 s2.heap/\(∀b∈fp,d0 X pins H' b)/\R J H'
def PI(X:Cx)(tg iter:Expr)(wi:TI):Prop:=
 ∀(pins:Va) (s:Shared) (σ:St) (H:Hp) (R:It->Hp->Prop),Inv X pins σ H s->wi σ H R->
  wpAny (model X.prog X.w) X.A (eval iter X.env) (fun v s1=>wpAny (model X.prog X.w) X.A (pyIter v) (vV X pins σ tg R) X.xe s1) X.xe s
def k4 {M : Model} {A : Around} {E : Value -> Shared -> Prop} {s : Shared} {tg : Expr} {it : Addr} {u : Value} {o : Obj} {n : String} {vs : Array Value} {Q : Unit -> Shared -> Prop} (ho : s.heap.get? it = some o) (hc : o.cls = .type n) (hd : o.data = .fields vs)
    (hn : ["enumerate", "zip", "dict_itemiterator", "dict_reverseitemiterator", "odict_iterator", "itertools.zip_longest", "itertools.pairwise"].contains n = false) (hQ : Q () s) : wpAny M A (letOwnedTupleGo tg (.ref it) u) Q E s := by
  unfold letOwnedTupleGo
  cases tg <;> first
    | exact EI hQ
    | (cases u <;> first
        | exact EI hQ
        | (refine EE (wpAny_load ho ?_)
           rw [hc, hd]
           show wpAny M A (if (["enumerate", "zip", "dict_itemiterator", "dict_reverseitemiterator", "odict_iterator", "itertools.zip_longest", "itertools.pairwise"].contains n && vs[0]? == some (rawInt _)) = true then _ else _) Q E s
           rw [if_neg (by intro h; rw [hn, Bool.false_and] at h; cases h)]
           exact EI hQ))
noncomputable def vv(K:Vo)(a:Addr):It:=
 ⟨fun i H=>∃xs x,SqL K H a xs/\xs[i]?=some x,fun i H x H'=>H'=H/\∀xs,SqL K H a xs->xs[i]?=some x,fun i H=>∃xs,SqL K H a xs/\xs.length<=i⟩
noncomputable def vW(K:Vo)(a:Addr):It:=
 ⟨fun i H=>∃xs x,SqT K H a xs/\xs[i]?=some x,fun i H x H'=>H'=H/\∀xs,SqT K H a xs->xs[i]?=some x,fun i H=>∃xs,SqT K H a xs/\xs.length<=i⟩
noncomputable def vx(lo:Int)(n:Nat):It:=⟨fun i _=>i < n,fun i H x H'=>H'=H/\x = .int (lo+i),fun i _=>n<=i⟩
def lK{P:Program}{w:World}{K:Vo}{tg:Expr}(a it:Addr):lJ P w K tg (vv K a) [it] it (fun i h=>h.IsListIter it a i) where
 mem:=by simp
 obj:=fun i h st b hb=>by
  have e:b=it:=by simpa using hb
  subst e
  obtain⟨o,e,c,d⟩:=st
  exact⟨o,e,fun v z=>by rw[d]at z;cases z⟩
 keep:=fun i h h' st k=>st.at fun o e=>k it (by simp) o e
 item:=by
  intro X hP hw hK hc i pins s σ H E I hf st hg
  subst hP hw hK
  obtain⟨xs,x,hq,hx⟩:=hg
  obtain⟨its,rv,p,hz⟩:=I.list hq
  obtain⟨u,hu,ru⟩:=rv.get hx
  obtain⟨f0,f1,f2,f3,f4,f5⟩:=hf it (by simp)
  refine wpAny_pyNext_list_item st p.isList (x:=u) (by simpa using hu) fun h' st' sb=>?_
  have I1:Inv X pins σ H { s with heap:=h' }:=I.turned (t':=s.toks) (fun b o hb e=>(sb.2 b hb).trans e) f0 f1 f3 f4 f5
  obtain⟨o,e,c,d⟩:=id st'
  exact⟨u,rfl,k4 (s:={ s with heap:=h' }) e c d (by decide) ⟨x,H,I1,ru,⟨rfl,fun ys hy=>by rw[I.Ae hy hq];exact hx⟩,st',fun b hb=>(hf b hb).1⟩⟩
 done:=by
  intro X hP hw hK hc i pins s σ H E I hf st hg
  subst hP hw hK
  obtain⟨xs,hq,hx⟩:=hg
  obtain⟨its,rv,p,hz⟩:=I.list hq
  obtain⟨f0,f1,f2,f3,f4,f5⟩:=hf it (by simp)
  have hl:=rv.length
  exact wpAny_pyNext_list_end (I.ok.hd hc) st p.isList (by simp;omega) fun h' eb=>⟨rfl,I.turned (t':=s.toks) (fun b o hb e=>eb b o hb e) f0 f1 f3 f4 f5⟩
 self:=fun _ _ _ _ _ st h=>wpAny_pyIter_listiter st h
def kj{P:Program}{w:World}{K:Vo}{tg:Expr}(a it:Addr):lJ P w K tg (vW K a) [it] it (fun i h=>h.IsTupleIter it a i) where
 mem:=by simp
 obj:=fun i h st b hb=>by
  have e:b=it:=by simpa using hb
  subst e
  obtain⟨o,e,c,d⟩:=st
  exact⟨o,e,fun v z=>by rw[d]at z;cases z⟩
 keep:=fun i h h' st k=>st.at fun o e=>k it (by simp) o e
 item:=by
  intro X hP hw hK hc i pins s σ H E I hf st hg
  subst hP hw hK
  obtain⟨xs,x,hq,hx⟩:=hg
  obtain⟨its,rv,p,hz⟩:=I.tuple hq
  obtain⟨u,hu,ru⟩:=rv.get hx
  obtain⟨f0,f1,f2,f3,f4,f5⟩:=hf it (by simp)
  refine wpAny_pyNext_tuple_item st (show s.heap.IsTuple a its.toArray from p) (x:=u) (by simpa using hu) fun h' st' sb=>?_
  have I1:Inv X pins σ H { s with heap:=h' }:=I.turned (t':=s.toks) (fun b o hb e=>(sb.2 b hb).trans e) f0 f1 f3 f4 f5
  obtain⟨o,e,c,d⟩:=id st'
  exact⟨u,rfl,k4 (s:={ s with heap:=h' }) e c d (by decide) ⟨x,H,I1,ru,⟨rfl,fun ys hy=>by rw[I.zY hy hq];exact hx⟩,st',fun b hb=>(hf b hb).1⟩⟩
 done:=by
  intro X hP hw hK hc i pins s σ H E I hf st hg
  subst hP hw hK
  obtain⟨xs,hq,hx⟩:=hg
  obtain⟨its,rv,p,hz⟩:=I.tuple hq
  obtain⟨f0,f1,f2,f3,f4,f5⟩:=hf it (by simp)
  have hl:=rv.length
  exact wpAny_pyNext_tuple_end (I.ok.hd hc) st (show s.heap.IsTuple a its.toArray from p) (by simp;omega) fun h' eb=>⟨rfl,I.turned (t':=s.toks) (fun b o hb e=>eb b o hb e) f0 f1 f3 f4 f5⟩
 self:=fun _ _ _ _ _ st h=>wpAny_pyIter_tupleiter st h
def kl{P:Program}{w:World}{K:Vo}{tg:Expr}(it:Addr)(lo:Int)(n:Nat):lJ P w K tg (vx lo n) [it] it (fun i h=>IsRangeIter h it (lo+(i:Nat) * 1) ((n:Int) - (i:Nat)) 1) where
 mem:=by simp
 obj:=fun i h st b hb=>by
  have e:b=it:=by simpa using hb
  subst e
  exact⟨_,st,fun v z=>by
   have z':Data.fields _=Data.cell v:=z
   cases z'⟩
 keep:=fun i h h' st k=>k it (by simp) _ st
 item:=by
  intro X hP hw hK hc i pins s σ H E I hf st hg
  subst hP hw hK
  obtain⟨f0,f1,f2,f3,f4,f5⟩:=hf it (by simp)
  have W:=Walks.range (prog:=X.prog) (w:=X.w) (I.ok.hd hc) it lo 1 n
  refine W.item i s _ _ hg st fun v h' tk hv st' kk=>?_
  obtain⟨t,rfl⟩:=hv
  have I1:Inv X pins σ H { s with heap:=h',toks:=tk }:=I.turned (fun b o hb e=>kk b o (by simpa using hb) e) f0 f1 f3 f4 f5
  refine⟨_,rfl,k4 (s:={ s with heap:=h',toks:=tk }) (n:="range_iterator") st' rfl rfl (by decide) ⟨.int (lo+i),H,I1,⟨t,?_⟩,⟨rfl,rfl⟩,st',fun b hb=>(hf b hb).1⟩⟩
  rw[Int.mul_one]
 done:=by
  intro X hP hw hK hc i pins s σ H E I hf st hg
  subst hP hw hK
  obtain⟨f0,f1,f2,f3,f4,f5⟩:=hf it (by simp)
  exact wpAny_pyNext_range_end (I.ok.hd hc) st (by have:n<=i:=hg;omega) fun h' eb=>⟨rfl,I.turned (t':=s.toks) (fun b o hb e=>eb b o hb e) f0 f1 f3 f4 f5⟩
 self:=fun _ _ _ _ _ st h=>wpAny_pyIter_rangeiter st h
section
variable {X:Cx} {tg:Expr}
def mG{pins:Va}{σ:St}{H:Hp}{s:Shared}{R:It->Hp->Prop}{E:Vq}{lo hi:Int}{t u v:Tok}{tk:Nat}(I:Inv X pins σ H s)(h1:-(2 ^ 62)<=lo)(h2:lo < 2 ^ 62)(h3:-(2 ^ 62)<=hi)(h4:hi < 2 ^ 62)
  (q:R (vx lo (hi - lo).toNat) H):wpAny (model X.prog X.w) X.A (pyIter (.ref s.heap.objs.size)) (vV X pins σ tg R) E { s with heap:=s.heap.push { cls:=.type "range",data:=.fields #[.int lo t,.int hi u,.int 1 v] },toks:=tk }:=by
 refine wpAny_pyIter_range (IsRange.new ..) (small_one h1 h2 h3 h4) ?_
 have I1:Inv X pins σ H { s with heap:=s.heap.push { cls:=.type "range",data:=.fields #[.int lo t,.int hi u,.int 1 v] },toks:=tk }:=I.kept fun b o e=>EF _ e
 refine⟨(s.heap.push { cls:=.type "range",data:=.fields #[.int lo t,.int hi u,.int 1 v] }).objs.size,[(s.heap.push { cls:=.type "range",data:=.fields #[.int lo t,.int hi u,.int 1 v] }).objs.size],_,_,H,rfl,
  I1.kept (t':=tk) fun b o e=>EF _ e,kl _ lo (hi - lo).toNat,?_,fun b hb=>?_,q⟩
 ·have e1:lo+((0:Nat):Int) * 1=lo:=by simp
  have e2:(((hi - lo).toNat:Nat):Int) - ((0:Nat):Int)=Builtin.Range.rangeSize lo hi 1:=by rw[rangeSize_one];split<;>omega
  show IsRangeIter _ _ (lo+((0:Nat):Int) * 1) ((((hi - lo).toNat:Nat):Int) - ((0:Nat):Int)) 1
  rw[e1,e2]
  exact EL _ rfl
 ·have e:b=(s.heap.push { cls:=.type "range",data:=.fields #[.int lo t,.int hi u,.int 1 v] }).objs.size:=by simpa using hb
  subst e
  exact I1.zC (EJ _) (I1.hok.fresh (EJ _))
def uf(ta:TA):TI:=fun σ H R=>ta σ H fun vs H1=>∃j:Int,vs=[.int j]/\-(2 ^ 62)<=j/\j < 2 ^ 62/\R (vx 0 j.toNat) H1
def lL{a:Expr}{ta:TA}{p pos:Pos}(hg:Gl X "range")(hm:X.mg "range" = none)(ha:PA X [a] ta)(hs:starEach [a] X.env=[(false,eval a X.env)]:=by rfl):PI X tg (.Call (.Name "range" p) [a] [] pos) (uf ta):=by
 intro pins s σ H R I h
 refine Call_ (eC I hg hm boot_range (Fv (xI (ha pos pins s σ H _ I h) fun us s1 ⟨vs,H1,I1,r1,q1⟩=>?_) hs rfl))
 obtain⟨j,e,q1,q2,q⟩:=q1
 subst e
 cases r1 with
 |cons r rr=>
  cases rr
  obtain⟨t,rfl⟩:=r
  exact call_range_1 (mG I1 (by omega) (by omega) q1 q2 (by simpa using q))
def vX(wi:TI)(g:TG)(tb:TS):TS:=fun D σ H=>wi σ H fun J H1=>∃W:Nat->Nat->St->Hp->Prop,(∃m,W 0 m σ H1)/\∀i m σ H,W i m σ H->
 (J.stop i H/\D.nx σ H)\/(J.go i H/\∃N:St->Hp->Prop,(∀σ' H',N σ' H'->∃m',m' < m/\W (i+1) m' σ' H')/\∀x H',J.Bw i H x H'->g x σ H' fun σ2 H2=>tb { D with nx:=N,ct:=N,bk:=D.nx } σ2 H2)
noncomputable def gr(fp:List Addr)(h:Heap):List (Addr×Obj):=fp.filterMap fun b=>(h.get? b).map fun o=>(b,o)
def eE{fp:List Addr}{h:Heap}{b:Addr}{o:Obj}(hb:b∈fp)(e:h.get? b=some o):(b,o)∈gr fp h:=List.mem_filterMap.mpr ⟨b,hb,by rw[e];rfl⟩
def lM{fp:List Addr}{h:Heap}{p:Addr×Obj}(hp:p∈gr fp h):p.1∈fp/\h.get? p.1=some p.2:=by
 obtain⟨b,hb,e⟩:=List.mem_filterMap.mp hp
 cases q:h.get? b with
 |none=>rw[q]at e;cases e
 |some o=>
  rw[q]at e
  have e':(b,o)=p:=Fy e
  subst e'
  exact⟨hb,q⟩
def Inv.pinned{pins:Va}{σ:St}{H:Hp}{s:Shared}{fp:List Addr}(I:Inv X pins σ H s)(hf:∀b∈fp,d0 X pins H b)(ho:∀b∈fp,∃o,s.heap.get? b=some o/\∀v,o.data ≠ .cell v):Inv X (pins++gr fp s.heap) σ H s:=
 I.zc fun p hp=>(Ff.mp hp).elim (fun z=>I.pin p (E4 _ z)) fun z=>by
  obtain⟨hb,e⟩:=lM z
  obtain⟨f0,f1,f2,_⟩:=hf p.1 hb
  obtain⟨o,e',d⟩:=ho p.1 hb
  rw[e]at e';cases e'
  exact⟨e,f0,f1,f2,d⟩
def Inv.yR{pins pl:Va}{σ:St}{H:Hp}{s:Shared}(I:Inv X (pins++pl) σ H s):Inv X pins σ H s:=I.zc fun p hp=>I.pin p (E4 _ (Gq _ hp))
def rg{iter:Expr}{body:List Stmt}{wi:TI}{g:TG}{tb:TS}{pos:Pos}(hp:PassesOwn (model X.prog X.w) X.A X.env X.xe)(hc:X.calm=true)(hi:PI X tg iter wi)(hg:PG X tg g)(hb:zB X body tb)
  (hs:∀x,foldedSetIterable iter X.env x=pure x:=by intro _;rfl):PS X (.For tg iter body [] pos) (vX wi g tb):=by
 intro pins s σ H D I h
 refine wpAny_For (xI (hi pins s σ H _ I h) fun v s1 h1=>xI h1 fun itv s2 h2=>?_) hs
 obtain⟨it,fp,tn,J,H2,e,I2,T,st2,f2,W,⟨m0,w0⟩,turn⟩:=h2
 subst e
 -- what stays true of the iterator's objects through the loop
 have stat:∀{H':Hp},(∀b∈fp,H' b=none)->∀b∈fp,d0 X pins H' b:=fun hn b hb=>⟨hn b hb,(f2 b hb).2⟩
 refine codeAny_forLoop_any (fun n s'=>∃i σ' H',Inv X pins σ' H' s'/\tn i s'.heap/\(∀b∈fp,H' b=none)/\W i n σ' H') ?_ m0 ⟨0,σ,H2,I2,st2,fun b hb=>(f2 b hb).1,w0⟩
 rintro n s3 ⟨i,σ3,H3,I3,st3,CP,w3⟩
 rcases turn i n σ3 H3 w3 with⟨stop,qn⟩|⟨go,N,hN,step⟩
 ·refine Gm hp (xI (T.done X rfl rfl rfl hc i pins s3 σ3 H3 X.xe I3 (stat CP) st3 stop) fun r s4 ⟨hr,I4⟩=>?_)
  subst hr
  exact Hz ⟨σ3,H3,I4,qn⟩
 ·refine Gm hp (xI (T.item X rfl rfl rfl hc i pins s3 σ3 H3 X.xe I3 (stat CP) st3 go) fun r s4 ⟨u,hr,h4⟩=>?_)
  subst hr
  refine Gm hp (xI h4 fun _ s5 ⟨x,H5,I5,r5,y5,At,BR⟩=>?_)
  have BS:=I5.pinned (stat BR) (T.obj _ _ At)
  refine Gm hp (xI (hg _ s5 σ3 H5 x u _ BS r5 (step x H5 y5)) fun _ s6 ⟨σ6,H6,I6,q6⟩=>?_)
  refine Gm hp (xI (hb _ s6 σ6 H6 _ I6 q6) fun f s7 q7=>?_)
  have again:∀{σ7:St} {H7:Hp},Inv X (pins++gr fp s5.heap) σ7 H7 s7->N σ7 H7->∃m,m < n/\∃i σ' H',Inv X pins σ' H' s7/\tn i s7.heap/\(∀b∈fp,H' b=none)/\W i m σ' H':=fun{σ7 H7} I7 n7=>by
   obtain⟨m',hm,w7⟩:=hN σ7 H7 n7
   refine⟨m',hm,i+1,σ7,H7,I7.yR,T.keep _ _ _ At fun b hb o e=>(I7.pin (b,o) (E4 _ (E4 _ (eE hb e)))).1,fun b hb=>?_,w7⟩
   obtain⟨o,e,d⟩:=T.obj _ _ At b hb
   exact(I7.pin (b,o) (E4 _ (E4 _ (eE hb e)))).2.1
  cases f with
  |next=>obtain⟨σ7,H7,I7,n7⟩:=q7;exact again I7 n7
  |cont=>obtain⟨σ7,H7,I7,n7⟩:=q7;exact again I7 n7
  |brk=>obtain⟨σ7,H7,I7,q7⟩:=q7;exact⟨σ7,H7,I7.yR,q7⟩
  |ret v=>obtain⟨x7,σ7,H7,I7,r7,q7⟩:=q7;exact⟨x7,σ7,H7,I7.yR,r7,q7⟩
end
abbrev R2:=V->V->Hp->VK->Prop
def ft(X:Cx)(f:Value->Value->Sem Value)(r:R2):Prop:=
 ∀(pins:Va) (s:Shared) (σ:St) (H:Hp) (x y:V) (v u:Value) (Q:VK),Inv X pins σ H s->RelV x v->RelV y u->r x y H Q->
  wpAny (model X.prog X.w) X.A (f v u) (EP X pins σ Q) X.xe s
def vy(X:Cx)(f:Value->Sem Value)(r:V->Hp->VK->Prop):Prop:=
 ∀(pins:Va) (s:Shared) (σ:St) (H:Hp) (x:V) (v:Value) (Q:VK),Inv X pins σ H s->RelV x v->r x H Q->
  wpAny (model X.prog X.w) X.A (f v) (EP X pins σ Q) X.xe s
def dh(X:Cx)(f:Value)(r:List V->Hp->VK->Prop):Prop:=
 ∀(pins:Va) (s:Shared) (σ:St) (H:Hp) (xs:List V) (us:Vv) (Q:VK),Inv X pins σ H s->Vals xs us->r xs H Q->
  wpAny (model X.prog X.w) X.A (call f us) (EP X pins σ Q) X.xe s
def ug(r:R2)(ta tb:TE):TE:=fun σ H Q=>ta σ H fun x H1=>tb σ H1 fun y H2=>r x y H2 Q
def w5(r:V->Hp->VK->Prop)(ta:TE):TE:=fun σ H Q=>ta σ H fun x H1=>r x H1 Q
def rI(C:Int->Int->Prop)(g:Int->Int->V):R2:=fun x y H Q=>∃i j,x = .int i/\y = .int j/\C i j/\Q (g i j) H
def oY(g:Int->Int->V):R2:=fun x y H Q=>∃i j,x = .int i/\y = .int j/\Q (g i j) H
noncomputable def rU(g:Int->V):V->Hp->VK->Prop:=fun x H Q=>∃i,x = .int i/\Q (g i) H
section
variable {X:Cx} {a b c:Expr} {ta tb tc:TE} {pos:Pos}
def rh(ha:PE X a ta)(hb:PE X b tb){pins:Va}{s:Shared}{σ:St}{H:Hp}{R:V->V->Hp->Prop}(I:Inv X pins σ H s)
  (h:ta σ H fun x H1=>tb σ H1 fun y H2=>R x y H2) {Q:Vq} {f:Value->Value->Sem Value}
  (hf:∀v u s2 x y H2,Inv X pins σ H2 s2->RelV x v->RelV y u->R x y H2->wpAny (model X.prog X.w) X.A (f v u) Q X.xe s2) :
  wpAny (model X.prog X.w) X.A (eval a X.env) (fun v s₁=>wpAny (model X.prog X.w) X.A (eval b X.env) (fun u s₂=>wpAny (model X.prog X.w) X.A (f v u) Q X.xe s₂) X.xe s₁) X.xe s:=by
 refine xI (ha pins s σ H _ I h) fun v s1 ⟨x,H1,I1,r1,q1⟩=>?_
 refine xI (hb pins s1 σ H1 _ I1 q1) fun u s2 ⟨y,H2,I2,r2,q2⟩=>?_
 exact hf v u s2 x y H2 I2 r1 r2 q2
def uh{op:Operator}{r:R2}(ho:ft X (binaryOp op) r)(ha:PE X a ta)(hb:PE X b tb):PE X (.BinOp a op b pos) (ug r ta tb):=by
 intro pins s σ H Q I h
 exact wpAny_BinOp (rh ha hb I h fun v u s2 x y H2 I2 rx ry q=>ho pins s2 σ H2 x y v u Q I2 rx ry q)
def uk{op:UnaryOp}{r:V->Hp->VK->Prop}(ho:vy X (unaryOp op) r)(ha:PE X a ta):PE X (.UnaryOp op a pos) (w5 r ta):=by
 intro pins s σ H Q I h
 exact UnaryOp_ (xI (ha pins s σ H _ I h) fun v s1 ⟨x,H1,I1,r1,q1⟩=>ho pins s1 σ H1 x v Q I1 r1 q1)
def vz{f:Value->Value->Sem Value}{C:Int->Int->Prop}{g:Int->Int->Int}
  (rule:∀(i j:Int) (t u:Tok) (s:Shared) (Q:Vq) (E:Vq),C i j->Q (.int (g i j) s.toks) { s with toks:=s.toks+1 }->wpAny (model X.prog X.w) X.A (f (.int i t) (.int j u)) Q E s) :
  ft X f (rI C fun i j=>.int (g i j)):=by
 intro pins s σ H x y v u Q I rx ry h
 obtain⟨i,j,rfl,rfl,hc,q⟩:=h
 obtain⟨t,rfl⟩:=rx
 obtain⟨t',rfl⟩:=ry
 exact rule i j t t' s _ _ hc ⟨.int (g i j),H,I.tok _,⟨_,rfl⟩,q⟩
def ul{f:Value->Value->Sem Value}{g:Int->Int->Int}
  (rule:∀(i j:Int) (t u:Tok) (s:Shared) (Q:Vq) (E:Vq),Q (.int (g i j) s.toks) { s with toks:=s.toks+1 }->wpAny (model X.prog X.w) X.A (f (.int i t) (.int j u)) Q E s) :
  ft X f (oY fun i j=>.int (g i j)):=by
 intro pins s σ H x y v u Q I rx ry h
 obtain⟨i,j,rfl,rfl,q⟩:=h
 obtain⟨t,rfl⟩:=rx
 obtain⟨t',rfl⟩:=ry
 exact rule i j t t' s _ _ ⟨.int (g i j),H,I.tok _,⟨_,rfl⟩,q⟩
def rj{f:Value->Value->Sem Value}{g:Int->Int->Bool}
  (rule:∀(i j:Int) (t u:Tok) (s:Shared) (Q:Vq) (E:Vq),Q (.bool (g i j)) s->wpAny (model X.prog X.w) X.A (f (.int i t) (.int j u)) Q E s) :
  ft X f (oY fun i j=>.bl (g i j)):=by
 intro pins s σ H x y v u Q I rx ry h
 obtain⟨i,j,rfl,rfl,q⟩:=h
 obtain⟨t,rfl⟩:=rx
 obtain⟨t',rfl⟩:=ry
 exact rule i j t t' s _ _ ⟨.bl (g i j),H,I,rfl,q⟩
def rm(i j:Int):Prop:=0<=j/\j<=1000000/\i.natAbs < 2 ^ 64
def Au(i j:Int):Prop:=(-(2 ^ 64) < i/\i < 2 ^ 64)\/(-(2 ^ 64) < j/\j < 2 ^ 64)
def Au.ok{i j:Int}(h:Au i j):IntMulOk i j:=by
 rcases h with⟨h1,h2⟩|⟨h1,h2⟩
 ·exact .of_left (intBits_le_64 h1 h2)
 ·exact .of_right (intBits_le_64 h1 h2)
def rq:ft X (binaryOp .Add) (oY fun i j=>.int (i+j)):=ul fun _ _ _ _ _ _ _ q=>add_int q
def rA:ft X (binaryOp .Sub) (oY fun i j=>.int (i - j)):=ul fun _ _ _ _ _ _ _ q=>sub_int q
def oZ:ft X (binaryOp .Mod) (rI (fun _ j=>j≠0) fun i j=>.int (i.fmod j)):=vz fun _ _ _ _ _ _ _ hc q=>mod_int' hc q
def rB:ft X (binaryOp .Pow) (rI rm fun i j=>.int (i ^ j.toNat)):=vz fun _ _ _ _ _ _ _ hc q=>pow_int_small hc.1 hc.2.1 hc.2.2 q
def w9{f:Value->Sem Value}{g:Int->Int}
  (rule:∀(i:Int) (t:Tok) (s:Shared) (Q:Vq) (E:Vq),Q (.int (g i) s.toks) { s with toks:=s.toks+1 }->wpAny (model X.prog X.w) X.A (f (.int i t)) Q E s) :
  vy X f (rU fun i=>.int (g i)):=by
 intro pins s σ H x v Q I rx h
 obtain⟨i,rfl,q⟩:=h
 obtain⟨t,rfl⟩:=rx
 exact rule i t s _ _ ⟨.int (g i),H,I.tok _,⟨_,rfl⟩,q⟩
def rC:vy X (unaryOp .USub) (rU fun i=>.int (-i)):=w9 fun _ _ _ _ _ q=>neg_int q
end
noncomputable def um:V->V->Bool
 | .non,.non=>true | .non,.int _=>true | .int _,.non=>true | .non,.bl _=>true | .bl _,.non=>true | .non,.str _=>true | .str _,.non=>true
 | .int _,.int _=>true | .bl _,.bl _=>true | .str _,.str _=>true | .Ac _,.Ac _=>true
 | .int _,.str _=>true | .str _,.int _=>true | .bl _,.str _=>true | .str _,.bl _=>true
 |_,_=>false
def w_:R2:=fun x y H Q=>um x y=true/\Q (.bl (decide (x=y))) H
def xf:R2:=fun x y H Q=>um x y=true/\Q (.bl (!decide (x=y))) H
def k5{i j:Int}:decide (V.int i=V.int j)=(i == j):=by
 rw[G1]
 simp
def mH{i j:Bool}:decide (V.bl i=V.bl j)=(i == j):=by
 rw[G1]
 simp
def k6{i j:Str}:decide (V.str i=V.str j)=(i == j):=by
 rw[G1]
 simp
def k7{i j:Array UInt8}:decide (V.Ac i=V.Ac j)=(i.toList == j.toList):=by
 rw[G1]
 cases i
 cases j
 simp
section
variable {X:Cx} {a b c:Expr} {ta tb tc:TE} {pos:Pos}
def aD{pins:Va}{σ:St}{H:Hp}{s:Shared}{Q:VK}{k k':Bool}(I:Inv X pins σ H s)(q:Q (.bl k) H)(e:k=k'):EP X pins σ Q (.bool k') s:=by
 subst e
 exact⟨.bl k,H,I,rfl,q⟩
def mI:ft X (compareOp .Eq) w_:=by
 intro pins s σ H x y v u Q I rx ry h
 obtain⟨hs,q⟩:=h
 cases x with
 |non=>
  cases rx
  cases y with
  |non=>cases ry;exact PySem.EqNone.eq_none_none (aD I q (by simp))
  |bl j=>cases ry;exact PySem.EqNone.eq_none_bool (aD I q (by simp))
  |int j=>obtain⟨t',rfl⟩:=ry;exact PySem.EqNone.eq_none_int (aD I q (by simp))
  |str j=>obtain⟨t',rfl⟩:=ry;exact PySem.EqNone.eq_none_str (aD I q (by simp))
  |_=>exact absurd (show false=true from hs) EV
 |bl i=>
  cases rx
  cases y with
  |non=>cases ry;exact PySem.EqNone.eq_bool_none (aD I q (by simp))
  |bl j=>cases ry;exact eq_bool (aD I q mH)
  |str j=>obtain⟨t',rfl⟩:=ry;exact PySem.EqMixed.eq_bool_str (aD I q (by simp))
  |_=>exact absurd (show false=true from hs) EV
 |int i=>
  obtain⟨t,rfl⟩:=rx
  cases y with
  |non=>cases ry;exact PySem.EqNone.eq_int_none (aD I q (by simp))
  |int j=>obtain⟨t',rfl⟩:=ry;exact eq_int (aD I q k5)
  |str j=>obtain⟨t',rfl⟩:=ry;exact PySem.EqMixed.eq_int_str (aD I q (by simp))
  |_=>exact absurd (show false=true from hs) EV
 |str i=>
  obtain⟨t,rfl⟩:=rx
  cases y with
  |non=>cases ry;exact PySem.EqNone.eq_str_none (aD I q (by simp))
  |bl j=>cases ry;exact PySem.EqMixed.eq_str_bool (aD I q (by simp))
  |int j=>obtain⟨t',rfl⟩:=ry;exact PySem.EqMixed.eq_str_int (aD I q (by simp))
  |str j=>obtain⟨t',rfl⟩:=ry;exact eq_str (aD I q k6)
  |_=>exact absurd (show false=true from hs) EV
 |Ac i=>
  obtain⟨t,rfl⟩:=rx
  cases y with
  |Ac j=>obtain⟨t',rfl⟩:=ry;exact PySem.W.eq_bytes (aD I q k7)
  |_=>exact absurd (show false=true from hs) EV
 |_=>cases y<;>exact absurd (show false=true from hs) EV
def mJ:ft X (compareOp .NotEq) xf:=by
 intro pins s σ H x y v u Q I rx ry h
 obtain⟨hs,q⟩:=h
 cases x with
 |non=>
  cases rx
  cases y with
  |non=>cases ry;exact PySem.EqNone.ne_none_none (aD I q (by simp))
  |bl j=>cases ry;exact PySem.EqNone.ne_none_bool (aD I q (by simp))
  |int j=>obtain⟨t',rfl⟩:=ry;exact PySem.EqNone.ne_none_int (aD I q (by simp))
  |str j=>obtain⟨t',rfl⟩:=ry;exact PySem.EqNone.ne_none_str (aD I q (by simp))
  |_=>exact absurd (show false=true from hs) EV
 |bl i=>
  cases rx
  cases y with
  |non=>cases ry;exact PySem.EqNone.ne_bool_none (aD I q (by simp))
  |bl j=>cases ry;exact ne_bool (aD I q (Fl not mH))
  |str j=>obtain⟨t',rfl⟩:=ry;exact PySem.EqMixed.ne_bool_str (aD I q (by simp))
  |_=>exact absurd (show false=true from hs) EV
 |int i=>
  obtain⟨t,rfl⟩:=rx
  cases y with
  |non=>cases ry;exact PySem.EqNone.ne_int_none (aD I q (by simp))
  |int j=>obtain⟨t',rfl⟩:=ry;exact ne_int (aD I q (Fl not k5))
  |str j=>obtain⟨t',rfl⟩:=ry;exact PySem.EqMixed.ne_int_str (aD I q (by simp))
  |_=>exact absurd (show false=true from hs) EV
 |str i=>
  obtain⟨t,rfl⟩:=rx
  cases y with
  |non=>cases ry;exact PySem.EqNone.ne_str_none (aD I q (by simp))
  |bl j=>cases ry;exact PySem.EqMixed.ne_str_bool (aD I q (by simp))
  |int j=>obtain⟨t',rfl⟩:=ry;exact PySem.EqMixed.ne_str_int (aD I q (by simp))
  |str j=>obtain⟨t',rfl⟩:=ry;exact ne_str (aD I q (Fl not k6))
  |_=>exact absurd (show false=true from hs) EV
 |Ac i=>
  obtain⟨t,rfl⟩:=rx
  cases y with
  |Ac j=>obtain⟨t',rfl⟩:=ry;exact PySem.W.ne_bytes (aD I q (Fl not k7))
  |_=>exact absurd (show false=true from hs) EV
 |_=>cases y<;>exact absurd (show false=true from hs) EV
def uo:ft X (compareOp .Lt) (oY fun i j=>.bl (decide (i < j))):=rj fun _ _ _ _ _ _ _ q=>lt_int q
def uq:ft X (compareOp .Gt) (oY fun i j=>.bl (decide (j < i))):=rj fun _ _ _ _ _ _ _ q=>gt_int q
def ur:ft X (compareOp .GtE) (oY fun i j=>.bl (decide (j<=i))):=rj fun _ _ _ _ _ _ _ q=>ge_int q
def lN:ft X (compareOp .In) (fun x y H Q=>∃i j,x = .str i/\y = .str j/\Q (.bl (!(Builtin.Str.occurrences j i 0 j.length 1).isEmpty)) H):=by
 intro pins s σ H x y v u Q I rx ry h
 obtain⟨i,j,rfl,rfl,q⟩:=h
 obtain⟨t,rfl⟩:=rx
 obtain⟨t',rfl⟩:=ry
 exact in_str (aD I q rfl)
def bb(b:Expr){op:CmpOp}(h:op ≠ .In:=by decide)(h2:op ≠ .NotIn:=by decide):behindInMarks op b=false:=by
 have e1:(op == CmpOp.In)=false:=by cases op<;>first|rfl|exact absurd rfl h
 have e2:(op == CmpOp.NotIn)=false:=by cases op<;>first|rfl|exact absurd rfl h2
 cases b<;>simp[behindInMarks,e1,e2]
def o0{op:CmpOp}{r:R2}(ho:ft X (compareOp op) r)(ha:PE X a ta)(hb:PE X b tb)(hm:behindInMarks op b=false):PE X (.Compare a [op] [b] pos) (ug r ta tb):=by
 intro pins s σ H Q I h
 exact wpAny_Compare1 (rh ha hb I h fun v u s2 x y H2 I2 rx ry q=>ho pins s2 σ H2 x y v u Q I2 rx ry q) hm
def ut(t:TE):TT:=fun σ H Q=>t σ H fun x H'=>∃k,x = .bl k/\Q k H'
def o6{op:CmpOp}{r:R2}(ho:ft X (compareOp op) r)(ha:PE X a ta)(hb:PE X b tb)(hm:behindInMarks op b=false):PT X (.Compare a [op] [b] pos) (ut (ug r ta tb)):=by
 intro pins s σ H Q I h
 refine wpAny_isTrue_Compare1 (xI (ha pins s σ H _ I h) fun v s1 ⟨x,H1,I1,r1,q1⟩=>xI (hb pins s1 σ H1 _ I1 q1) fun u s2 ⟨y,H2,I2,r2,q2⟩=>
  xI (ho pins s2 σ H2 x y v u _ I2 r1 r2 q2) fun c s3 ⟨z,H3,I3,r3,k,e,q3⟩=>?_) hm
 subst e
 cases r3
 exact wpAny_truthy_bool ⟨H3,I3,q3⟩
def fu:(sizeLine:Nat) < 2 ^ 63:=by rw[sizeLine_eq];decide
def km:ft X (binaryOp .Add) (fun x y H Q=>∃i j,x = .str i/\y = .str j/\i.length+j.length<=sizeLine/\Q (.str (i++j)) H):=by
 intro pins s σ H x y v u Q I rx ry h
 obtain⟨i,j,rfl,rfl,hz,q⟩:=h
 obtain⟨t,rfl⟩:=rx
 obtain⟨t',rfl⟩:=ry
 exact add_str (fun t' tk=>⟨.str (i++j),H,I.tok _,⟨_,rfl⟩,q⟩) hz
def eQ{x:V}{us:Vv}(r:Vals [x] us):∃u,us=[u]/\RelV x u:=by
 cases r with
 |cons r1 r2=>cases r2;exact⟨_,rfl,r1⟩
def qy{x y:V}{us:Vv}(r:Vals [x,y] us):∃u w',us=[u,w']/\RelV x u/\RelV y w':=by
 cases r with
 |cons r1 r2=>
  cases r2 with
  |cons r3 r4=>cases r4;exact⟨_,_,rfl,r1,r3⟩
def lO(hc:X.calm=true):dh X (.builtin "max") (fun xs H Q=>∃i j,xs=[.int i,.int j]/\Q (.int (if j > i then j else i)) H):=by
 intro pins s σ H xs us Q I r h
 obtain⟨i,j,rfl,q⟩:=h
 obtain⟨u,w',rfl,⟨t,rfl⟩,⟨t',rfl⟩⟩:=qy r
 refine max_two_ints (I.ok.hd hc) fun h' tk k=>⟨_,H,I.kept k,?_,q⟩
 by_cases hj:j > i
 ·rw[if_pos hj,if_pos hj];exact⟨_,rfl⟩
 ·rw[if_neg hj,if_neg hj];exact⟨_,rfl⟩
end
def RelO.some_of{v:V}{o:Option Value}(r:RelO (some v) o):∃u,o=some u/\RelV v u:=by
 cases o with
 |none=>exact(show False from r).elim
 |some u=>exact⟨u,rfl,r⟩
structure Room (k:Nat) (A:Around):Prop where
 hd:A.handled=none
 dp:A.depth+3 * k+5 < recursionLimit
 un:A.units+16 * k+200 < cLine
 gd:A.guards=some []
def Room.mono{j k:Nat}{A:Around}(r:Room k A)(h:j<=k):Room j A:=⟨r.hd,by have:=r.dp;omega,by have:=r.un;omega,r.gd⟩
theorem Room.deeper{k:Nat}{A:Around}(r:Room (k+1) A)(env:Env):Room k (A.deeper env):=
 ⟨r.hd,by have:=r.dp;show A.depth+1+3 * k+5 < _;omega,by have:=r.un;show A.units+3+16 * k+200 < _;omega,r.gd⟩
theorem Room.depth{k:Nat}{A:Around}(r:Room k A):A.depth < recursionLimit:=by have:=r.dp;omega
def uu:TA:=fun _ H Q=>Q [] H
def qz(ta:TE)(tr:TA):TA:=fun σ H Q=>ta σ H fun x H1=>tr σ H1 fun xs H2=>Q (x::xs) H2
section
variable {X:Cx} {e:Expr} {es:List Expr} {te:TE} {t:TA} {pos:Pos}
def rD:PA X [] uu:=fun _ _ _ _ H Q I h=>Gr ⟨[],H,I,.nil,h⟩
def o7(ha:PE X e te)(hr:PA X es t)(hs:starEach (e::es) X.env=(false,eval e X.env)::starEach es X.env:=by rfl):PA X (e::es) (qz te t):=by
 intro pos pins s σ H Q I h
 rw[hs]
 show wpAny _ _ (spliced ((false,eval e X.env)::backTo pos (starEach es X.env))) _ _ s
 refine FL (xI (ha pins s σ H _ I h) fun u s1 ⟨x,H1,I1,r1,q1⟩=>?_)
 exact xI (hr pos pins s1 σ H1 _ I1 q1) fun us s2 ⟨xs,H2,I2,r2,q2⟩=>⟨x::xs,H2,I2,.cons r1 r2,q2⟩
def vY(t:TA):TE:=fun σ H Q=>t σ H fun xs H1=>xs.length<=sizeLine/\∀p,H1 p=none->Q (.ref p) (upd H1 p (.tup xs))
def vZ(t:TA):TE:=fun σ H Q=>t σ H fun xs H1=>xs.length<=sizeLine/\∀p,H1 p=none->Q (.ref p) (upd H1 p (.lst xs))
def rE{x1}(h:PA X es t):PE X (.Tuple es x1 pos) (vY t):=by
 intro pins s σ H Q I hq
 refine wpAny_Tuple_spliced (xI (h pos pins s σ H _ I hq) fun us s1 ⟨xs,H1,I1,r,z,q⟩=>⟨by rw[<-r.length];exact z,?_⟩)
 have hf:H1 s1.heap.objs.size=none:=I1.hok.fresh (EJ _)
 refine⟨.ref s1.heap.objs.size,upd H1 s1.heap.objs.size (.tup xs),I1.laid (t':=s1.toks) (fun b u e=>EF _ e) (EJ _) ?_,rfl,q _ hf⟩
 exact⟨z,us,r,⟨_,EL _ rfl,rfl,rfl,_,rfl⟩⟩
def rF(h:PA X es t):PE X (.List es pos) (vZ t):=by
 intro pins s σ H Q I hq
 refine wpAny_List_spliced (xI (h pos pins s σ H _ I hq) fun us s1 ⟨xs,H1,I1,r,z,q⟩=>⟨by rw[<-r.length];exact z,?_⟩)
 have hf:H1 s1.heap.objs.size=none:=I1.hok.fresh (EJ _)
 refine⟨.ref s1.heap.objs.size,upd H1 s1.heap.objs.size (.lst xs),I1.laid (t':=s1.toks) (fun b u e=>EF _ e) (EJ _) ?_,rfl,q _ hf⟩
 exact⟨z,us,0,r,EL _ rfl⟩
end
abbrev Sp:=List V->Hp->VK->XK->Prop
abbrev kf:=List Env->Hp->Shared->XK->Value->Shared->Prop
structure lP (P:Program) (w:World) (K:Vo) (mg:Vr) (base:Heap) (A:Around) (outer:List Env) (s:Shared) (H:Hp):Prop where
 frames:A.frames=some outer
 mod:Mod K mg base
 bs:∀b o,base.get? b=some o->s.heap.get? b=some o/\H b=none
 Ad:base.objs.size<=s.heap.objs.size
 yQ:s.heap.FunFrames base outer
 Ar:∀b∈frs outer,H b=none
 hok:yF P w H s.heap
 bare:AllBare s.gens
def CE(outer:List Env)(P:Program)(w:World)(H:Hp)(s:Shared)(Q:VK)(u:Value)(s':Shared):Prop:=
 ∃v H',s'.os=s.os/\AllBare s'.gens/\Un (frs outer) [] H H' s.heap s'.heap/\yF P w H' s'.heap/\RelV v u/\Q v H'
def CR(CX:kf)(outer:List Env)(P:Program)(w:World)(H:Hp)(s:Shared)(Q:VK)(E:XK)(r:Result)(s':Shared):Prop:=
 match r with
 | .ok (.ret u)=>CE outer P w H s Q u s'
 | .ok _=>False
 | .error e=>CX outer H s E e s'
structure g_ (P:Program) (w:World) (K:Vo) (mg:Vr) (base:Heap) (CX:kf) (k:Nat) (f:Addr) (fd:FuncData) (ps:Vs) (sp:Sp):Prop where
 len:∀vs H Q E,sp vs H Q E->vs.length=ps.length
 run:∀(A:Around) (outer:List Env) (s:Shared) (H:Hp) (args:Args) (us:Vv) (vs:List V) (Q:VK) (E:XK),Room k A->lP P w K mg base A outer s H->BindsTo s fd args (ps.zip us)->Vals vs us->sp vs H Q E->
  codeAny (model P w) A (.call (.ref f) args) (CR CX outer P w H s Q E) s
section
variable {X:Cx} {pins:Va} {σ:St} {H:Hp} {s s':Shared}
def Inv.Bg(I:Inv X pins σ H s):lP X.prog X.w X.K X.mg X.base X.A X.stack s H:=
 ⟨I.ok.frames,I.ok.mod,I.bs,EW I.ok.Ad I.sz,I.stack,I.zR,I.hok,I.bare⟩
def Inv.after{Q:VK}{u:Value}(I:Inv X pins σ H s)(h:CE X.stack X.prog X.w H s Q u s'):EP X pins σ Q u s':=by
 obtain⟨v,H',os,bare,un,hok,r,q⟩:=h
 obtain⟨hh,g,d,t,os'⟩:=s'
 obtain rfl:os'=s.os:=os
 exact⟨v,H',I.call (h':=hh) (g':=g) (d':=d) (t':=t) (ch:=[]) un hok bare (fun b z=>absurd z (by simp)),r,q⟩
end
def uv(sp:Sp)(dvs:List V)(E:XK)(t:TA):TE:=fun σ H Q=>t σ H fun vs H1=>sp (vs++dvs) H1 Q E
def Binds(K:Vo)(fd:FuncData)(ps:Vs)(ds:Vv):Prop:=
 ∀(s:Shared) (us:Vv),K.In s.heap->(us++ds).length=ps.length->BindsTo s fd ⟨us,[]⟩ (ps.zip (us++ds))
def Binds.all{K:Vo}{fd:FuncData}{ps:Vs}(h:∀us:List Value,us.length=ps.length->bindArgs fd ⟨us,[]⟩=pure (ps.zip us)):Binds K fd ps []:=fun s us _ hl=>by
 rw[Gn]at hl ⊢
 exact .of_eq (h us hl)
def iS(CX:kf)(X:Cx)(E:XK):Prop:=∀(pins:Va) (σ:St) (H:Hp) (s:Shared) (e:Value) (s':Shared),Inv X pins σ H s->CX X.stack H s E e s'->X.xe e s'
section
variable {X:Cx} {CX:kf} {k:Nat} {f C:Addr} {fd:FuncData} {ps:Vs} {sp:Sp} {dvs:List V} {ds:Vv} {E:XK} {x m:Str} {p pos apos:Pos} {e o:Expr} {es:List Expr} {ta:TE} {t:TA}
def rG{pins:Va}{σ:St}{H:Hp}{s:Shared}{Q:VK}{us:Vv}{vs:List V}(F:g_ X.prog X.w X.K X.mg X.base CX k f fd ps sp)(hr:Room k X.A)(hb:Binds X.K fd ps ds)(hd:Vals dvs ds)(hx:iS CX X E)
  (I:Inv X pins σ H s) (r:Vals vs us) (h:sp (vs++dvs) H Q E):wpAny (model X.prog X.w) X.A (call (.ref f) us) (EP X pins σ Q) X.xe s:=by
 have r2:Vals (vs++dvs) (us++ds):=r.append hd
 have hl:(us++ds).length=ps.length:=by rw[<-r2.length];exact F.len _ _ _ _ h
 refine wpAny_call (codeAny_mono (F.run X.A X.stack s H ⟨us,[]⟩ (us++ds) (vs++dvs) Q E hr I.Bg (hb s us I.AD hl) r2 h) fun r s' hq=>?_)
 cases r with
 |error e=>exact hx pins σ H s e s' I hq
 |ok fl=>
  cases fl with
  |ret u=>exact I.after hq
  |next=>exact False.elim hq
  |brk=>exact False.elim hq
  |cont=>exact False.elim hq
def o8(F:g_ X.prog X.w X.K X.mg X.base CX k f fd ps sp)(hr:Room k X.A)(hg:Gl X x)(hm:X.mg x=some (.ref f))(hk:PySem.W.keepIn X.K (.ref f)=true)(hb:Binds X.K fd ps ds)(hd:Vals dvs ds)(hx:iS CX X E)
  (ha:PA X (e::es) t) (hdb:(x == ("__debug__":Str))=false:=by decide) (he:starEach (e::es) X.env=(false,eval e X.env)::starEach es X.env:=by rfl) (hpl:(backTo pos (starEach es X.env)).any (·.1)=false:=by rfl) :
  PE X (.Call (.Name x p) (e::es) [] pos) (uv sp dvs E t):=by
 intro pins s σ H Q I h
 refine FN (k0 I hg hm ?_ hdb)
 refine PySem.W.callWith_K (h₀:=X.base) I.ok.mod.AS hk (xI (ha pos pins s σ H _ I h) fun us s1 ⟨vs,H1,I1,r,q⟩=>⟨I1.AD,?_⟩) he hpl
 exact rG F hr hb hd hx I1 r q
end
structure bX (N P:Vs) (sc:Scope):Prop where
 kind:sc.kind = .function
 co:sc.isCoroutine=false
 gen:sc.isGenerator=false
 nd:N.Nodup
 pre:N.take P.length=P
 par:∀x∈P,sc.names.lookup x=some .local\/sc.names.lookup x=some .cell
 AT:∀y∈sc.names,y.2 ≠ .free
theorem il{kindOf:Str->Option NameKind}{x:Str}:∀{binds:List (Str×Value)} {m:Vr},(∀v,(x,v) ∉ binds)->bindL kindOf binds m x=m x
 |[],_,_=>rfl
 |(n,v)::r,m,h=>by
  unfold bindL
  rw[il fun w hw=>h w (Fi _ hw)]
  split
  ·have:x≠n:=by rintro rfl;exact h v FJ
   simp[this]
  ·rfl
theorem im{kindOf:Str->Option NameKind}{x:Str}:∀{binds:List (Str×Value)} {m:Vr},(∀v,(x,v) ∉ binds)->bindC kindOf binds m x=m x
 |[],_,_=>rfl
 |(n,v)::r,m,h=>by
  unfold bindC
  rw[im fun w hw=>h w (Fi _ hw)]
  split
  ·rfl
  ·have:x≠n:=by rintro rfl;exact h v FJ
   simp[this]
theorem io{kindOf:Str->Option NameKind}{x:Str}{v:Value}:∀{P:Vs} {vs:Vv} {i:Nat} {m:Vr},P.Nodup->P[i]?=some x->vs[i]?=some v->kindOf x=some .local->
  bindL kindOf (P.zip vs) m x=some v
 |[],_,_,_,_,h,_,_=>by simp at h
 |_::_,[],_,_,_,_,h,_=>by simp at h
 |p::P,w::vs,0,m,nd,h1,h2,hk=>by
  simp at h1 h2;subst h1;subst h2
  show bindL kindOf ((p,w)::P.zip vs) m p=_
  unfold bindL
  rw[il fun v hv=>(EY.mp nd).1 (Gp hv).1,if_pos hk]
  simp
 |p::P,w::vs,i+1,m,nd,h1,h2,hk=>by
  show bindL kindOf ((p,w)::P.zip vs) m x=_
  unfold bindL
  exact io (i:=i) (EY.mp nd).2 (by simpa using h1) (by simpa using h2) hk
theorem ip{kindOf:Str->Option NameKind}{x:Str}{v:Value}:∀{P:Vs} {vs:Vv} {i:Nat} {m:Vr},P.Nodup->P[i]?=some x->vs[i]?=some v->kindOf x≠some .local->
  bindC kindOf (P.zip vs) m x=some v
 |[],_,_,_,_,h,_,_=>by simp at h
 |_::_,[],_,_,_,_,h,_=>by simp at h
 |p::P,w::vs,0,m,nd,h1,h2,hk=>by
  simp at h1 h2;subst h1;subst h2
  show bindC kindOf ((p,w)::P.zip vs) m p=_
  unfold bindC
  rw[im fun v hv=>(EY.mp nd).1 (Gp hv).1,if_neg hk]
  simp
 |p::P,w::vs,i+1,m,nd,h1,h2,hk=>by
  show bindC kindOf ((p,w)::P.zip vs) m x=_
  unfold bindC
  exact ip (i:=i) (EY.mp nd).2 (by simpa using h1) (by simpa using h2) hk
noncomputable def bn(N:Vs)(vs:List V):St:=vs.map some++List.replicate (N.length - vs.length) none
noncomputable def iT(CX:kf)(P:Program)(w:World)(K:Vo)(mg:Vr)(base:Heap)(N:Vs)(qual:Str)(scope:Scope)(f:Addr)(cd:Value)(A:Around)(outer:List Env)(s:Shared)(H:Hp)(E:XK):Cx where
 prog:=P
 w:=w
 K:=K
 mg:=mg
 base:=base
 A:=A.deeper (envOfC qual scope s.heap.objs.size f cd)
 N:=N
 s₀:=s
 H₀:=H
 env:=envOfC qual scope s.heap.objs.size f cd
 outer:=outer
 stack:=envOfC qual scope s.heap.objs.size f cd::outer
 ex:=[]
 calm:=true
 fn:=fun _=>true
 pn:=[]
 xe:=fun e s'=>wpAny (model P w) (A.deeper (envOfC qual scope s.heap.objs.size f cd)) (leaving (envOfC qual scope s.heap.objs.size f cd) e) (fun _ s''=>CX outer H s E e s'') (fun e' s''=>CX outer H s E e' s'') s'
def jD{sc:Scope}{n:Nat}{x:Str}(h:sc.names.lookup x=some .cell):∃c,(cellsFrom n sc.names []).lookup x=some c:=by
 have q:=Hh sc.names n [] (.inl h)
 exact Option.isSome_iff_exists.mp q
def iq{CX:kf}{P:Program}{w:World}{K:Vo}{mg:Vr}{base:Heap}{N ps:Vs}{qual:Str}{scope:Scope}{f:Addr}{cd:Value}{A:Around}{outer:List Env}{s s1:Shared}{H:Hp}{E:XK}{us:Vv}{vs:List V}
  (S:bX N ps scope) (hd:A.handled=none) (e0:lP P w K mg base A outer s H) (hl:vs.length=ps.length) (r:Vals vs us)
  (x:InCallC s s.heap.objs.size (bindL (envOfC qual scope s.heap.objs.size f cd).kindOf (ps.zip us) fun _=>none) (cellsFrom (s.heap.objs.size+1) scope.names []) (bindC (envOfC qual scope s.heap.objs.size f cd).kindOf (ps.zip us) fun _=>none) s1) :
  Inv (iT CX P w K mg base N qual scope f cd A outer s H E) [] (bn N vs) H s1:=by
 have hpl:ps.length<=N.length:=by have:=Fl List.length S.pre;rw[Fz]at this;omega
 obtain⟨h1,tk,rfl,hk⟩:=x.done
 have Av:∀b:Addr,b ∉ (iT CX P w K mg base N qual scope f cd A outer s H E).ex:=fun b z=>absurd (show b∈([]:List Addr)from z) (by simp)
 refine⟨⟨e0.mod,S.kind,rfl,rfl,EJ _,fun y z c h1 h2=>?_,fun y hy=>?_,fun y c _ h=>?_,fun _=>hd,Around.frames_deeper e0.frames,.inr ⟨rfl,rfl⟩,fun b z=>absurd z (Av b),e0.bs,e0.Ad,fun b _ _=>Av b,fun b z=>absurd z (Av b),e0.yQ,e0.Ar⟩,
  rfl,e0.bare,Un.kept hk,⟨_,x.toInCall.ns,fun i y v h1 h2 h3=>?_⟩,fun y c h=>⟨_,x.cell y c h⟩,e0.hok.fresh (EJ _),fun y c h=>?_,fun p hp=>absurd (show p∈([]:Va)from hp) (by simp),e0.hok.kept hk,?_⟩
 ·exact name_of_addr x.apart (FF h1) (FF h2)
 ·have hy:scope.names.lookup y=some .cell\/scope.names.lookup y=some .free:=hy
  rcases hy with hy|hy
  ·exact jD hy
  ·exact absurd rfl (S.AT _ (FF hy))
 ·exact GU (x.above y c (FF h))
 ·have hi:i < vs.length:=by
   unfold bn at h2
   by_cases hi:i < vs.length
   ·exact hi
   ·rw[E7 (by simpa using hi)]at h2
    rw[FP]at h2
    split at h2<;>cases h2
  have ha:vs[i]?=some v:=by
   unfold bn at h2
   rw[E5 (by simpa using hi),E1]at h2
   cases e:vs[i]? with
   |none=>rw[e]at h2;cases h2
   |some a=>rw[e]at h2;cases h2;rfl
  obtain⟨u,hu,rv⟩:=r.get ha
  have hp:ps[i]?=some y:=by
   rw[<-S.pre,Gx (by omega)];exact h1
  have Bx:ps.Nodup:=by rw[<-S.pre];exact S.nd.sublist (GL _ _)
  refine⟨u,rv,?_⟩
  rcases S.par y (GR hp)with k|k
  ·exact .inl ⟨k,io Bx hp hu k⟩
  ·obtain⟨c,e⟩:=jD (n:=s.heap.objs.size+1) k
   refine .inr ⟨.inl k,c,e,?_⟩
   have q:=x.cell y c e
   rw[ip Bx hp hu (by show scope.names.lookup y≠_;rw[k];decide)]at q
   exact q
 ·exact .inl (e0.hok.fresh (GU (x.above y c (FF h))))
 ·unfold bn
  show _=N.length
  rw[EM,EG,Fq]
  omega
def ux{CX:kf}{P:Program}{w:World}{K:Vo}{mg:Vr}{base:Heap}{k:Nat}{f:Addr}{name qual:Str}{params:Arguments}{body:List Stmt}{scope:Scope}{dV kV doc pm cdv ct oc:Value}{an od:Option Addr}
  {osl:Array (Option Value)} {N ps:Vs} {sp:Sp} (lk:K.lookup f=some ⟨oc,od,.func (PySem.W.fnOf name qual params body scope dV kV doc pm an cdv ct),osl⟩) (hcd:PySem.W.codeIn K cdv qual=true) (S:bX N ps scope)
  (len:∀vs H Q E,sp vs H Q E->vs.length=ps.length)
  (hbody:∀(A:Around) (outer:List Env) (s:Shared) (H:Hp) (vs:List V) (Q:VK) (E:XK),Room k (A.deeper (envOfC qual scope s.heap.objs.size f cdv))->sp vs H Q E->
   ∃t,zB (iT CX P w K mg base N qual scope f cdv A outer s H E) body t/\t { nx:=fun _ H'=>Q .non H',rt:=Q } (bn N vs) H) :
  g_ P w K mg base CX (k+1) f (PySem.W.fnOf name qual params body scope dV kV doc pm an cdv ct) ps sp:=by
 refine⟨len,fun A outer s H args us vs Q E hr e0 hb r zS=>?_⟩
 have hl:=len _ _ _ _ zS
 have KX:K.In s.heap:=e0.mod.AS.keeps fun b o e=>(e0.bs b o e).1
 have lim:s.heap.NoLimit:=e0.mod.nolimit.keeps fun b o e=>(e0.bs b o e).1
 have hkind:∀y∈ps.zip us,scope.names.lookup y.1=some .local\/(scope.names.lookup y.1=some .cell/\((cellsFrom (s.heap.objs.size+1) scope.names []).lookup y.1).isSome=true):=fun⟨n,v⟩ hy=>by
  rcases S.par n (Gp hy).1 with q|q
  ·exact .inl q
  ·exact .inr ⟨q,Hh _ _ _ (.inl q)⟩
 refine codeAny_call_function hr.depth (KX _ _ lk) rfl S.co S.gen rfl (PySem.W.codeRec_of KX hcd) (hb _ _ _ _ ?_)
 refine wpAny_newFunctionEnv_cells S.kind hkind fun env he s1 x=>?_
 subst he
 refine⟨lim.keeps x.toInCall.keep,codeAny_func ?_⟩
 obtain⟨t,ht,hq⟩:=hbody A outer s H vs Q E (hr.deeper _) zS
 have I:Inv (iT CX P w K mg base N qual scope f cdv A outer s H E) [] (bn N vs) H s1:=iq S hr.hd e0 hl r x
 refine F7 (ht [] s1 (bn N vs) H _ I hq) (fun fl s' hs=>?_) fun e s' hs=>hs
 have fin:∀{σ':St} {H':Hp} {v:V} {u:Value},Inv (iT CX P w K mg base N qual scope f cdv A outer s H E) [] σ' H' s'->RelV v u->Q v H'->CE outer P w H s Q u s':=
  fun{σ' H' v u} J rv q=>⟨v,H',J.os,J.bare,J.base,J.hok,rv,q⟩
 cases fl with
 |ret u=>
  obtain⟨v,σ',H',J,rv,q⟩:=hs
  exact fin J rv q
 |next=>
  obtain⟨σ',H',J,q⟩:=hs
  exact fin (v:=V.non) (u:=Value.none) J rfl q
 |brk=>
  obtain⟨_,_,_,q⟩:=hs
  exact False.elim q
 |cont=>
  obtain⟨_,_,_,q⟩:=hs
  exact False.elim q
section
variable {X:Cx} {x:Str} {p pos:Pos} {e:Expr} {es:List Expr} {t:TA} {id T:String} {r:List V->Hp->VK->Prop}
def wT(r:List V->Hp->VK->Prop)(t:TA):TE:=fun σ H Q=>t σ H fun vs H1=>r vs H1 Q
def mK(hc:dh X (.builtin id) r)(hg:Gl X x)(hm:X.mg x=none)(hv:bootBuiltins x=some (.builtin id))(ha:PA X (e::es) t)(hn:x ≠ "__name__":=by decide)(hdb:(x == ("__debug__":Str))=false:=by decide)
  (he:starEach (e::es) X.env=(false,eval e X.env)::starEach es X.env:=by rfl) (hpl:(backTo pos (starEach es X.env)).any (·.1)=false:=by rfl):PE X (.Call (.Name x p) (e::es) [] pos) (wT r t):=by
 intro pins s σ H Q I h
 refine FN (eC I hg hm hv ?_ hn hdb)
 exact PyProof.Rows.callWith_builtin1 (xI (ha pos pins s σ H _ I h) fun us s1 ⟨vs,H1,I1,r1,q1⟩=>hc pins s1 σ H1 vs us Q I1 r1 q1) he hpl
def lQ(hc:dh X (.type T) r)(hg:Gl X x)(hm:X.mg x=none)(hv:bootBuiltins x=some (.type T))(ha:PA X (e::es) t)(hn:x ≠ "__name__":=by decide)(hdb:(x == ("__debug__":Str))=false:=by decide)
  (he:starEach (e::es) X.env=(false,eval e X.env)::starEach es X.env:=by rfl) (hpl:(backTo pos (starEach es X.env)).any (·.1)=false:=by rfl):PE X (.Call (.Name x p) (e::es) [] pos) (wT r t):=by
 intro pins s σ H Q I h
 refine FN (eC I hg hm hv ?_ hn hdb)
 exact Fv (xI (ha pos pins s σ H _ I h) fun us s1 ⟨vs,H1,I1,r1,q1⟩=>hc pins s1 σ H1 vs us Q I1 r1 q1) he hpl
end
end L2
namespace HT
open PySem PyProof.Rows
section
open PySem.SeqAt
open PySem.AutoSeq1 (wpAny_loadPart')
open PySem.MeetsSeq PySem.MeetsSeq2 PySem.MeetsSeq3
end
section
variable {prog:Program} {w:World} {A:Around} {E:Vq} {s:Shared}
def o9{t b:Addr}{vs ws:Vv}{Q:Vq}(ht:IsTup s.heap t vs.toArray)(hb:IsTup s.heap b ws.toArray)(hv:vs≠[])
  (h1:ws=[]->Q (.ref t) s) (h2:ws≠[]->Q (.ref s.heap.objs.size) { s with heap:=s.heap.push { cls:=.type "tuple",data:=.seq (vs++ws).toArray } })
  (hsz:vs.length+ws.length<=sizeLine):wpAny (model prog w) A (binaryOp .Add (.ref t) (.ref b)) Q E s:=by
 obtain⟨⟨cls,dd,data,sl⟩,ho,hc,n,hd⟩:=id ht
 obtain⟨⟨BU,dd2,data2,sl2⟩,ho2,hc2,n2,hd2⟩:=id hb
 simp only at hc hd hc2 hd2
 subst hc hd hc2 hd2
 have e:vs.toArray++ws.toArray=(vs++ws).toArray:=by simp
 by_cases hw:ws=[]
 ·exact concat_meets ⟨_,ho,rfl⟩ ⟨_,ho2,rfl⟩ noFill_tuple_add seq_tuple_add Hi G7 (G0 _ _)
   (tuple_addW1 t b vs.toArray ws.toArray n n2 dd dd2 sl sl2 (by simpa using hv) (by simp[hw])) ⟨ho,ho2,h1 hw⟩
 ·refine concat_meets ⟨_,ho,rfl⟩ ⟨_,ho2,rfl⟩ noFill_tuple_add seq_tuple_add Hi G7 (G0 _ _)
   (tuple_addW2 t b vs.toArray ws.toArray n n2 dd dd2 sl sl2 (by simpa using hv) (by simpa using hw) (by rw[EH,EH];exact hsz)) ⟨ho,ho2,?_⟩
  rw[e]
  exact h2 hw
noncomputable def xO(n d:Nat):Option Int->Nat
 |none=>d
 |some v=>if v < 0 then (v+(n:Int)).toNat else min v.toNat n
def mL(n d:Nat):xO n d none=d:=rfl
def o_(n d k:Nat):xO n d (some (k:Int))=min k n:=by
 show(if (k:Int) < 0 then ((k:Int)+(n:Int)).toNat else min (k:Int).toNat n)=min k n
 rw[if_neg (by omega),GN]
def rH(n d:Nat)(hd:d<=n)(o:Option Int):xO n d o<=n:=by
 cases o with
 |none=>exact hd
 |some v=>
  show(if v < 0 then (v+(n:Int)).toNat else min v.toNat n)<=n
  by_cases hv:v < 0
  ·rw[if_pos hv];omega
  ·rw[if_neg hv];exact Nat.min_le_right _ _
def k8(v:Int)(n d:Nat):(if v < 0 then max (v+(n:Int)) 0 else min v (n:Int))=((xO n d (some v):Nat):Int):=by
 show(if v < 0 then max (v+(n:Int)) 0 else min v (n:Int))=(((if v < 0 then (v+(n:Int)).toNat else min v.toNat n):Nat):Int)
 by_cases hv:v < 0
 ·simp only[if_pos hv];omega
 ·simp only[if_neg hv];omega
def kn(lo hi:Option Int)(n:Nat):Builtin.Slice.sliceAdjust lo hi 1 (n:Int)=(((xO n 0 lo:Nat):Int),((xO n n hi:Nat):Int)):=by
 have h1:¬((1:Int) < 0):=by omega
 unfold Builtin.Slice.sliceAdjust
 simp only[h1,Gs]
 refine Prod.ext ?_ ?_
 ·cases lo with
  |none=>rfl
  |some v=>exact k8 v n 0
 ·cases hi with
  |none=>rfl
  |some v=>exact k8 v n n
def ko(i j:Nat):Builtin.Slice.slicePlaces (i:Int) (j:Int) 1=j - i:=by
 unfold Builtin.Slice.slicePlaces
 have h1:(1:Int) > 0:=by omega
 simp only[h1,G2,Int.ediv_one]
 split<;>omega
def gu{v:Value}{o:Option Int}{Q:Option Int->Shared->Prop}(p:IsPart v o)(h:Q o s):wpAny (model prog w) A (Builtin.Slice.slicePartIndex v) Q E s:=by
 cases p with
 |none=>exact slicePart_none h
 |int i t=>exact slicePart_int h
def cx{sl:Addr}{vl vu:Value}{lo hi:Option Int}{n:Nat}{Q:Int×Int×Nat->Shared->Prop}(hs:s.heap.IsSliceOf sl vl vu .none)(pl:IsPart vl lo)(pu:IsPart vu hi)
  (h:Q (((xO n 0 lo:Nat):Int),1,xO n n hi - xO n 0 lo) s):wpAny (model prog w) A (Builtin.Slice.sliceApplied (.ref sl) (pure (n:Int))) Q E s:=by
 obtain⟨os,hos,hcs,hds⟩:=id hs
 unfold Builtin.Slice.sliceApplied Builtin.Slice.sliceFields
 refine EE (EE (Fb hos hds (x:=vl) rfl (EE (Fb hos hds (x:=vu) rfl (EE (Fb hos hds (x:=.none) rfl (EI ?_)))))))
 refine EE (slicePart_none ?_)
 show wpAny _ _ (if ((1:Int) == 0)=true then _ else _) _ _ s
 rw[if_neg (by decide)]
 refine EE (gu pl (EE (gu pu (EE (EI ?_)))))
 show wpAny _ _ (match Builtin.Slice.sliceAdjust lo hi 1 (n:Int)with|(lo,hi)=>pure (lo,(1:Int),Builtin.Slice.slicePlaces lo hi 1)) _ _ s
 rw[kn lo hi n]
 show wpAny _ _ (pure (((xO n 0 lo:Nat):Int),(1:Int),Builtin.Slice.slicePlaces ((xO n 0 lo:Nat):Int) ((xO n n hi:Nat):Int) 1)) _ _ s
 rw[ko]
 exact EI h
def mM(xs:Vw)(i k:Nat):((List.range k).filterMap fun(m:Nat)=>xs[((i:Int)+(m:Int) * 1).toNat]?).toArray=((xs.toList.drop i).take k).toArray:=by
 have e:(fun(m:Nat)=>xs[((i:Int)+(m:Int) * 1).toNat]?)=fun m=>xs[i+m]?:=by
  funext m
  have:((i:Int)+(m:Int) * 1).toNat=i+m:=by omega
  rw[this]
 rw[e]
 have:=pick_run xs i k
 rw[List.filterMap_map]at this
 have e2:((fun x=>xs[x]?) ∘ fun x=>i+x)=fun m=>xs[i+m]?:=rfl
 rw[e2]at this
 rw[this]
def eR{t sl:Addr}{items:Vw}{vl vu:Value}{lo hi:Option Int}{Q:Vq}(ht:IsTup s.heap t items)(hs:s.heap.IsSliceOf sl vl vu .none)(pl:IsPart vl lo)(pu:IsPart vu hi)
  (hw:¬(xO items.size 0 lo=0/\xO items.size items.size hi=items.size))
  (h:Q (.ref s.heap.objs.size) { s with heap:=s.heap.push { cls:=.type "tuple",data:=.seq ((items.toList.drop (xO items.size 0 lo)).take (xO items.size items.size hi - xO items.size 0 lo)).toArray } })
  (hsz:items.size<=sizeLine):wpAny (model prog w) A (getItem (.ref t) (.ref sl)) Q E s:=by
 have zT:sizeOk (.seq ((items.toList.drop (xO items.size 0 lo)).take (xO items.size items.size hi - xO items.size 0 lo)).toArray):=by
  show((items.toList.drop (xO items.size 0 lo)).take (xO items.size items.size hi - xO items.size 0 lo)).toArray.size<=sizeLine
  rw[EH,Fz,FQ,GW]
  omega
 have hj:xO items.size items.size hi<=items.size:=rH _ _ (EJ _) hi
 obtain⟨os,hos,hcs,hds⟩:=id hs
 have BV:s.TypeIs (.ref sl) "slice":=⟨os,hos,hcs⟩
 unfold getItem
 try with_reducible refine FI ?_
 first|refine EE (EI ?_)|skip
 refine EE (wpAny_sequenceKey ht.typeIs (by decide) ?_)
 refine EE (Fg (name:=Str.ofString "__getitem__") ht.typeIs Fc
  (F0 Fc ht.typeIs entry_tuple_getitem ?_ (args_tuple_getitem _ _)))
 show wpAny _ _ (Builtin.Tuple.tupleItemsOf (.ref t) >>= _) _ _ s
 refine EE (tupleItemsOf_ ht ?_)
 refine EE (GD BV ?_)
 rw[if_pos (by decide)]
 refine EE (cx hs pl pu ?_)
 have hno:¬((((xO items.size 0 lo:Nat):Int) == 0&&(1:Int) == 1&&(xO items.size items.size hi - xO items.size 0 lo) == items.size)=true):=by
  intro q
  rw[Bool.and_eq_true,Bool.and_eq_true]at q
  have q1:((xO items.size 0 lo:Nat):Int)=0:=eq_of_beq q.1.1
  have q2:xO items.size items.size hi - xO items.size 0 lo=items.size:=eq_of_beq q.2
  exact hw ⟨by omega,by omega⟩
 show wpAny _ _ (if (((xO items.size 0 lo:Nat):Int) == 0&&(1:Int) == 1&&(xO items.size items.size hi - xO items.size 0 lo) == items.size)=true then _ else _) _ _ s
 rw[if_neg hno,mM]
 first
  |exact EE (m:=Builtin.Tuple.tupleExact _) (Ft (EI ⟨_,rfl,EI h⟩) zT)
  |exact EE (m:=Builtin.Tuple.tupleExact _) (Ft (EE (EI (EI ⟨_,rfl,EI h⟩))) zT)
  |exact EE (EE (m:=Builtin.Tuple.tupleExact _) (Ft (EI (EI ⟨_,rfl,EI h⟩)) zT))
  |exact EE (EE (m:=Builtin.Tuple.tupleExact _) (Ft (EI ⟨_,rfl,EI h⟩) zT))
end
end HT
namespace L2
open PySem PySem.Spec PyProof.Rows
abbrev TO:=St->Hp->(Option Int->Hp->Prop)->Prop
def PO(X:Cx)(e:Option Expr)(t:TO):Prop:=
 ∀(pins:Va) (s:Shared) (σ:St) (H:Hp) (Q:Option Int->Hp->Prop),Inv X pins σ H s->t σ H Q->
  wpAny (model X.prog X.w) X.A (evalPart e X.env) (fun u s'=>∃o H',Inv X pins σ H' s'/\IsPart u o/\Q o H') X.xe s
noncomputable def pc:TO:=fun _ H Q=>Q none H
noncomputable def uy(t:TE):TO:=fun σ H Q=>t σ H fun x H1=>∃i,x = .int i/\Q (some i) H1
section
variable {X:Cx} {e:Expr} {te:TE} {lo hi:Option Expr} {tl th:TO} {pos p2:Pos}
def pd:PO X none pc:=by
 intro pins s σ H Q I h
 rw[evalPart_none]
 exact EI ⟨none,H,I,.none,h⟩
def pe(h:PE X e te):PO X (some e) (uy te):=by
 intro pins s σ H Q I hw
 rw[evalPart_some]
 refine xI (h pins s σ H _ I hw) fun u s1 ⟨x,H1,I1,r1,q1⟩=>?_
 obtain⟨i,rfl,q⟩:=q1
 obtain⟨t,rfl⟩:=r1
 exact⟨some i,H1,I1,.int i t,q⟩
def tM(X:Cx)(r:V->Option Int->Option Int->Hp->VK->Prop):Prop:=
 ∀(pins:Va) (s:Shared) (σ:St) (H:Hp) (x:V) (v vl vu:Value) (lo hi:Option Int) (sl:Addr) (Q:VK),Inv X pins σ H s->RelV x v->s.heap.IsSliceOf sl vl vu .none->IsPart vl lo->IsPart vu hi->r x lo hi H Q->
  ∃T id,typeLookup (.type T) "__getitem__" = pure (some (.builtin id))/\s.TypeIs v T/\wpAny (model X.prog X.w) X.A (getItem v (.ref sl)) (EP X pins σ Q) X.xe s
def xg(r:V->Option Int->Option Int->Hp->VK->Prop)(te:TE)(tl th:TO):TE:=fun σ H Q=>te σ H fun x H1=>tl σ H1 fun l H2=>th σ H2 fun u H3=>r x l u H3 Q
def mN{r:V->Option Int->Option Int->Hp->VK->Prop}(hr:tM X r)(he:PE X e te)(hl:PO X lo tl)(hu:PO X hi th):PE X (.Subscript e (.Slice lo hi none p2) pos) (xg r te tl th):=by
 intro pins s σ H Q I h
 refine Subscript_ (xI (he pins s σ H _ I h) fun v s1 ⟨x,H1,I1,r1,q1⟩=>?_)
 refine wpAny_Slice (xI (hl pins s1 σ H1 _ I1 q1) fun vl s2 ⟨l,H2,I2,pl,q2⟩=>xI (hu pins s2 σ H2 _ I2 q2) fun vu s3 ⟨u,H3,I3,pu,q3⟩=>?_)
 rw[evalPart_none]
 refine EI ?_
 have I4:Inv X pins σ H3 { s3 with heap:=s3.heap.push { cls:=.type "slice",data:=.fields #[vl,vu,.none] } }:=I3.kept (t':=s3.toks) fun b ob q=>EF _ q
 obtain⟨T,id,hT,ht,hg⟩:=hr pins { s3 with heap:=s3.heap.push { cls:=.type "slice",data:=.fields #[vl,vu,.none] } } σ H3 x v vl vu l u s3.heap.objs.size Q I4 r1 (Heap.IsSliceOf.new ..) pl pu q3
 show wpAny (model X.prog X.w) X.A (subscriptTail e (.Slice lo hi none p2) v (.ref s3.heap.objs.size)) (EP X pins σ Q) X.xe { s3 with heap:=s3.heap.push { cls:=.type "slice",data:=.fields #[vl,vu,.none] } }
 exact tail_any (ops:=[.ref s3.heap.objs.size,v]) ht hT hg (by with_unfolding_all rfl)
noncomputable def gv(xs:List V)(lo hi:Option Int):List V:=(xs.drop (HT.xO xs.length 0 lo)).take (HT.xO xs.length xs.length hi - HT.xO xs.length 0 lo)
def fM(xs:List V)(lo hi:Option Int):(gv xs lo hi).length<=xs.length:=by
 unfold gv
 rw[Fz,FQ]
 omega
noncomputable def v1(K:Vo):V->Option Int->Option Int->Hp->VK->Prop:=fun x lo hi H Q=>∃a xs,x = .ref a/\SqT K H a xs/\
 ¬(HT.xO xs.length 0 lo=0/\HT.xO xs.length xs.length hi=xs.length)/\∀p,H p=none->Q (.ref p) (upd H p (.tup (gv xs lo hi)))
def rJ:tM X (v1 X.K):=by
 intro pins s σ H x v vl vu lo hi sl Q I rx hs pl pu h
 obtain⟨a,xs,rfl,hx,hw,q⟩:=h
 cases rx
 obtain⟨its,r,ht,hz⟩:=I.tuple hx
 have hlen:its.toArray.size=xs.length:=by rw[EH];exact r.length.symm
 refine⟨"tuple",_,Fc.lookup,ht.typeIs,?_⟩
 refine HT.eR ht hs pl pu (by rw[hlen];exact hw) ?_ (by rw[hlen];exact hz)
 rw[hlen]
 refine⟨.ref s.heap.objs.size,_,I.laid (t':=s.toks) (o:=.tup (gv xs lo hi)) (fun b ob q=>EF _ q) (EJ _) ?_,rfl,q _ (I.hok.fresh (EJ _))⟩
 exact⟨EW (fM xs lo hi) hz,_,(r.drop (HT.xO xs.length 0 lo)).take (HT.xO xs.length xs.length hi - HT.xO xs.length 0 lo),xX.new _ _⟩
def uz(K:Vo):R2:=fun x y H Q=>∃a b xs ys,x = .ref a/\y = .ref b/\SqT K H a xs/\SqT K H b ys/\xs≠[]/\xs.length+ys.length<=sizeLine/\
 (ys=[]->Q (.ref a) H)/\(ys≠[]->∀p,H p=none->Q (.ref p) (upd H p (.tup (xs++ys))))
def Vals.zq{xs:List V}{us:Vv}(r:Vals xs us):us=[]↔xs=[]:=by
 cases r with
 |nil=>simp
 |cons _ _=>simp
def pf:ft X (binaryOp .Add) (uz X.K):=by
 intro pins s σ H x y v u Q I rx ry h
 obtain⟨a,b,xs,ys,rfl,rfl,ha,hb,hx,hz,q1,q2⟩:=h
 cases rx
 cases ry
 obtain⟨its,r1,p1,_⟩:=I.tuple ha
 obtain⟨its2,r2,p2,_⟩:=I.tuple hb
 refine HT.o9 p1 p2 (fun z=>hx (r1.zq.mp z)) (fun z=>⟨.ref a,H,I,rfl,q1 (r2.zq.mp z)⟩) (fun z=>?_) (by rw[<-r1.length,<-r2.length];exact hz)
 refine⟨.ref s.heap.objs.size,_,I.laid (t':=s.toks) (o:=.tup (xs++ys)) (fun b ob q=>EF _ q) (EJ _) ?_,rfl,q2 (fun w=>z (r2.zq.mpr w)) _ (I.hok.fresh (EJ _))⟩
 exact⟨by rw[EM];exact hz,_,r1.append r2,xX.new _ _⟩
end
noncomputable def mx(n:Nat)(i:Int):Option Nat:=if 0<=i then (if i < n then some i.toNat else none) else if -(n:Int)<=i then some (i+n).toNat else none
noncomputable def yt{α:Type}(xs:List α)(i:Int):Option α:=(mx xs.length i).bind fun j=>xs[j]?
def k9{n:Nat}{i:Int}{j:Nat}(h:mx n i=some j):seqIndex? i n=some j/\j < n/\-(n:Int)<=i/\i < n:=by
 unfold mx at h
 by_cases h0:0<=i
 ·rw[if_pos h0]at h
  by_cases h1:i < n
  ·rw[if_pos h1]at h
   have e:i.toNat=j:=Fy h
   exact⟨by rw[seqIndex_of h0 h1,e],by omega,by omega,h1⟩
  ·rw[if_neg h1]at h;cases h
 ·rw[if_neg h0]at h
  by_cases h1:-(n:Int)<=i
  ·rw[if_pos h1]at h
   have e:(i+n).toNat=j:=Fy h
   exact⟨by rw[seqIndex_neg (by omega) h1,e],by omega,h1,by omega⟩
  ·rw[if_neg h1]at h;cases h
def iU{α:Type}{xs:List α}{i:Int}{v:α}(h:yt xs i=some v):∃j,seqIndex? i xs.length=some j/\xs[j]?=some v/\j < xs.length/\-(xs.length:Int)<=i/\i < xs.length:=by
 unfold yt at h
 cases e:mx xs.length i with
 |none=>rw[e]at h;cases h
 |some j=>
  rw[e]at h
  obtain⟨h1,h2,h3,h4⟩:=k9 e
  exact⟨j,h1,h,h2,h3,h4⟩
def dS{α:Type}{xs:List α}{j:Nat}{v:α}(h:xs[j]?=some v):yt xs (j:Int)=some v:=by
 have hj:j < xs.length:=(FE.mp h).1
 have e:mx xs.length (j:Int)=some j:=by
  unfold mx
  rw[if_pos (by omega),if_pos (by omega)];simp
 unfold yt;rw[e];exact h
def gg(b:Expr):Prop:=∀o i,subscripted b false o i=operate [o,i] (getItem o i)
def tN(X:Cx)(r:R2):Prop:=
 ∀(value slice:Expr) (pins:Va) (s:Shared) (σ:St) (H:Hp) (x y:V) (v u:Value) (Q:VK),Inv X pins σ H s->RelV x v->RelV y u->r x y H Q->
  subscripted slice false v u=operate [v,u] (getItem v u)->wpAny (model X.prog X.w) X.A (subscriptTail value slice v u) (EP X pins σ Q) X.xe s
def uA(X:Cx)(id:String)(r:V->List V->Hp->VK->Prop):Prop:=
 ∀(pins:Va) (s:Shared) (σ:St) (H:Hp) (x:V) (xs:List V) (v:Value) (us:Vv) (Q:VK),Inv X pins σ H s->RelV x v->Vals xs us->r x xs H Q->
  wpAny (model X.prog X.w) X.A (call (.builtin id) (v::us)) (EP X pins σ Q) X.xe s
section
variable {X:Cx} {a b:Expr} {ta tb:TE} {pos:Pos}
def uB{r:R2}(hr:tN X r)(ha:PE X a ta)(hb:PE X b tb)(hs:gg b):PE X (.Subscript a b pos) (ug r ta tb):=by
 intro pins s σ H Q I h
 exact Subscript_ (rh ha hb I h fun v u s2 x y H2 I2 rx ry q=>hr a b pins s2 σ H2 x y v u Q I2 rx ry q (hs _ _))
def v5(K:Vo):R2:=fun x y H Q=>∃p xs i v,x = .ref p/\y = .int i/\SqL K H p xs/\yt xs i=some v/\Q v H
def v6(K:Vo):R2:=fun x y H Q=>∃p xs i v,x = .ref p/\y = .int i/\SqT K H p xs/\yt xs i=some v/\Q v H
def v7:R2:=fun x y H Q=>∃z i c,x = .str z/\y = .int i/\z.length<=sizeLine/\yt z.cps.toList i=some c/\Q (.str ⟨#[c]⟩) H
def k_:tN X (v5 X.K):=by
 intro value slice pins s σ H x y v u Q I rx ry h hs
 obtain⟨p,xs,i,z,rfl,rfl,hq,he,q⟩:=h
 cases rx
 obtain⟨t,rfl⟩:=ry
 obtain⟨its,r,pl,hz⟩:=I.list hq
 obtain⟨j,h1,h2,h3,h4,h5⟩:=iU he
 obtain⟨w,ew,rw'⟩:=r.get h2
 have hl:=r.length
 have hn:=fu
 have fin:EP X pins σ Q w s:=⟨z,H,I,rw',q⟩
 by_cases h0:0<=i
 ·have hj:i.toNat=j:=by
   rw[seqIndex_of h0 h5]at h1
   exact Fy h1
  exact item_listR pl.isList h0 (by omega) (by rw[hj];simpa using ew) fin hs
 ·have hj:(i+(its.toArray.size:Int)).toNat=j:=by
   rw[seqIndex_neg (by omega) h4]at h1
   rw[EH,<-hl]
   exact Fy h1
  exact subscriptTail_builtinR (x:=w) pl.isList.typeIs slot_list_getitem.lookup
   (wpAny_getItem_list_neg (Q:=fun r s'=>r=w/\EP X pins σ Q r s') pl.isList (by omega) (by rw[EH]<;>omega) (by omega) (by rw[hj];simpa using ew) ⟨rfl,fin⟩) hs
def rK:tN X (v6 X.K):=by
 intro value slice pins s σ H x y v u Q I rx ry h hs
 obtain⟨p,xs,i,z,rfl,rfl,hq,he,q⟩:=h
 cases rx
 obtain⟨t,rfl⟩:=ry
 obtain⟨its,r,pl,hz⟩:=I.tuple hq
 obtain⟨j,h1,h2,h3,h4,h5⟩:=iU he
 obtain⟨w,ew,rw'⟩:=r.get h2
 have hl:=r.length
 have hn:=fu
 have fin:EP X pins σ Q w s:=⟨z,H,I,rw',q⟩
 exact subscriptTail_builtinR (x:=w) pl.typeIs slot_tuple_getitem.lookup
  (getItem_tuple (j:=j) (Q:=fun r s'=>r=w/\EP X pins σ Q r s') pl (by omega) (by omega) (by rw[EH,<-hl];exact h1) (by simpa using ew) ⟨rfl,fin⟩) hs
def rL:tN X v7:=by
 intro value slice pins s σ H x y v u Q I rx ry h hs
 obtain⟨z,i,c,rfl,rfl,hz,he,q⟩:=h
 obtain⟨t,rfl⟩:=rx
 obtain⟨t',rfl⟩:=ry
 obtain⟨j,h1,h2,h3,h4,h5⟩:=iU he
 have hl:z.cps.toList.length=z.length:=by simp[Str.length]
 rw[hl]at h1 h4 h5
 have hn:=fu
 exact tail_any (typeIs_str s z t) slot_str_getitem.lookup (getItem_str (c:=c) (by
  have e1:decide (i < -(2 ^ 63:Int))=false:=Fe (by omega)
  have e2:decide (i>=2 ^ 63)=false:=Fe (by omega)
  rw[e1,e2,Bool.or_false]) (by rw[h1];simpa using h2) ⟨.str ⟨#[c]⟩,H,I.tok _,⟨_,rfl⟩,q⟩) hs
def kq(its:Vv)(n j:Nat)(u:Value):Obj.mapSeq (·.setIfInBounds j u) { cls:=.type "list",data:=.seq its.toArray n }={ cls:=.type "list",data:=.seq (its.set j u).toArray n }:=by
 simp[Obj.mapSeq]
theorem Inv.lst{pins:Va}{σ:St}{H:Hp}{s:Shared}{p:Addr}{xs:List V}(I:Inv X pins σ H s)(h:H p=some (.lst xs)) :
  ∃(its:Vv) (n:Nat),Vals xs its/\s.heap.get? p=some { cls:=.type "list",data:=.seq its.toArray n }/\xs.length<=sizeLine:=by
 obtain⟨z,its,n,r,e⟩:=I.hok p _ h
 exact⟨its,n,r,e,z⟩
def Inv.AU{pins:Va}{σ:St}{H:Hp}{s:Shared}{p:Addr}{xs ys:List V}{its its':Vv}{n n':Nat}{f:Obj->Obj}(I:Inv X pins σ H s)(h:H p=some (.lst xs))
  (ho:s.heap.get? p=some { cls:=.type "list",data:=.seq its.toArray n }) (hf:f { cls:=.type "list",data:=.seq its.toArray n }={ cls:=.type "list",data:=.seq its'.toArray n' }) (r:Vals ys its') (hz:ys.length<=sizeLine) (t:Nat) :
  Inv X pins σ (upd H p (.lst ys)) { s with heap:=s.heap.update p f,toks:=t }:=by
 have e:(s.heap.update p f).get? p=some { cls:=.type "list",data:=.seq its'.toArray n' }:=by
  rw[FH f ho (by rw[hf]<;>rfl),hf]
 refine I.write (x:=p) (e:=p) (by rw[h];trivial) (.inl rfl) (fun b u hb q=>(FA _ _ (F3 hb)).trans q) ⟨_,e⟩ ?_
 exact⟨hz,its',n',r,e⟩
noncomputable def uC:V->V->V->Hp->(Hp->Prop)->Prop:=fun o i v H Q=>∃p xs k j,o = .ref p/\i = .int k/\H p=some (.lst xs)/\mx xs.length k=some j/\Q (upd H p (.lst (xs.set j v)))
def mO:oU X uC:=by
 intro pins s σ H o i v ov iv u Q I ro ri rv h
 obtain⟨p,xs,k,j,rfl,rfl,hp,hj,q⟩:=h
 cases ro
 obtain⟨t,rfl⟩:=ri
 obtain⟨its,n,r,ho,hz⟩:=I.lst hp
 obtain⟨h1,h2,h3,h4⟩:=k9 hj
 have hl:=r.length
 have hn:=fu
 have I':Inv X pins σ (upd H p (.lst (xs.set j v))) { s with heap:=s.heap.update p (Obj.mapSeq (·.setIfInBounds j u)) }:=
  I.AU hp ho (kq its n j u) (r.set rv j) (by rw[List.length_set];exact hz) s.toks
 by_cases h0:0<=k
 ·have hk:k.toNat=j:=by
   rw[seqIndex_of h0 h4]at h1
   exact Fy h1
  exact PySem.W.ki_setAt ho h0 (by omega) (by rw[EH,<-hl];exact h4) (by rw[hk];exact⟨_,I',q⟩)
 ·have hk:(k+(its.toArray.size:Int)).toNat=j:=by
   rw[seqIndex_neg (by omega) h3]at h1
   rw[EH,<-hl]
   exact Fy h1
  exact PySem.W.ki_setBack ho (by omega) (by rw[EH,<-hl];exact h3) (by omega) (by rw[hk];exact⟨_,I',q⟩)
def iV(lo hi:Option Int)(n:Nat):(sliceBounds lo hi none n).1=((HT.xO n 0 lo:Nat):Int)/\(sliceBounds lo hi none n).2.1=((HT.xO n n hi:Nat):Int)/\(sliceBounds lo hi none n).2.2=1:=by
 refine⟨?_,?_,rfl⟩
 ·cases lo with
  |none=>simp[sliceBounds,HT.xO]
  |some i=>
   simp only[sliceBounds,HT.xO,Option.getD_none,show(1:Int) > 0 by decide,G2]
   by_cases h:i < 0
   ·simp only[h,G2]<;>omega
   ·simp only[h,Gs]<;>omega
 ·cases hi with
  |none=>simp[sliceBounds,HT.xO]
  |some i=>
   simp only[sliceBounds,HT.xO,Option.getD_none,show(1:Int) > 0 by decide,G2]
   by_cases h:i < 0
   ·simp only[h,G2]<;>omega
   ·simp only[h,Gs]<;>omega
def hE(its:Vv)(lo hi:Option Int):slicePick its.toArray lo hi none=((its.drop (HT.xO its.length 0 lo)).take (HT.xO its.length its.length hi - HT.xO its.length 0 lo)).toArray:=by
 obtain⟨h1,h2,h3⟩:=iV lo hi its.toArray.size
 unfold slicePick
 rw[h1,h2,h3]
 simp only[sliceRange_one,pick_run,EH]<;>rfl
noncomputable def v8(K:Vo):V->Option Int->Option Int->Hp->VK->Prop:=fun x lo hi H Q=>∃a xs,x = .ref a/\SqL K H a xs/\∀p,H p=none->Q (.ref p) (upd H p (.lst (gv xs lo hi)))
def ld:tM X (v8 X.K):=by
 intro pins s σ H x v vl vu lo hi sl Q I rx hs pl pu h
 obtain⟨a,xs,rfl,hx,q⟩:=h
 cases rx
 obtain⟨its,r,ht,hz⟩:=I.list hx
 have hlen:=r.length
 refine⟨"list",_,slot_list_getitem.lookup,ht.isList.typeIs,?_⟩
 refine wpAny_getItem_list_slice ht.isList hs pl pu .none (by simp) ?_ (by rw[EH]<;>omega)
 rw[hE,<-hlen]
 refine⟨.ref s.heap.objs.size,_,I.laid (t':=s.toks) (o:=.lst (gv xs lo hi)) (fun b ob q=>EF _ q) (EJ _) ?_,rfl,q _ (I.hok.fresh (EJ _))⟩
 exact⟨EW (fM xs lo hi) hz,_,0,(r.drop (HT.xO xs.length 0 lo)).take (HT.xO xs.length xs.length hi - HT.xO xs.length 0 lo),EL _ rfl⟩
def iW:ft X (compareOp .NotIn) (fun x y H Q=>∃i j,x = .str i/\y = .str j/\Q (.bl (!(!(Builtin.Str.occurrences j i 0 j.length 1).isEmpty))) H):=by
 intro pins s σ H x y v u Q I rx ry h
 obtain⟨i,j,rfl,rfl,q⟩:=h
 obtain⟨t,rfl⟩:=rx
 obtain⟨t',rfl⟩:=ry
 exact notIn_str ⟨.bl _,H,I,rfl,q⟩
def cF:dh X (.builtin "len") (fun xs H Q=>∃p ys,xs=[.ref p]/\(SqL X.K H p ys\/SqT X.K H p ys)/\Q (.int ys.length) H):=by
 intro pins s σ H xs us Q I r h
 obtain⟨p,ys,rfl,hq,q⟩:=h
 obtain⟨u,rfl,rx⟩:=eQ r
 cases rx
 have hn:=fu
 rcases hq with hq|hq
 ·obtain⟨its,r',pl,hz⟩:=I.list hq
  have hlen:=r'.length
  exact Calls.call_len_list pl.isList (by simp only[EH]<;>omega) ⟨.int ys.length,H,I.tok _,⟨s.toks+1,by rw[EH,hlen]⟩,q⟩
 ·obtain⟨its,r',pl,hz⟩:=I.tuple hq
  have hlen:=r'.length
  exact len_tuple pl (by simp only[EH]<;>omega) ⟨.int ys.length,H,I.tok _,⟨s.toks+1,by rw[EH,hlen]⟩,q⟩
def iX:dh X (.builtin "len") (fun xs H Q=>∃z,xs=[.str z]/\z.length<=sizeLine/\Q (.int z.length) H):=by
 intro pins s σ H xs us Q I r h
 obtain⟨z,rfl,hz,q⟩:=h
 obtain⟨u,rfl,t,rfl⟩:=eQ r
 have hn:=fu
 exact len_str (by omega) ⟨.int z.length,H,I.tok _,⟨_,rfl⟩,q⟩
def iY:dh X (.type "list") (fun xs H Q=>∃p ys,xs=[.ref p]/\(SqL X.K H p ys\/SqT X.K H p ys)/\∀l,H l=none->Q (.ref l) (upd H l (.lst ys))):=by
 intro pins s σ H xs us Q I r h
 obtain⟨p,ys,rfl,hq,q⟩:=h
 obtain⟨u,rfl,rx⟩:=eQ r
 cases rx
 have fin:∀(its:Vv),Vals ys its->ys.length<=sizeLine->∀(h':Heap) (c':Nat),(∀b o',s.heap.get? b=some o'->h'.get? b=some o')->
   h'.get? s.heap.objs.size=some { cls:=.type "list",dict:=none,data:=.seq its.toArray c',slots:=#[] }->EP X pins σ Q (.ref s.heap.objs.size) { s with heap:=h' }:=fun its r' hz h' c' kp e=>
  ⟨.ref s.heap.objs.size,_,I.laid (t':=s.toks) kp (EJ _) (show xP X.prog X.w _ h' _ (.lst ys)from ⟨hz,its,c',r',e⟩),rfl,q _ (I.hok.fresh (EJ _))⟩
 rcases hq with hq|hq
 ·obtain⟨its,r',pl,hz⟩:=I.list hq
  have hlen:=r'.length
  obtain⟨o,ho,hc,n,hd⟩:=pl.isList
  exact call_list_seq p (.inl rfl) ho hc hd (fun h' c' kp e=>fin its r' hz h' c' kp e) (by simp only[EH]<;>omega)
 ·obtain⟨its,r',pl,hz⟩:=I.tuple hq
  have hlen:=r'.length
  obtain⟨o,ho,hc,n,hd⟩:=pl
  exact call_list_seq p (.inr rfl) ho hc hd (fun h' c' kp e=>fin its r' hz h' c' kp e) (by simp only[EH]<;>omega)
def ee:dh X (.type "tuple") (fun xs H Q=>∃p ys,xs=[.ref p]/\((SqL X.K H p ys/\∀l,H l=none->Q (.ref l) (upd H l (.tup ys)))\/(SqT X.K H p ys/\Q (.ref p) H))):=by
 intro pins s σ H xs us Q I r h
 obtain⟨p,ys,rfl,h⟩:=h
 obtain⟨u,rfl,rx⟩:=eQ r
 cases rx
 rcases h with⟨hq,q⟩|⟨hq,q⟩
 ·obtain⟨its,r',pl,hz⟩:=I.list hq
  have hlen:=r'.length
  refine call_tuple_list pl.isList (fun h' kp=>?_) (by simp only[EH]<;>omega)
  have I1:Inv X pins σ H { s with heap:=h' }:=I.kept (t':=s.toks) kp
  have I2:Inv X pins σ (upd H h'.objs.size (.tup ys)) { s with heap:=h'.push { cls:=.type "tuple",data:=.seq its.toArray } }:=
   I1.laid (t':=s.toks) (fun b o e=>EF _ e) (EJ _) (show xP X.prog X.w _ _ _ (.tup ys)from ⟨hz,its,r',xX.new _ _⟩)
  exact⟨.ref h'.objs.size,_,I2,rfl,q _ (I1.hok.fresh (EJ _))⟩
 ·obtain⟨its,r',pl,hz⟩:=I.tuple hq
  exact call_tuple_same pl ⟨.ref p,H,I,rfl,q⟩
def vA(K:Vo)(T:String)(x:V)(H:Hp):Prop:=match x with
 | .str _=>T = "str"
 | .int _=>T = "int"
 | .ref p=>(T = "list"/\∃xs,SqL K H p xs)\/(T = "tuple"/\∃o,K.lookup p=some o/\o.cls = .type "tuple"/\o.dict=none) \/
   (T = "dict"/\((∃kvs,H p=some (.dK kvs))\/∃kvs,H p=some (.dT kvs)))\/(T = "set"/\∃S n,H p=some (.set S n))
 |_=>False
def mP{pins:Va}{σ:St}{H:Hp}{s:Shared}{T:String}{x:V}{v:Value}(I:Inv X pins σ H s)(r:RelV x v)(ty:vA X.K T x H) :
  s.TypeIs v T/\∀a,v = .ref a->∃ob,s.heap.get? a=some ob/\ob.dict=none:=by
 cases x with
 |str z=>
  obtain⟨t,rfl⟩:=r
  cases (show T = "str" from ty)
  exact⟨typeIs_str s z t,fun _ e=>nomatch e⟩
 |int i=>
  obtain⟨t,rfl⟩:=r
  cases (show T = "int" from ty)
  exact⟨typeIs_int s i t,fun _ e=>nomatch e⟩
 |ref p=>
  cases r
  rcases ty with⟨rfl,xs,hq⟩|⟨rfl,o,hk,hc,hd⟩|⟨rfl,hk⟩|⟨rfl,S,n,hk⟩
  ·obtain⟨its,_,pl,_⟩:=I.list hq
   refine⟨pl.isList.typeIs,fun a e=>?_⟩
   cases e
   obtain⟨o,n,e,c,hd,_⟩:=pl
   exact⟨o,e,hd⟩
  ·refine⟨⟨o,I.AD p o hk,hc⟩,fun a e=>?_⟩
   cases e
   exact⟨o,I.AD _ o hk,hd⟩
  ·have z:∃o,s.heap.get? p=some o/\o.ExactDict:=by
    rcases hk with⟨kvs,hk⟩|⟨kvs,hk⟩
    ·obtain⟨_,_,_,_,o,_,_,e,ex,_⟩:=I.hok p _ hk
     exact⟨o,e,ex⟩
    ·obtain⟨_,_,_,_,o,_,_,e,ex,_⟩:=I.hok p _ hk
     exact⟨o,e,ex⟩
   obtain⟨o,e,ex⟩:=z
   refine⟨⟨o,e,ex.1⟩,fun a e2=>?_⟩
   cases e2
   exact⟨o,e,ex.2.1⟩
  ·obtain⟨o,_,_,_,e,ex,_⟩:=I.hok p _ hk
   refine⟨⟨o,e,ex.1⟩,fun a e2=>?_⟩
   cases e2
   exact⟨o,e,ex.2.1⟩
 |_=>exact False.elim ty
def v9(K:Vo)(T:String)(r:V->List V->Hp->VK->Prop)(to:TE):TE:=fun σ H Q=>to σ H fun x H1=>vA K T x H1/\r x [] H1 Q
def xh(K:Vo)(T:String)(r:V->List V->Hp->VK->Prop)(to:TE)(t:TA):TE:=fun σ H Q=>to σ H fun x H1=>vA K T x H1/\t σ H1 fun xs H2=>r x xs H2 Q
variable {o e:Expr} {es:List Expr} {to:TE} {t:TA} {name:Str} {apos cpos:Pos} {T id:String} {r:V->List V->Hp->VK->Prop}
def rM(pa:PlainAttrs T)(slot:Slot T name id)(hty:typeOf (.builtin id)=pure (.type "method_descriptor"))(hm:uA X id r)(ho:PE X o to)
  (hbase:attributeBase o name X.env (eval o X.env)=eval o X.env:=by rfl) (hline:(apos.endLine == cpos.line)=true:=by rfl):PE X (.Call (.Attribute o name apos) [] [] cpos) (v9 X.K T r to):=by
 intro pins s σ H Q I h
 refine wpAny_Call_method0_late hbase hline (xI (ho pins s σ H _ I h) fun v s1 ⟨x,H1,I1,r1,ty,q1⟩=>?_)
 obtain⟨h1,h2⟩:=mP I1 r1 ty
 exact⟨T,id,pa,slot,hty,h1,h2,GF rfl (PySem.evalArgs_none (hm pins s1 σ H1 x [] v [] Q I1 r1 .nil q1))⟩
def uD(pa:PlainAttrs T)(slot:Slot T name id)(hty:typeOf (.builtin id)=pure (.type "method_descriptor"))(hm:uA X id r)(ho:PE X o to)(ha:PA X (e::es) t)
  (hbase:attributeBase o name X.env (eval o X.env)=eval o X.env:=by rfl)
  (hfew:((backTo cpos (starEach (e::es) X.env)).all (fun x=>!x.1)&&(backToKw cpos (keywordEach [] X.env)).all (fun x=>x.1.isSome)
   && decide ((e::es).length+([]:List Keyword).length+(if ([]:List Keyword).isEmpty then 0 else 1) < 30))=true:=by rfl)
  (hline:(apos.endLine == cpos.line)=true:=by rfl) (hs:starEach (e::es) X.env=(false,eval e X.env)::starEach es X.env:=by rfl) (hplain:(backTo cpos (starEach es X.env)).any (·.1)=false:=by rfl) :
  PE X (.Call (.Attribute o name apos) (e::es) [] cpos) (xh X.K T r to t):=by
 intro pins s σ H Q I h
 refine wpAny_Call_method_late hbase hfew hline rfl (xI (ho pins s σ H _ I h) fun v s1 ⟨x,H1,I1,r1,ty,q1⟩=>?_)
 obtain⟨h1,h2⟩:=mP I1 r1 ty
 refine⟨T,id,pa,slot,hty,h1,h2,?_⟩
 have hA:=ha cpos pins s1 σ H1 _ I1 q1
 rw[hs]at hA ⊢
 refine GF (by show(false || (backTo cpos (starEach es X.env)).any (·.1))=false;rw[hplain]<;>rfl) (GS ?_)
 exact xI hA fun us s2 ⟨vs,H2,I2,r2,q2⟩=>hm pins s2 σ H2 x vs v us Q I2 r1 r2 q2
end
def vB(X:Cx)(id:String)(r:V->List V->Hp->VK->Prop):Prop:=
 ∀(pins:Va) (s:Shared) (σ:St) (H:Hp) (x:V) (xs:List V) (v:Value) (us:Vv) (Q:VK),Inv X pins σ H s->RelV x v->Vals xs us->r x xs H Q->
  wpAny (model X.prog X.w) X.A (call (.builtin id) (v::us)) (EP X pins σ Q) X.xe s
theorem Vals.one:∀{x:V} {us:Vv},Vals [x] us->∃u,us=[u]/\RelV x u
 |_,_,.cons r .nil=>⟨_,rfl,r⟩
theorem Vals.zero:∀{us:Vv},Vals [] us->us=[]
 |_,.nil=>rfl
theorem Vals.dropLast{xs:List V}{us:Vv}(h:Vals xs us):Vals xs.dropLast us.dropLast:=by
 induction h with
 |nil=>exact .nil
 |cons r t ih=>
  cases t with
  |nil=>exact .nil
  |cons q t'=>exact .cons r ih
theorem Vals.eraseIdx:∀{xs:List V} {us:Vv} (i:Nat),Vals xs us->Vals (xs.eraseIdx i) (us.eraseIdx i)
 |_,_,_,.nil=>.nil
 |_,_,0,.cons _ t=>t
 |_,_,i+1,.cons r t=>.cons r (Vals.eraseIdx i t)
theorem Vals.reverse{xs:List V}{us:Vv}(h:Vals xs us):Vals xs.reverse us.reverse:=by
 induction h with
 |nil=>exact .nil
 |cons r t ih=>rw[Hj,Hj];exact Vals.append ih (.cons r .nil)
theorem Vals.rep{xs:List V}{us:Vv}(h:Vals xs us):∀k:Nat,Vals (List.replicate k xs).flatten (List.replicate k us).flatten
 |0=>.nil
 |k+1=>by
  rw[FU,FU,Gu,Gu]
  exact Vals.append h (Vals.rep h k)
def kr{α:Type}(l:List α):l.eraseIdx (l.length - 1)=l.dropLast:=by
 induction l with
 |nil=>rfl
 |cons a r ih=>
  cases r with
  |nil=>rfl
  |cons b r=>
   have e:(a::b::r).length - 1=((b::r).length - 1)+1:=by
    have h1:(a::b::r).length=r.length+2:=rfl
    have h2:(b::r).length=r.length+1:=rfl
    omega
   rw[e,List.eraseIdx_cons_succ,ih]
   all_goals rfl
theorem ir{α:Type}:∀(l:List α) (i:Nat),(l.eraseIdx i).length<=l.length
 |[],_=>EJ _
 |_::_,0=>Nat.le_succ _
 |_::r,i+1=>F1 (ir r i)
theorem iu(its:Vv):∀(k:Nat) (acc:Vv),
  List.foldl (fun x1 x2=>x1++x2) acc.toArray (List.replicate k its.toArray)=(acc++(List.replicate k its).flatten).toArray
 |0,acc=>by simp
 |k+1,acc=>by
  have e:acc.toArray++its.toArray=(acc++its).toArray:=by simp
  have e2:(acc++its)++(List.replicate k its).flatten=acc++(List.replicate (k+1) its).flatten:=by
   rw[FU,Gu,List.append_assoc]
  rw[<-e2,<-iu its k (acc++its),<-e,FU,List.foldl_cons]
section
variable {X:Cx} {pins:Va} {σ:St} {H:Hp} {s:Shared} {l b:Addr} {xs ys zs:List V}
def Inv.Aw{its its':Vv}{n:Nat}{f:Array Value->Array Value}{t':Nat}(I:Inv X pins σ H s)(hH:H l=some (.lst xs))
  (e:s.heap.get? l=some { cls:=.type "list",data:=.seq its.toArray n }) (hf:f its.toArray=its'.toArray) (hv:Vals ys its') (hz:ys.length<=sizeLine) :
  Inv X pins σ (upd H l (.lst ys)) { s with heap:=s.heap.update l (Obj.mapSeq f),toks:=t' }:=by
 have q:=PySem.IsL.update e f
 rw[hf]at q
 refine I.write (x:=l) (e:=l) (by rw[hH];exact trivial) (.inl rfl) (fun b' u hb hu=>(FA s.heap (Obj.mapSeq f) (F3 hb)).trans hu) ⟨_,q⟩ ?_
 exact⟨hz,its',_,hv,q⟩
def Inv.Bh{its:Vv}{t':Nat}(I:Inv X pins σ H s)(hv:Vals ys its)(hz:ys.length<=sizeLine) :
  Inv X pins σ (upd H s.heap.objs.size (.lst ys)) { s with heap:=s.heap.push { cls:=.type "list",data:=.seq its.toArray },toks:=t' }:=
 I.laid (fun _ _ q=>EF _ q) (EJ _) ⟨hz,its,0,hv,EL _ rfl⟩
theorem Inv.fresh(I:Inv X pins σ H s):H s.heap.objs.size=none:=I.hok.fresh (EJ _)
def Inv.zL(I:Inv X pins σ H s)(hH:H l=some (.lst xs)):xs.length<=sizeLine/\∃(its:Vv) (n:Nat),Vals xs its/\xs.length=its.length/\s.heap.get? l=some { cls:=.type "list",data:=.seq its.toArray n }:=by
 obtain⟨z,its,n,r,e⟩:=I.hok l _ hH
 exact⟨z,its,n,r,r.length,e⟩
def mQ{n:Nat}(h:n<=sizeLine):Builtin.List.listTooLong n=false:=by
 unfold Builtin.List.listTooLong
 exact Fe (by omega)
end
section
variable {X:Cx}
noncomputable def pg:V->List V->Hp->VK->Prop:=fun x vs H Q=>∃l xs y,x = .ref l/\vs=[y]/\H l=some (.lst xs)/\xs.length < sizeLine/\Q .non (upd H l (.lst (xs++[y])))
def lR:vB X "list.append" pg:=by
 intro pins s σ H x vs v us Q I rx rv h
 obtain⟨l,xs,y,rfl,rfl,hH,hz,q⟩:=h
 cases rx
 obtain⟨u,rfl,ru⟩:=rv.one
 obtain⟨z,its,n,r,hl,e⟩:=I.zL hH
 refine Ht F.slot_list_append ⟨_,e,rfl⟩ F.entry_list_append (F.args_list_append_2 _ _) (PySem.list_append l its.toArray n u (by rw[EH];omega)) ⟨e,?_⟩
 refine⟨.non,_,I.Aw (its':=its++[u]) hH e (by simp) (r.append (.cons ru .nil)) ?_,rfl,q⟩
 rw[EM,Fd]
 omega
noncomputable def v_:V->List V->Hp->VK->Prop:=fun x vs H Q=>∃l xs y,x = .ref l/\vs=[]/\H l=some (.lst xs)/\xs[xs.length - 1]?=some y/\Q y (upd H l (.lst xs.dropLast))
def rN:vB X "list.pop" v_:=by
 intro pins s σ H x vs v us Q I rx rv h
 obtain⟨l,xs,y,rfl,rfl,hH,hy,q⟩:=h
 cases rx
 have DI:=rv.zero
 subst DI
 obtain⟨z,its,n,r,hl,e⟩:=I.zL hH
 obtain⟨u,hu,ru⟩:=r.get hy
 have hy':its.toArray[its.toArray.size - 1]?=some u:=by
  show its.toArray[its.length - 1]?=some u
  rw[<-Array.getElem?_toList,<-hl]
  exact hu
 refine Ht F.slot_list_pop ⟨_,e,rfl⟩ F.entry_list_pop (F.args_list_pop_1 _) (MeetsSeq.list_pop_last l its.toArray n u hy' (by rw[EH];omega)) ⟨e,?_⟩
 refine⟨y,_,I.Aw (its':=its.dropLast) hH e ?_ r.dropLast ?_,ru,q⟩
 ·show its.toArray.eraseIdxIfInBounds (its.toArray.size - 1)=its.dropLast.toArray
  rw[EH,Hq,kr]
 ·rw[List.length_dropLast]
  omega
noncomputable def rO:V->List V->Hp->VK->Prop:=fun x vs H Q=>∃l xs i k y,x = .ref l/\vs=[.int i]/\H l=some (.lst xs)/\-(2 ^ 63)<=i/\i < 2 ^ 63/\seqIndex? i xs.length=some k/\xs[k]?=some y/\Q y (upd H l (.lst (xs.eraseIdx k)))
def mR:vB X "list.pop" rO:=by
 intro pins s σ H x vs v us Q I rx rv h
 obtain⟨l,xs,i,k,y,rfl,rfl,hH,h1,h2,hk,hy,q⟩:=h
 cases rx
 obtain⟨u,rfl,ru⟩:=rv.one
 obtain⟨t,rfl⟩:=ru
 obtain⟨z,its,n,r,hl,e⟩:=I.zL hH
 obtain⟨w,hw,rw'⟩:=r.get hy
 refine Ht F.slot_list_pop ⟨_,e,rfl⟩ F.entry_list_pop (F.args_list_pop_2 _ _)
  (MeetsSeq.list_pop_at l its.toArray n i t k w (fitsIndex_both h1 h2) (by rw[EH,<-hl];exact hk) (by rw[<-Array.getElem?_toList];exact hw) (by rw[EH];omega)) ⟨e,?_⟩
 refine⟨y,_,I.Aw (its':=its.eraseIdx k) hH e ?_ (r.eraseIdx k) ?_,rw',q⟩
 ·show its.toArray.eraseIdxIfInBounds k=(its.eraseIdx k).toArray
  rw[Hq]
 ·have:=ir xs k
  omega
def we:R2:=fun x y H Q=>∃l b xs zs,x = .ref l/\y = .ref b/\H l=some (.lst xs)/\H b=some (.lst zs)/\xs.length+zs.length<=sizeLine/\∀p,H p=none->Q (.ref p) (upd H p (.lst (xs++zs)))
def rP:ft X (binaryOp .Add) we:=by
 intro pins s σ H x y v u Q I rx ry h
 obtain⟨l,b,xs,zs,rfl,rfl,hH,hB,hz,q⟩:=h
 cases rx
 cases ry
 obtain⟨z,its,n,r,hl,e⟩:=I.zL hH
 obtain⟨z2,its2,n2,r2,hl2,e2⟩:=I.zL hB
 refine PySem.P.add_list e e2 ?_ (by rw[EH,EH];omega)
 have ea:its.toArray++its2.toArray=(its++its2).toArray:=by simp
 rw[ea]
 exact⟨.ref _,_,I.Bh (t':=s.toks) (r.append r2) (by rw[EM];omega),rfl,q _ I.fresh⟩
def wf:R2:=fun x y H Q=>∃l k xs,x = .ref l/\y = .int k/\H l=some (.lst xs)/\-(2 ^ 63)<=k/\k < 2 ^ 63/\xs.length * k.toNat<=sizeLine/\
 ∀p,H p=none->Q (.ref p) (upd H p (.lst (List.replicate k.toNat xs).flatten))
def ph{α:Type}(xs:List α)(k:Nat):(List.replicate k xs).flatten.length=k * xs.length:=by
 induction k with
 |zero=>simp
 |succ k ih=>rw[FU,Gu,EM,ih,Nat.succ_mul,Nat.add_comm]
def rQ:ft X (binaryOp .Mult) wf:=by
 intro pins s σ H x y v u Q I rx ry h
 obtain⟨l,k,xs,rfl,rfl,hH,h1,h2,hz,q⟩:=h
 cases rx
 obtain⟨t,rfl⟩:=ry
 obtain⟨z,its,n,r,hl,e⟩:=I.zL hH
 have hlen:its.toArray.size * k.toNat<=sizeLine:=by rw[EH,<-hl];exact hz
 have hcap:¬its.toArray.size * k.toNat > (2 ^ 63 - 1) / 8:=by
  have:(sizeLine:Nat)<=(2 ^ 63 - 1) / 8:=by decide
  omega
 have hfit:¬(!Builtin.List.listFitsIndex k)=true:=by
  rw[fitsIndex_both h1 h2]
  exact EV
 have Bi:¬Builtin.List.listTooLong (its.toArray.size * k.toNat)=true:=by
  rw[mQ hlen]
  exact EV
 have hnew:List.foldl (fun x1 x2=>x1++x2) #[] (List.replicate (if its.toArray.isEmpty=true then 0 else k.toNat) its.toArray)=(List.replicate k.toNat its).flatten.toArray:=by
  have f0:∀m:Nat,List.foldl (fun x1 x2=>x1++x2) #[] (List.replicate m its.toArray)=(List.replicate m its).flatten.toArray:=fun m=>by
   have:=iu its m []
   rw[GI]at this
   exact this
  rw[f0]
  cases its with
  |nil=>simp
  |cons a r'=>rw[if_neg (by simp)]
 refine wpAny_binaryOp_repeat_ref (T:="list") (U:="int") (by decide) ⟨_,e,rfl⟩ (fun s'=>typeIs_int s' k t) noFill_list_mul F.fills_int_mul F.slot_int_rmul repeat_list F.slot_int_index.lookup
  (Ht F.slot_int_rmul (typeIs_int s k t) F.entry_int_rmul (F.args_int_rmul_2 _ _) (int___rmul___int_list k t l its.toArray n)
   ⟨e,rfl,⟨_,e,rfl⟩,Ht F.slot_list_mul ⟨_,e,rfl⟩ F.entry_list_mul (F.args_list_mul_2 _ _) (AutoListH.list___mul___list_int_3 l its.toArray n k t hfit hcap Bi) ⟨e,?_⟩⟩)
 rw[hnew]
 exact⟨.ref _,_,I.Bh (t':=s.toks) (r.rep k.toNat) (by rw[ph,Nat.mul_comm];exact hz),rfl,q _ I.fresh⟩
end
section
variable {κ:Type} [DecidableEq κ]
noncomputable def d3(kvs:List (κ×V))(k:κ):Option V:=(kvs.find? fun kv=>decide (kv.1=k)).map (·.2)
noncomputable def di(kvs:List (κ×V))(k:κ)(v:V):List (κ×V):=
 if (kvs.any fun kv=>decide (kv.1=k))=true then kvs.map (fun kv=>if kv.1=k then (kv.1,v) else kv) else kvs++[(k,v)]
def yv{p:κ×V}{r:List (κ×V)}{k:κ}(e:p.1=k):d3 (p::r) k=some p.2:=by simp[d3,List.find?_cons,e]
def ya{p:κ×V}{r:List (κ×V)}{k:κ}(e:¬p.1=k):d3 (p::r) k=d3 r k:=by simp[d3,List.find?_cons,e]
theorem gw(k:κ):∀kvs:List (κ×V),(kvs.any fun kv=>decide (kv.1=k))=(d3 kvs k).isSome
 |[]=>rfl
 |p::r=>by
  rw[HP]
  by_cases e:p.1=k
  ·simp only[yv e,GB e,Bool.true_or,Option.isSome_some]
  ·rw[ya e,Fe e,Bool.false_or];exact gw k r
def dj(kvs:List (κ×V))(k:κ)(v:V):(di kvs k v).length<=kvs.length+1:=by
 unfold di
 split
 ·rw[EG];omega
 ·rw[EM,EU,G3];omega
def RelO.yw{o:Option V}{u:Option Value}(r:RelO o u):o.isSome=u.isSome:=by
 cases o with
 |none=>cases u with
  |none=>rfl
  |some _=>exact(show False from r).elim
 |some _=>cases u with
  |none=>exact(show False from r).elim
  |some _=>rfl
theorem RelO.getD{o:Option V}{u:Option Value}{d:V}{d':Value}(r:RelO o u)(rd:RelV d d'):RelV (o.getD d) (u.getD d'):=by
 cases o with
 |none=>cases u with
  |none=>exact rd
  |some _=>exact(show False from r).elim
 |some _=>cases u with
  |none=>exact(show False from r).elim
  |some _=>exact r
def KV.val{kvs:List (κ×V)}{vs:List (κ×Value)}(r:KV kvs vs)(k:κ):RelO (d3 kvs k) (valueAt vs k):=by
 unfold KV at r
 induction r with
 |nil=>exact True.intro
 |@cons p q ps qs h t ih=>
  obtain⟨h1,h2⟩:=h
  by_cases e:p.1=k
  ·have e':q.1=k:=h1.symm.trans e
   have b:valueAt (q::qs) k=some q.2:=by simp[valueAt,List.find?_cons,e']
   rw[yv e,b];exact h2
  ·have e':¬q.1=k:=fun z=>e (h1.trans z)
   have b:valueAt (q::qs) k=valueAt qs k:=by simp[valueAt,List.find?_cons,e']
   rw[ya e,b];exact ih
theorem KV.any{kvs:List (κ×V)}{vs:List (κ×Value)}(r:KV kvs vs)(k:κ):(kvs.any fun kv=>decide (kv.1=k))=vs.any fun kv=>decide (kv.1=k):=by
 unfold KV at r
 induction r with
 |nil=>rfl
 |cons h t ih=>rw[HP,HP,ih,h.1]
def KV.repl{kvs:List (κ×V)}{vs:List (κ×Value)}(r:KV kvs vs)(k:κ){y:V}{u:Value}(ry:RelV y u) :
  KV (kvs.map fun kv=>if kv.1=k then (kv.1,y) else kv) (vs.map fun kv=>if kv.1=k then (kv.1,u) else kv):=by
 unfold KV at r ⊢
 induction r with
 |nil=>exact .nil
 |@cons p q ps qs h t ih=>
  rw[EO,EO]
  refine .cons ?_ ih
  obtain⟨h1,h2⟩:=h
  by_cases e:p.1=k
  ·rw[if_pos e,if_pos (h1.symm.trans e)];exact⟨h1,ry⟩
  ·rw[if_neg e,if_neg (fun z=>e (h1.trans z))];exact⟨h1,h2⟩
def KV.put{kvs:List (κ×V)}{vs:List (κ×Value)}(r:KV kvs vs)(k:κ){y:V}{u:Value}(ry:RelV y u):KV (di kvs k y) (stored vs k u):=by
 unfold di stored
 rw[r.any k]
 by_cases e:(vs.any fun kv=>decide (kv.1=k))=true
 ·rw[if_pos e,if_pos e];exact r.repl k ry
 ·rw[if_neg e,if_neg e];exact Paired.snoc r ⟨rfl,ry⟩
theorem KV.length{kvs:List (κ×V)}{vs:List (κ×Value)}(r:KV kvs vs):kvs.length=vs.length:=Paired.length r
end
def eS{P:Program}{w:World}{k:aK}{u:Value}(r:RelV (kV k) u):(ax P w).is k u=true:=by
 cases k with
 |inl i=>obtain⟨t,e⟩:=(show ∃t,u=Value.int i t from r);subst e;exact jz P w i t
 |inr x=>obtain⟨t,e⟩:=(show ∃t,u=Value.str x t from r);subst e;exact jA P w x t
theorem iw{P:Program}{w:World}:∀{ks:List aK} {us:Vv},Vals (ks.map kV) us->ItemsAre (ax P w) ks us
 |[],_,r=>by rw[Fw]at r;cases r;exact .nil
 |k::ks,_,r=>by
  rw[EO]at r
  cases r with
  |cons h t=>exact .cons (eS h) (iw t)
noncomputable abbrev KT(H:Hp):List (List aK×V)->List (List aK×Addr×Value)->Prop:=Paired fun p q=>p.1=q.1/\H q.2.1=some (.tup (p.1.map kV))/\RelV p.2 q.2.2
def KT.val{H:Hp}{kvs:List (List aK×V)}{xs:List (List aK×Addr×Value)}(r:KT H kvs xs)(k:List aK):RelO (d3 kvs k) ((atKey xs k).map (·.2)):=by
 induction r with
 |nil=>exact True.intro
 |@cons p q ps qs h t ih=>
  obtain⟨h1,_,h2⟩:=h
  by_cases e:p.1=k
  ·have e':q.1=k:=h1.symm.trans e
   have b:atKey (q::qs) k=some q.2:=by simp[atKey,List.find?_cons,e']
   rw[yv e,b];exact h2
  ·have e':¬q.1=k:=fun z=>e (h1.trans z)
   have b:atKey (q::qs) k=atKey qs k:=by simp[atKey,List.find?_cons,e']
   rw[ya e,b];exact ih
def KT.repl{H:Hp}{kvs:List (List aK×V)}{xs:List (List aK×Addr×Value)}(r:KT H kvs xs)(k:List aK){y:V}{u:Value}(ry:RelV y u) :
  KT H (kvs.map fun kv=>if kv.1=k then (kv.1,y) else kv) (xs.map (putAt k u)):=by
 induction r with
 |nil=>exact .nil
 |@cons p q ps qs h t ih=>
  rw[EO,EO]
  refine .cons ?_ ih
  obtain⟨h1,h2,h3⟩:=h
  unfold putAt
  by_cases e:p.1=k
  ·rw[if_pos e,if_pos (h1.symm.trans e)];exact⟨h1,h2,ry⟩
  ·rw[if_neg e,if_neg (fun z=>e (h1.trans z))];exact⟨h1,h2,h3⟩
def KT.put{H:Hp}{kvs:List (List aK×V)}{xs:List (List aK×Addr×Value)}(r:KT H kvs xs)(k:List aK){b:Addr}{y:V}{u:Value}(hb:H b=some (.tup (k.map kV)))(ry:RelV y u) :
  KT H (di kvs k y) (storedH xs k b u):=by
 have e:(kvs.any fun kv=>decide (kv.1=k))=(atKey xs k).isSome:=by
  rw[gw,(r.val k).yw,HL]
 unfold di storedH
 rw[e]
 by_cases q:(atKey xs k).isSome=true
 ·rw[if_pos q,if_pos q];exact r.repl k ry
 ·rw[if_neg q,if_neg q];exact Paired.snoc r ⟨rfl,hb,ry⟩
def KT.keeps{H H':Hp}{kvs:List (List aK×V)}{xs:List (List aK×Addr×Value)}(r:KT H kvs xs)(ht:∀b ys,H b=some (.tup ys)->H' b=some (.tup ys)):KT H' kvs xs:=
 Paired.AQ r fun _ _ z=>⟨z.1,ht _ _ z.2.1,z.2.2⟩
section
variable {P:Program} {w:World} {H:Hp} {h:Heap} {a:Addr}
def qA{u:HO}(ok:yF P w H h)(e:Rd H a u):xP P w H h a u:=e.ok ok
def fN{kvs:List (aK×V)}(ok:yF P w H h)(e:Rd H a (.dK kvs)):kvs.length<=sizeLine/\(a == sysModules)=false/\∃vs,KV kvs vs/\h.DictOf (ax P w) a vs:=
 show xP P w H h a (.dK kvs)from qA ok e
def qB{kvs:List (aK×V)}(ok:yF P w H h)(e:H a=some (.dK kvs)):kvs.length<=sizeLine/\(a == sysModules)=false/\∃vs,KV kvs vs/\h.DictOf (ax P w) a vs:=fN ok (.inl e)
def bw{ks:List aK}(ok:yF P w H h)(e:H a=some (.tup (ks.map kV))):(tupleKind (ax P w)).is h ks a:=by
 obtain⟨_,its,r,o,h1,_,h2,n,h3⟩:=(show xP P w H h a (.tup (ks.map kV))from ok a _ e)
 exact⟨o,its.toArray,n,h1,h2,h3,by simpa using iw r⟩
def gx{kvs:List (List aK×V)}(ok:yF P w H h)(e:Rd H a (.dT kvs)):kvs.length<=sizeLine/\(a == sysModules)=false/\
  ∃xs,KT H kvs xs/\h.DictOfH (tupleKind (ax P w)) a xs:=by
 obtain⟨z,y,xs,r,o,es,ep,h1,h2,h3,h4,h5⟩:=(show xP P w H h a (.dT kvs)from qA ok e)
 refine⟨z,y,xs,r,o,es,ep,h1,h2,h3,h4,fun x hx=>?_,h5⟩
 have all:∀{l:List (List aK×V)} {m:List (List aK×Addr×Value)},KT H l m->∀x∈m,(tupleKind (ax P w)).is h x.1 x.2.1:=by
  intro l m q
  induction q with
  |nil=>intro x hx;exact nomatch hx
  |@cons p q ps qs hq t ih=>
   intro x hx
   rcases EX.mp hx with e|hx
   ·subst e
    exact bw ok (by rw[<-hq.1];exact hq.2.1)
   ·exact ih x hx
 exact all r x hx
def uE{kvs:List (List aK×V)}(ok:yF P w H h)(e:H a=some (.dT kvs)):kvs.length<=sizeLine/\(a == sysModules)=false/\
  ∃xs,KT H kvs xs/\h.DictOfH (tupleKind (ax P w)) a xs:=gx ok (.inl e)
end
def DGet(H:Hp)(a:Addr)(y:V)(r:Option V):Prop:=
 (∃kvs k,Rd H a (.dK kvs)/\y=kV k/\r=d3 kvs k)\/∃kvs k b,Rd H a (.dT kvs)/\y = .ref b/\H b=some (.tup (k.map kV))/\r=d3 kvs k
def Af(H:Hp)(a:Addr)(y v:V)(H':Hp):Prop:=
 (∃kvs k,H a=some (.dK kvs)/\y=kV k/\kvs.length < sizeLine/\H'=upd H a (.dK (di kvs k v))) \/
 ∃kvs k b,H a=some (.dT kvs)/\y = .ref b/\H b=some (.tup (k.map kV))/\kvs.length < sizeLine/\H'=upd H a (.dT (di kvs k v))
theorem DGet.k{H:Hp}{a:Addr}{kvs:List (aK×V)}{k:aK}(e:H a=some (.dK kvs)):DGet H a (kV k) (d3 kvs k):=.inl ⟨kvs,k,.inl e,rfl,rfl⟩
theorem Af.k{H:Hp}{a:Addr}{kvs:List (aK×V)}{k:aK}{v:V}(e:H a=some (.dK kvs))(hl:kvs.length < sizeLine):Af H a (kV k) v (upd H a (.dK (di kvs k v))):=.inl ⟨kvs,k,e,rfl,hl,rfl⟩
section
variable {X:Cx} {pins:Va} {σ:St} {H:Hp} {s:Shared} {a:Addr} {y v:V} {u r:Value} {o:Option V} {A:Around} {E:Vq}
def Inv.big(I:Inv X pins σ H s):sysModules < s.heap.objs.size:=by
 have h:mainGlobals < s.heap.objs.size:=(I.mod.glob.keeps I.bk).lt
 exact Gv (by decide) h
def lS{Q:Vq}(hu:A.units+1 < cLine)(I:Inv X pins σ H s)(g:DGet H a y (some v))(ry:RelV y u)(h:∀w' s',Inv X pins σ H s'->RelV v w'->Q w' s') :
  wpAny (model X.prog X.w) A (getItem (.ref a) u) Q E s:=by
 rcases g with⟨kvs,k,e,ey,l⟩|⟨kvs,k,b,e,ey,eb,l⟩
 ·subst ey
  obtain⟨z,hd,vs,rel,dd⟩:=fN I.hok e
  obtain⟨w',hw,rw'⟩:=RelO.some_of (v:=v) (o:=valueAt vs k) (by rw[l];exact rel.val k)
  exact wpAny_getItem_of (eS ry) dd.mapOf hw (h w' _ (I.tok _) rw')
 ·subst ey
  cases (show u=Value.ref b from ry)
  obtain⟨z,hd,xs,rel,dd⟩:=gx I.hok e
  obtain⟨w',hw,rw'⟩:=RelO.some_of (v:=v) (o:=(atKey xs k).map (·.2)) (by rw[l];exact rel.val k)
  obtain⟨p,hp,hp2⟩:=Gb.mp hw
  refine wpAny_getItem_heap (GG hu) (bw I.hok eb) dd hp ?_
  rw[hp2]
  exact h w' _ (I.tok _) rw'
def uF{Q:Vq}(hu:A.units+1 < cLine)(I:Inv X pins σ H s)(g:DGet H a y o)(ry:RelV y u)(h:∀s',Inv X pins σ H s'->Q (.bool o.isSome) s') :
  wpAny (model X.prog X.w) A (compareOp .In u (.ref a)) Q E s:=by
 rcases g with⟨kvs,k,e,ey,l⟩|⟨kvs,k,b,e,ey,eb,l⟩
 ·subst ey
  obtain⟨z,hd,vs,rel,dd⟩:=fN I.hok e
  refine wpAny_in_of (eS ry) hd dd.mapOf ?_
  rw[<-(rel.val k).yw,<-l]
  exact h _ (I.tok _)
 ·subst ey
  cases (show u=Value.ref b from ry)
  obtain⟨z,hd,xs,rel,dd⟩:=gx I.hok e
  refine wpAny_in_heap (GG hu) (bw I.hok eb) hd dd ?_
  have q:=(rel.val k).yw
  rw[HL]at q
  rw[<-q,<-l]
  exact h _ (I.tok _)
def lg{Q:Vq}(hu:A.units+1 < cLine)(I:Inv X pins σ H s)(g:DGet H a y o)(ry:RelV y u)(h:∀s',Inv X pins σ H s'->Q (.bool (!o.isSome)) s') :
  wpAny (model X.prog X.w) A (compareOp .NotIn u (.ref a)) Q E s:=by
 rcases g with⟨kvs,k,e,ey,l⟩|⟨kvs,k,b,e,ey,eb,l⟩
 ·subst ey
  obtain⟨z,hd,vs,rel,dd⟩:=fN I.hok e
  refine wpAny_notIn_of (eS ry) hd dd.mapOf ?_
  rw[<-(rel.val k).yw,<-l]
  exact h _ (I.tok _)
 ·subst ey
  cases (show u=Value.ref b from ry)
  obtain⟨z,hd,xs,rel,dd⟩:=gx I.hok e
  refine wpAny_notIn_heap (GG hu) (bw I.hok eb) hd dd ?_
  have q:=(rel.val k).yw
  rw[HL]at q
  rw[<-q,<-l]
  exact h _ (I.tok _)
def iZ{h':Heap}{t':Nat}{ob:HO}(I:Inv X pins σ H s)(mu:t5 (H a))(hs:Heap.SameBut a s.heap h')(he:∃q,h'.get? a=some q)(new:xP X.prog X.w (upd H a ob) h' a ob) :
  Inv X pins σ (upd H a ob) { s with heap:=h',toks:=t' }:=
 I.write (x:=a) (e:=a) mu (.inl rfl) (fun b q hb z=>(hs.2 b hb).trans z) he new
def mS{P:Program}{w:World}{H':Hp}{h':Heap}{kvs:List (aK×V)}{vs:List (aK×Value)}(z:kvs.length<=sizeLine)(hd:(a == sysModules)=false)(rel:KV kvs vs)(dd:h'.DictOf (ax P w) a vs) :
  xP P w H' h' a (.dK kvs):=⟨z,hd,vs,rel,dd⟩
def lT{H':Hp}{Q:Unit->Shared->Prop}(hu:A.units+1 < cLine)(I:Inv X pins σ H s)(g:Af H a y v H')(ry:RelV y u)(rv:RelV v r)(h:∀s',Inv X pins σ H' s'->Q () s') :
  wpAny (model X.prog X.w) A (setItem (.ref a) u r) Q E s:=by
 rcases g with⟨kvs,k,e,ey,l,eH⟩|⟨kvs,k,b,e,ey,eb,l,eH⟩
 ·subst ey eH
  obtain⟨z,hd,vs,rel,dd⟩:=qB I.hok e
  have hz:vs.length<=sizeLine:=by rw[<-rel.length];exact z
  have hl:(di kvs k v).length<=sizeLine:=by have:=dj kvs k v;omega
  refine wpAny_setItem_pairs (hsz:=hz) (eS ry) dd fun h' AV hs=>h _ ?_
  have he:∃q,h'.get? a=some q:=let ⟨q,_,_,hq,_⟩:=AV;⟨q,hq⟩
  exact iZ I (by rw[e];exact True.intro) hs he (mS hl hd (rel.put k rv) AV)
 ·subst ey eH
  cases (show u=Value.ref b from ry)
  obtain⟨z,hd,xs,rel,dd⟩:=uE I.hok e
  have hz:xs.length<=sizeLine:=by rw[<-Paired.length rel];exact z
  have hl:(di kvs k v).length<=sizeLine:=by have:=dj kvs k v;omega
  refine wpAny_setItem_heap (hsz:=hz) (GG hu) (bw I.hok eb) dd fun h' AV hs=>h _ ?_
  obtain⟨q,es,ep,hq,h2,h3,h4,_,h5⟩:=AV
  refine iZ I (by rw[e];exact True.intro) hs ⟨q,hq⟩ ⟨hl,hd,_,(rel.put k eb rv).keeps fun c ys ec=>?_,q,es,ep,hq,h2,h3,h4,h5⟩
  rw[ak (t4 ec e (fun z=>nomatch z))]
  exact ec
end
section
variable {X:Cx} {pins:Va} {σ:St} {H:Hp} {s:Shared} {a:Addr} {kvs:List (aK×V)} {k:aK} {u:Value} {A:Around} {E:Vq}
def uG{Q:Vq}(I:Inv X pins σ H s)(e:Rd H a (.dK kvs))(h:∀t s',Inv X pins σ H s'->Q (.int kvs.length t) s'):wpAny (model X.prog X.w) A (call (.builtin "len") [.ref a]) Q E s:=by
 obtain⟨z,hd,vs,rel,dd⟩:=fN I.hok e
 refine call_len_dict hd dd (by rw[<-rel.length];rw[sizeLine_eq]at z;omega) ?_
 rw[<-rel.length]
 exact h _ _ (I.tok _)
end
def jE{X:Cx}{pins:Va}{σ:St}{H:Hp}{s:Shared}{a:Addr}{y:V}{o:Option V}(I:Inv X pins σ H s)(g:DGet H a y o):s.TypeIs (.ref a) "dict":=by
 rcases g with⟨kvs,k,e,_,_⟩|⟨kvs,k,b,e,_,_,_⟩
 ·obtain⟨_,_,vs,_,dd⟩:=fN I.hok e
  exact dd.typeIs
 ·obtain⟨_,_,xs,_,dd⟩:=gx I.hok e
  exact dd.typeIs
def jF{P:Program}{w:World}{H:Hp}(h:Heap)(hb:sysModules < h.objs.size):xP P w H (h.push { cls:=.type "dict",data:=.dict #[] }) h.objs.size (.dK []):=
 ⟨Fp _,HC.mpr (F3 (ES hb)),[],.nil,Heap.DictOf.new h⟩
noncomputable def i3:List (TE×TE)->St->Hp->(List (V×V)->Hp->Prop)->Prop
 |[],_,H,Q=>Q [] H
 |(tk,tv)::r,σ,H,Q=>tk σ H fun x H1=>tv σ H1 fun y H2=>i3 r σ H2 fun ps H3=>Q ((x,y)::ps) H3
noncomputable abbrev VV:List (V×V)->List (Value×Value)->Prop:=Paired fun p q=>RelV p.1 q.1/\RelV p.2 q.2
def uH(X:Cx)(pos:Pos)(keys:List (Option Expr))(values:List Expr)(zd:List (TE×TE)):Prop:=
 ∀(pins:Va) (s:Shared) (σ:St) (H:Hp) (Q:List (V×V)->Hp->Prop),Inv X pins σ H s->i3 zd σ H Q->
  wpAny (model X.prog X.w) X.A (evalPairs (pairTrees keys values X.env pos)) (fun vs s'=>∃ps H',Inv X pins σ H' s'/\VV ps vs/\Q ps H') X.xe s
def pk{X:Cx}{pos:Pos}:uH X pos [] [] []:=fun pins s σ H Q I h=>pairTrees_nil_walk ⟨[],H,I,.nil,h⟩
def mT{X:Cx}{pos:Pos}{k v:Expr}{ks:List (Option Expr)}{vs:List Expr}{tk tv:TE}{zd:List (TE×TE)}(hk:PE X k tk)(hv:PE X v tv)(hr:uH X pos ks vs zd) :
  uH X pos (some k::ks) (v::vs) ((tk,tv)::zd):=fun pins s σ H Q I h=>
 pairTrees_cons_walk (xI (hk pins s σ H _ I h) fun u s1 ⟨x,H1,I1,rx,q1⟩=>xI (hv pins s1 σ H1 _ I1 q1) fun w2 s2 ⟨y,H2,I2,ry,q2⟩=>
  xI (hr pins s2 σ H2 _ I2 q2) fun ws s3 ⟨ps,H3,I3,rel,q3⟩=>⟨(x,y)::ps,H3,I3,.cons ⟨rx,ry⟩ rel,q3⟩)
noncomputable def cG(kvs more:List (aK×V)):List (aK×V):=more.foldl (fun acc kv=>di acc kv.1 kv.2) kvs
def KV.merge:∀{more:List (aK×V)} {rs:List (aK×Value)} {kvs:List (aK×V)} {vs:List (aK×Value)},KV more rs->KV kvs vs->KV (cG kvs more) (merged vs rs):=by
 intro more rs kvs vs r
 unfold KV at r
 induction r generalizing kvs vs with
 |nil=>intro q;exact q
 |@cons p q ps qs h t ih=>
  intro r0
  have e:KV (di kvs p.1 p.2) (stored vs q.1 q.2):=by
   have:=r0.put p.1 h.2
   rw[<-h.1];exact this
  exact ih e
theorem cp:∀(more kvs:List (aK×V)),(cG kvs more).length<=kvs.length+more.length
 |[],kvs=>by show kvs.length<=kvs.length+0;omega
 |p::r,kvs=>by
  have h1:=cp r (di kvs p.1 p.2)
  have h2:=dj kvs p.1 p.2
  show(cG (di kvs p.1 p.2) r).length<=_
  rw[EU];omega
theorem gy{P:Program}{w:World}:∀{kvs:List (aK×V)} {ws:List (Value×Value)},VV (kvs.map fun kv=>(kV kv.1,kv.2)) ws->∃rs,Carries (ax P w) ws rs/\KV kvs rs
 |[],_,r=>by rw[Fw]at r;cases r;exact⟨[],True.intro,.nil⟩
 |p::kvs,_,r=>by
  rw[EO]at r
  cases r with
  |@cons a b as bs h t=>
   obtain⟨rs,c,q⟩:=gy (P:=P) (w:=w) t
   obtain⟨b1,b2⟩:=b
   exact⟨(p.1,b2)::rs,⟨eS h.1,rfl,c⟩,.cons ⟨rfl,h.2⟩ q⟩
def uI(zd:List (TE×TE)):TE:=fun σ H Q=>∀p,H p=none->i3 zd σ (upd H p (.dK [])) fun ps H2=>H2 p=some (.dK [])/\∃kvs:List (aK×V),ps=kvs.map (fun kv=>(kV kv.1,kv.2))/\kvs.length<=15/\Q (.ref p) (upd H2 p (.dK (cG [] kvs)))
def pp{X:Cx}{pos:Pos}{keys:List (Option Expr)}{values:List Expr}{zd:List (TE×TE)}(h:uH X pos keys values zd)(hall:keys.all (·.isSome)=true)(hl:keys.length=values.length)(h0:keys≠[])
  (BW:keys.length<=15):PE X (.Dict keys values pos) (uI zd):=by
 intro pins s σ H Q I q
 have hn:=I.hok.fresh (EJ s.heap.objs.size)
 have I1:=I.laid (a:=s.heap.objs.size) (o:=.dK []) (h':=s.heap.push { cls:=.type "dict",data:=.dict #[] }) (t':=s.toks) (fun _ _ q=>EF _ q) (EJ _) (jF s.heap I.big)
 refine wpAny_Dict_walk (knd:=ax X.prog X.w) hall hl h0 BW (xI (h pins _ σ _ _ I1 (q _ hn)) fun ws s2 ⟨ps,H2,I2,rel,e,kvs,ep,lk,q2⟩=>?_)
 subst ep
 obtain⟨rs,c,rk⟩:=gy (P:=X.prog) (w:=X.w) rel
 obtain⟨z,hd,vs0,r0,dd⟩:=qB I2.hok e
 cases r0
 refine⟨rs,c,dd,fun h' AV hs=>⟨.ref s.heap.objs.size,_,?_,rfl,q2⟩⟩
 have hz:(cG [] kvs).length<=sizeLine:=by
  have h1:=cp kvs []
  rw[G3]at h1
  rw[sizeLine_eq];omega
 have he:∃q,h'.get? s.heap.objs.size=some q:=let ⟨q,_,_,hq,_⟩:=AV;⟨q,hq⟩
 exact iZ I2 (by rw[e];exact True.intro) hs he (mS hz hd (rk.merge .nil) AV)
structure M2 (X:Cx) (o:Expr) (m:Str) (apos:Pos) (e f:Expr) (cpos:Pos):Prop where
 base:attributeBase o m X.env (eval o X.env)=eval o X.env
 few:((backTo cpos (starEach [e,f] X.env)).all (fun x=>!x.1)&&(backToKw cpos (keywordEach [] X.env)).all (fun x=>x.1.isSome)
  && decide (([e,f]:List Expr).length+([]:List Keyword).length+(if ([]:List Keyword).isEmpty then 0 else 1) < 30))=true
 line:(apos.endLine == cpos.line)=true
 trees:backTo cpos (starEach [e,f] X.env)=[(false,eval e X.env),(false,eval f X.env)]
def wU(H:Hp)(a:Addr):Prop:=(∃kvs,Rd H a (.dK kvs))\/∃kvs,Rd H a (.dT kvs)
def rR{X:Cx}{pins:Va}{σ:St}{H:Hp}{s:Shared}{a:Addr}(I:Inv X pins σ H s)(d:wU H a) :
  s.TypeIs (.ref a) "dict"/\(∀b,Value.ref a = .ref b->∃ob,s.heap.get? b=some ob/\ob.dict=none)/\(a == sysModules)=false:=by
 rcases d with⟨kvs,e⟩|⟨kvs,e⟩
 ·obtain⟨_,hd,vs,_,dd⟩:=fN I.hok e
  refine⟨dd.typeIs,fun b q=>?_,hd⟩
  cases q
  obtain⟨ob,_,_,h1,h2,_⟩:=dd
  exact⟨ob,h1,h2.2.1⟩
 ·obtain⟨_,hd,xs,_,dd⟩:=gx I.hok e
  refine⟨dd.typeIs,fun b q=>?_,hd⟩
  cases q
  obtain⟨ob,_,_,h1,h2,_⟩:=dd
  exact⟨ob,h1,h2.2.1⟩
section
variable {X:Cx} {pins:Va} {σ:St} {H:Hp} {s:Shared} {a:Addr} {y d:V} {u r:Value} {o:Option V} {A:Around} {E:Vq}
def rT{Q:Vq}(hu:A.units+1 < cLine)(I:Inv X pins σ H s)(g:DGet H a y o)(ry:RelV y u)(rd:RelV d r)(h:∀w' s',Inv X pins σ H s'->RelV (o.getD d) w'->Q w' s') :
  wpAny (model X.prog X.w) A (call (.builtin "dict.get") [.ref a,u,r]) Q E s:=by
 rcases g with⟨kvs,k,e,ey,l⟩|⟨kvs,k,b,e,ey,eb,l⟩
 ·subst ey
  obtain⟨z,hd,vs,rel,dd⟩:=fN I.hok e
  refine call_meetsIn Gi dd.typeIs Hl (G8 _ _ _) (meets_dict_get_default (ax X.prog X.w) a (eS ry) hd r) ⟨_,dd.mapOf,h _ _ (I.tok _) ?_⟩
  rw[l]
  exact(rel.val k).getD rd
 ·subst ey
  cases (show u=Value.ref b from ry)
  obtain⟨z,hd,xs,rel,dd⟩:=gx I.hok e
  refine call_meetsIn Gi dd.typeIs Hl (G8 _ _ _) (meetsH_dict_get_default (tupleKind (ax X.prog X.w)) a b hd r) ⟨GG hu,k,xs,bw I.hok eb,dd,h _ _ (I.tok _) ?_⟩
  rw[l]
  exact(rel.val k).getD rd
end
def rV(td ty tx:TE):TE:=fun σ H Q=>td σ H fun x H1=>∃a,x = .ref a/\wU H1 a/\ty σ H1 fun y H2=>tx σ H2 fun z H3=>∃o,DGet H3 a y o/\Q (o.getD z) H3
section
variable {X:Cx} {o e f:Expr} {apos cpos:Pos} {td ty tx:TE}
def mU(hu:X.A.units+1 < cLine)(ho:PE X o td)(he:PE X e ty)(hf:PE X f tx)(m:M2 X o "get" apos e f cpos):PE X (.Call (.Attribute o "get" apos) [e,f] [] cpos) (rV td ty tx):=by
 intro pins s σ H Q I h
 refine wpAny_Call_method m.base m.few m.line PySem.F.plainAttrs_dict Gi PySem.F.type_dict_get (xI (ho pins s σ H _ I h) fun u s1 ⟨x,H1,I1,rx,a,ex,d,q1⟩=>?_)
 subst ex
 obtain rfl:u=Value.ref a:=rx
 obtain⟨t1,t2,_⟩:=rR I1 d
 refine⟨t1,t2,?_⟩
 rw[m.trees]
 refine GF rfl (GS (FL (xI (he pins s1 σ H1 _ I1 q1) fun iv s2 ⟨y,H2,I2,ry,q2⟩=>
  FL (xI (hf pins s2 σ H2 _ I2 q2) fun fv s3 ⟨z,H3,I3,rz,ov,g,q3⟩=>Gr ?_))))
 exact rT hu I3 g ry rz fun w' s4 I4 rw'=>⟨_,H3,I4,rw',q3⟩
end
end L2
namespace Att
open PySem PySem.W PySem.Calls PyProof.Rows
def f9{P:Params}{h:Heap}:∀(ns:Vu) (vs:Vv),WellAll P h vs (ns.map WData.int)->IntsAre vs ns:=by
 intro ns
 induction ns with
 |nil=>
  intro vs w
  rw[Fw]at w
  cases w
  exact .nil
 |cons n ns ih=>
  intro vs w
  rw[EO]at w
  cases w with
  |cons a b=>
   cases a
   exact .cons _ _ (ih _ b)
def lU{l:OpenLaw}{n:Nat}(hn:l.most=some n){P:Params}{h:Heap}{args:List WData}{vals:Vv}
  (hpre:l.row.toRowW.claim.pre args=true) (hwl:WellAll P h vals args) :
  ∃a vs ns,vals=[Value.ref a]/\args=[WData.list (ns.map WData.int)]/\h.get? a=some { cls:=.type "list",data:=.seq vs.toArray }/\IntsAre vs ns/\ns.length<=n:=by
 have hsh:WShape.hasAll [] args [.list .int]=true:=(pre_splitW hpre).1
 have hc:l.pre.holds [] { args:=args }=true:=(pre_splitW hpre).2
 obtain⟨d,r,rfl,h1,h2⟩:=hasAllW_cons hsh
 obtain rfl:=hasAllW_nil h2
 obtain⟨xs,rfl,h3⟩:=hasW_list h1
 obtain⟨ns,rfl⟩:=items_int h3
 have hlen:ns.length<=n:=by
  unfold OpenLaw.pre at hc
  have h4:(WTm.not (.lt (.lit (.int (n:Int))) (.len (.arg 0)))).holds [] { args:=[.list (ns.map .int)] }=true:=by
   have h4:=(holds_andW hc).1
   rw[hn]at h4
   exact h4
  have h5:=condW_of h4 (w_not (w_lt w_lit (w_len_list (w_arg rfl))))
  rw[EG]at h5
  refine Nat.le_of_not_lt fun q=>?_
  have q':(n:Int) < ((ns.length:Nat):Int):=by omega
  first
   |(rw[GB q']at h5;exact absurd h5 (by decide))
   |(simp at h5;omega)
 cases hwl with
 |cons w1 w2=>
  cases w2
  cases w1 with
  |list ho hall=>exact⟨_,_,ns,rfl,rfl,ho,f9 ns _ hall,hlen⟩
def lV(l:OpenLaw)(args:List WData):l.row.toRowW.claim.post args (.bool true) args=true:=
 postW_of (r:=l.row.toRowW) (X:=(true == true))
  (show WShape.has [] (.bool true) .bool=true by first|rfl|decide|simp[WShape.has,WShape.arms,WShape.armsAll])
  (show(WTm.eq .res (.lit (.bool true))).value [] { args:=args,res:=some (.bool true),after:=args }=some (.bool (true == true))from w_eq_bool (w_res rfl) w_lit) rfl
def jG{l:OpenLaw}{n:Nat}{q:Program}{loose:Vs}{XP:(Vr)->Heap->Prop}{YP:World->Heap->Prop}{d:DefRec}
  (hn:l.most=some n) (hdf:d.params.defaults=[])
  (call:∀(w:World) (s₀ s₁:Shared) (mg mb:Vr) (fa:Addr) (o:Obj) (pm cd doc:Value) (a:Addr) (vs:Vv) (ns:Vu),
   Ground q loose [] XP w s₀ mg mb s₁.heap->YP w s₁.heap->
   s₁.heap.get? fa=some o->o.data = .func (docDef d.name d.params d.body d.scope pm cd doc)->s₁.heap.CodeRec cd d.name->mg d.name=some (.ref fa)->
   s₁.heap.get? a=some { cls:=.type "list",data:=.seq vs.toArray }->IntsAre vs ns->ns.length<=n->s₁.gens=#[]->
   codeAny (model l.prog w) callerA (.call (.ref fa) ⟨[.ref a],[]⟩) (fun r s'=>r = .ok (.ret (.bool true))/\OldK s₁.heap s'.heap/\s'.os=s₁.os/\AllBare s'.gens) s₁) :
  WalkO q loose XP YP l.row.toRowW d [] (fun f vs=>PySem.call f vs):=by
 intro w s₀ s₁ mg mb G Y fa o pm cd doc dV kV ho hd hcd hD hmg hg args vals as hpre hlay hrd hwl hlo
 obtain rfl:dV = .none:=Dflts.none hD hdf
 obtain rfl:kV = .none:=Dflts.noKw hD
 obtain⟨a,vs,ns,rfl,rfl,hobj,hints,hlen⟩:=lU hn hpre hwl
 refine enter_call (codeAny_mono (call w s₀ s₁ mg mb fa o pm cd doc a vs ns G Y ho (fd_plain hd) hcd hmg hobj hints hlen hg) fun r s' hq=>?_)
 obtain⟨rfl,h2,h3,h4⟩:=hq
 exact⟨.inl ⟨.bool true,.bool true,[],rfl,fun _=>rfl,.bool true,lV l _,fun _=>⟨List.Pairwise.nil,fun _ hm=>(nomatch hm)⟩⟩,h2,h3,h4⟩
end Att
namespace L2
open PySem PySem.Spec PyProof.Rows
theorem iz:∀{vs:Vv} {ns:Vu},IntsAre vs ns->Vals (ns.map V.int) vs
 |_,_,.nil=>.nil
 |_,_,.cons n t h=>.cons ⟨t,rfl⟩ (iz h)
noncomputable def bK(s:Stmt):Arguments:=match s with
 | .FunctionDef _ a _ _ _ _ _ _ _ _=>a
 |_=>{ posonlyargs:=[],args:=[],vararg:=none,kwonlyargs:=[],kw_defaults:=[],kwarg:=none,defaults:=[] }
noncomputable def aY(s:Stmt):List Stmt:=match s with
 | .FunctionDef _ _ b _ _ _ _ _ _ _=>b
 |_=>[]
noncomputable def ay(s:Stmt):Scope:=match s with
 | .FunctionDef _ _ _ _ _ _ sc _ _ _=>sc
 |_=>{ kind:=.function,names:=[],isGenerator:=false,isCoroutine:=false }
noncomputable abbrev oM:kf:=fun _ _ _ _ _ _=>False
noncomputable abbrev E0:XK:=fun _ _ _=>False
def qC{X:Cx}:iS oM X E0:=fun _ _ _ _ _ _ _ h=>h.elim
structure AG (K:Vo) (x qual:Str) (st:Stmt) (f:Addr) (fd:FuncData):Prop where
 ex:∃(oc:Value) (od:Option Addr) (kV doc pm:Value) (an:Option Addr) (cdv ct:Value) (osl:Array (Option Value)),
  fd=PySem.W.fnOf x qual (bK st) (aY st) (ay st) .none kV doc pm an cdv ct/\K.lookup f=some ⟨oc,od,.func fd,osl⟩/\PySem.W.codeIn K cdv qual=true
 kp:PySem.W.keepIn K (.ref f)=true
section
variable {P:Program} {w:World} {K:Vo} {mg:Vr} {base:Heap}
def AG.ok{x qual:Str}{st:Stmt}{f:Addr}{fd:FuncData}{N ps:Vs}{k:Nat}{sp:Sp}(F:AG K x qual st f fd)(S:bX N ps (ay st))(len:∀vs H Q E,sp vs H Q E->vs.length=ps.length)
  (hbody:∀(cdv:Value) (A:Around) (outer:List Env) (s:Shared) (H:Hp) (vs:List V) (Q:VK) (E:XK),Room k (A.deeper (envOfC qual (ay st) s.heap.objs.size f cdv))->sp vs H Q E->
   ∃t,zB (iT oM P w K mg base N qual (ay st) f cdv A outer s H E).An (aY st) t/\t { nx:=fun _ H'=>Q .non H',rt:=Q } (bn N vs) H):g_ P w K mg base oM (k+1) f fd ps sp:=by
 obtain⟨oc,od,kV,doc,pm,an,cdv,ct,osl,rfl,lk,hcd⟩:=F.ex
 refine ux lk hcd S len fun A outer s H vs Q E hr zS=>?_
 obtain⟨t,h,q⟩:=hbody cdv A outer s H vs Q E hr zS
 exact⟨t,h.An,q⟩
def AG.binds{x qual:Str}{st:Stmt}{f:Addr}{fd:FuncData}{ps:Vs}(F:AG K x qual st f fd)
  (h:∀(kV doc pm:Value) (an:Option Addr) (cdv ct:Value) (us:Vv),us.length=ps.length->bindArgs (PySem.W.fnOf x qual (bK st) (aY st) (ay st) .none kV doc pm an cdv ct) ⟨us,[]⟩=pure (ps.zip us)):Binds K fd ps []:=by
 obtain⟨oc,od,kV,doc,pm,an,cdv,ct,osl,rfl,lk,hcd⟩:=F.ex
 exact .all (h kV doc pm an cdv ct)
def i4{x qual:Str}{st:Stmt}{f:Addr}{oc:Value}{od an:Option Addr}{osl:Array (Option Value)}{kV doc pm cdv ct:Value}(l:K.lookup f=some ⟨oc,od,.func (PySem.W.fnOf x qual (bK st) (aY st) (ay st) .none kV doc pm an cdv ct),osl⟩)
  (c:PySem.W.codeIn K cdv qual=true) (k:PySem.W.keepIn K (.ref f)=true):AG K x qual st f (PySem.W.fnOf x qual (bK st) (aY st) (ay st) .none kV doc pm an cdv ct):=⟨⟨oc,od,kV,doc,pm,an,cdv,ct,osl,rfl,l,c⟩,k⟩
end
def cy{n:Nat}(h:n<=1000):n < sizeLine:=G6 h (by decide)
section
variable {X:Cx}
def lW:dh X (.builtin "len") (fun xs H Q=>∃a kvs,xs=[V.ref a]/\H a=some (.dK kvs)/\Q (.int kvs.length) H):=by
 intro pins s σ H xs us Q I r h
 obtain⟨a,kvs,rfl,ha,q⟩:=h
 obtain⟨u,rfl,ru⟩:=eQ r
 cases ru
 exact uG I (.inl ha) fun t s' I'=>⟨.int kvs.length,H,I',⟨t,rfl⟩,q⟩
end
end L2
set_option maxHeartbeats 4000000
namespace L2
open PySem PySem.Spec PyProof.Rows
def i5{prog:Program}{w:World}{A:Around}{R:Result->Shared->Prop}{s:Shared}{elt target iter:Expr}{ifs:List Expr}{scope:Scope}{pos:Pos}{it acc:Value}{env:Env}(I:Nat->Shared->Prop)
  (turn:∀n s,I n s->wpAny (model prog w) A (pyNext it) (fun r s₁=>match r with
   |none=>R (.ok .next) s₁
   |some v=>wpAny (model prog w) A (letOwnedTupleGo target it v) (fun _ s₁'=>wpAny (model prog w) A (assign target env v) (fun _ s₂=>
     wpAny (model prog w) A (forIn ifs true fun c r=>if r=true then do let ok <-isTrue c env (eval c env);pure (ForInStep.yield ok) else pure (ForInStep.yield r)) (fun ok s₃=>
      if ok=true then wpAny (model prog w) A (eval elt env) (fun x s₄=>
       wpAny (model prog w) A (call (.builtin "list.append") [acc,x]) (fun _ s₅=>∃m,m < n/\I m s₅) (fun _ _=>False) s₄) (fun _ _=>False) s₃
      else ∃m,m < n/\I m s₃) (fun _ _=>False) s₂) (fun _ _=>False) s₁') (fun _ _=>False) s₁) (fun _ _=>False) s)
  (n:Nat) (h:I n s) :
  codeAny (model prog w) A (.compLoop (.ListComp elt [⟨target,iter,ifs,0⟩] scope pos) 0 it acc env) R s:=by
 refine codeAny_loop rfl I (fun n s hI=>?_) n h
 show wpAny _ A ((compTurn (.ListComp elt [⟨target,iter,ifs,0⟩] scope pos) 0 it acc env).onRaise (fun x=>do noteFrame x env;theTreesLotGoes x)) _ _ s
 refine wpAny_noted ?_
 rw[compTurn_list]
 refine EE (wpAny_standAt (EE (F7 (turn n s hI) (fun r s₁ h₁=>?_) fun _ _ h'=>h'.elim)))
 cases r with
 |none=>exact EI h₁
 |some v=>
  refine EE (F7 h₁ (fun _ s₁' h₁'=>?_) fun _ _ h'=>h'.elim)
  refine EE (F7 h₁' (fun _ s₂ h₂=>EE (F7 h₂ (fun ok s₃ h₃=>?_) fun _ _ h'=>h'.elim)) fun _ _ h'=>h'.elim)
  cases ok with
  |false=>exact EI ⟨rfl,h₃⟩
  |true=>
   exact EE (EE (F7 h₃ (fun x s₄ h₄=>EE (F7 h₄ (fun _ s₅ h₅=>EI (EI ⟨rfl,h₅⟩)) fun _ _ h'=>h'.elim)) fun _ _ h'=>h'.elim))
structure Bk where
 C:Addr
 s:Shared
 H:Hp
 fp:List Addr
 pn:Va
noncomputable def bx(env:Env)(fs:Vs):List (Str×Addr):=fs.map fun x=>(x,(env.cells.lookup x).getD 0)
noncomputable abbrev Cx.yJ(X:Cx)(N:Vs)(scope:Scope)(fs:Vs)(B:Bk):Cx:=
 { X with N:=N,s₀:=B.s,H₀:=B.H,env:=compEnvC scope (bx X.env fs) B.C X.env,outer:=X.stack,ex:=B.fp,fn:=fun _=>false,pn:=B.pn,xe:=fun _ _=>False }
noncomputable def br(env:Env):List Str->Prop
 |[]=>True
 |x::r=>(∃c,env.cells.lookup x=some c)/\br env r
theorem fO{env:Env}:∀{fs:Vs},br env fs->∀{x:Str} {c:Addr},(bx env fs).lookup x=some c->env.cells.lookup x=some c
 |[],_,x,c,h=>by cases h
 |y::r,k,x,c,h=>by
  obtain⟨⟨d,hd⟩,k⟩:=k
  have h':List.lookup x ((y,(env.cells.lookup y).getD 0)::bx env r)=some c:=h
  rw[HR]at h'
  cases e:x == y with
  |true=>
   rw[e]at h'
   have e':x=y:=by simpa using e
   subst e'
   rw[hd]at h'
   rw[hd]
   exact h'
  |false=>
   rw[e]at h'
   exact fO k h'
noncomputable def i6(names:List (Str×NameKind))(cl:List (Str×Addr)):Bool:=names.all fun y=>(y.2 != .cell&&y.2 != .free) || (cl.lookup y.1).isSome
def mV{names:List (Str×NameKind)}{cl:List (Str×Addr)}{x:Str}{k:NameKind}(h:i6 names cl=true)(e:names.lookup x=some k)(hk:k = .cell\/k = .free):∃c,cl.lookup x=some c:=by
 have hm:(x,k)∈names:=FF e
 have q:=List.all_eq_true.mp h _ hm
 have z:(cl.lookup x).isSome=true:=by
  rcases hk with rfl|rfl
  ·simpa using q
  ·simpa using q
 exact Option.isSome_iff_exists.mp z
noncomputable def xY(env:Env)(scope:Scope)(cl:List (Str×Addr)):List Str->Prop
 |[]=>True
 |x::r=>((env.scope.names.lookup x=some .cell\/env.scope.names.lookup x=some .free)/\((relabel scope env).names.lookup x=some .cell\/(relabel scope env).names.lookup x=some .free)/\cl.lookup x=env.cells.lookup x)/\xY env scope cl r
theorem xY.mem{env:Env}{scope:Scope}{cl:List (Str×Addr)}:∀{l:Vs},xY env scope cl l->∀x∈l,
  (env.scope.names.lookup x=some .cell\/env.scope.names.lookup x=some .free)/\((relabel scope env).names.lookup x=some .cell\/(relabel scope env).names.lookup x=some .free)/\cl.lookup x=env.cells.lookup x
 |[],_,x,h=>nomatch h
 |y::r,k,x,h=>by
  rcases EX.mp h with rfl|h
  ·exact k.1
  ·exact xY.mem k.2 x h
noncomputable def cz(own:Nat)(fr:List Nat)(σ:St):St:=List.replicate own none++fr.map fun j=>(σ[j]?).getD none
noncomputable abbrev fx(us:Vv):Obj:={ cls:=.type "list",data:=.seq us.toArray us.length }
def lX(us:Vv)(u:Value):({ cls:=.type "list",data:=.seq (us.toArray.push u) (us.length+1) }:Obj)=fx (us++[u]):=by
 show({ cls:=.type "list",data:=.seq (us.toArray.push u) (us.length+1) }:Obj)={ cls:=.type "list",data:=.seq (us++[u]).toArray (us++[u]).length }
 rw[EM,Fd,List.push_toArray]
section
variable {X:Cx} {pins:Va} {σ:St} {H:Hp} {s:Shared}
def Inv.Bj{D:Addr}{us:Vv}{n:Nat}{ys:List V}(I:Inv X pins σ H s)(f:d0 X pins H D)(e:s.heap.get? D=some { cls:=.type "list",data:=.seq us.toArray n })(r:Vals ys us)(hz:ys.length<=sizeLine) :
  Inv X pins σ (upd H D (.lst ys)) s:=by
 obtain⟨f0,f1,f2,f3,f4,f5⟩:=f
 have nD:∀b u,H b=some u->b≠D:=fun b u q=>au q f0
 have hok:yF X.prog X.w (upd H D (.lst ys)) s.heap:=fun b u q=>by
  by_cases hb:b=D
  ·subst hb
   rw[am]at q
   cases q
   exact⟨hz,us,n,r,e⟩
  ·rw[ak hb]at q
   exact(I.hok b u q).stay (fun _ _ _ z=>z) (fun c z=>by rw[ak (nD c _ z)];exact z) fun c xs z=>by rw[ak (nD c _ z)];exact z
 exact I.step (H':=upd H D (.lst ys)) (h':=s.heap) (g':=s.gens) (t':=s.toks) (d':=s.drawn) (ch:=[D])
  (fun b hb=>by
   have z:b=D:=by simpa using hb
   subst z
   exact⟨f3,f1,f4,f5⟩)
  (fun _ _ _ _ _ q _=>q) (fun _ o _ _ _ q _=>⟨o.slots,q⟩)
  (fun b o hb _ n=>by rw[ak (fun z=>hb (by simp[z]))];exact n)
  (fun _ o _ q=>⟨o,q⟩) (fun b xs q=>by rw[ak (nD b _ q)];exact q) (fun b o u q=>by rw[ak (nD b _ q)];exact q)
  (fun b ps q=>⟨#[],by rw[ak (nD b _ q),q];simp⟩) (fun _ q=>q) hok I.bare
def rW{N:Vs}{scope:Scope}{fs:Vs}{C:Addr}{fp:List Addr}(I:Inv X pins σ H s)(hkind:scope.kind = .function)(hC:s.heap.objs.size<=C)(hcl:br X.env fs)
  (hhas:i6 (relabel scope X.env).names (bx X.env fs)=true) (hf:∀b∈fp,d0 X pins H b) (hlt:∀b∈fp,b < s.heap.objs.size):(X.yJ N scope fs ⟨C,s,H,fp,X.pn++pins⟩).Ok where
 mod:=I.ok.mod
 kind:=hkind
 glob:=I.ok.glob
 blt:=I.ok.blt
 above:=hC
 inj:=fun x y c h1 h2=>I.ok.inj x y c (fO hcl h1) (fO hcl h2)
 has:=fun x hx=>by
  rcases hx with e|e
  ·exact mV hhas e (.inl rfl)
  ·exact mV hhas e (.inr rfl)
 AC:=fun x c h=>by cases h
 hd:=I.ok.hd
 frames:=I.ok.frames
 stk:=.inl rfl
 Bt:=fun b hb=>⟨ES (EN (hlt b hb) hC),fun x c e=>(hf b hb).2.2.2.2.1 x c (fO hcl e)⟩
 bs:=I.bs
 Ad:=EW I.ok.Ad I.sz
 zK:=fun b o e hb=>(hf b hb).2.2.2.1.elim (fun z=>I.ok.zK b o e z) fun z=>absurd (EN (EK e) (EW I.ok.Ad z)) (Ge _)
 zX:=fun b hb z=>(EX.mp (I.yY b z)).elim (hf b hb).2.1 (hf b hb).2.2.1
 yQ:=I.stack
 Ar:=I.zR
def pq{N:Vs}{scope:Scope}{fs:Vs}{C D:Addr}{fp:List Addr}{own:Nat}{fr:List Nat}{h₁:Heap}{m0:Vr}{t':Nat}(I:Inv X pins σ H s)
  (ok:(X.yJ N scope fs ⟨C,s,H,fp,X.pn++pins⟩).Ok) (hC:s.heap.objs.size<=C) (hD:s.heap.objs.size<=D) (hDC:D≠C) (hcl:br X.env fs)
  (old:∀b o,s.heap.get? b=some o->h₁.get? b=some o) (hns:h₁.Ns C m0) (hacc:h₁.get? D=some (fx [])) (hlen:N.length=own+fr.length) (hN:(N.drop own).map some=fr.map fun j=>X.N[j]?)
  (hF:xY X.env scope (bx X.env fs) (N.drop own)) :
  Inv (X.yJ N scope fs ⟨C,s,H,fp,X.pn++pins⟩) [(D,fx [])] (cz own fr σ) H { s with heap:=h₁,toks:=t' }:=by
 refine⟨ok,rfl,I.bare,Un.kept old,⟨m0,hns,fun i x v e1 e2 e3=>?_⟩,fun x c e=>?_,I.hok.fresh hC,fun x c e=>(I.yu x c (fO hcl e)).imp id fun⟨_,z⟩=>⟨rfl,z⟩,fun p hp=>?_,I.hok.kept old,?_⟩
 ·have e1:N[i]?=some x:=e1
  by_cases hi:i < own
  ·unfold cz at e2
   rw[E5 (by rw[Fq];exact hi),FP,if_pos hi]at e2
   cases e2
  ·obtain⟨k,rfl⟩:∃k,i=own+k:=⟨i - own,by omega⟩
   have e1':(N.drop own)[k]?=some x:=by rw[HJ];exact e1
   have q:=Fl (fun l=>l[k]?) hN
   simp only[E1,e1',Option.map_some]at q
   unfold cz at e2
   rw[E7 (by rw[Fq];omega),Fq,Nat.add_sub_cancel_left,E1]at e2
   cases hj:fr[k]? with
   |none=>rw[hj]at e2;cases e2
   |some j=>
    rw[hj]at e2 q
    simp only[Option.map_some,Option.some.injEq]at e2 q
    have hσ:σ[j]?=some (some v):=by
     cases z:σ[j]? with
     |none=>rw[z]at e2;cases e2
     |some w=>rw[z]at e2;simp only[Option.getD_some]at e2;rw[e2]
    obtain⟨k1,k2,k3⟩:=hF.mem x (GR e1')
    obtain⟨m,hn,hl⟩:=I.loc
    have vis:t6 X.env.scope x:=by
     rcases k1 with z|z
     ·exact .inr (.inl z)
     ·exact .inr (.inr z)
    obtain⟨u,ru,l⟩:=hl j x v q.symm hσ vis
    rcases l with⟨hk,_⟩|⟨_,c,hc,o,ho,hd⟩
    ·have hk':X.env.scope.names.lookup x=some .local:=hk
     rcases k1 with z|z
     ·rw[z]at hk';cases hk'
     ·rw[z]at hk';cases hk'
    ·exact⟨u,ru,.inr ⟨k2,c,k3.trans hc,o,old _ _ ho,hd⟩⟩
 ·obtain⟨v,o,ho,hd⟩:=I.cell x c (fO hcl e)
  exact⟨v,o,old _ _ ho,hd⟩
 ·rcases Ff.mp hp with z|z
  ·obtain⟨e,n,ne,nf,d⟩:=I.pin p z
   exact⟨old _ _ e,n,ES (EN (EK e) hC),fun q=>(EX.mp (I.yY _ q)).elim ne nf,d⟩
  ·have z':p=(D,fx []):=by simpa using z
   subst z'
   exact⟨hacc,I.hok.fresh hD,hDC,fun q=>(EX.mp (I.yY _ q)).elim (fun e=>absurd e (Hg (EN I.lt hD))) (I.Bc hD),fun v z=>by cases z⟩
 ·show(cz own fr σ).length=N.length
  unfold cz
  rw[EM,Fq,EG,hlen]
end
def PF(X:Cx)(ifs:List Expr)(t:TT):Prop:=
 ∀(pins:Va) (s:Shared) (σ:St) (H:Hp) (Q:Bool->Hp->Prop),Inv X pins σ H s->t σ H Q->
  wpAny (model X.prog X.w) X.A (forIn ifs true fun c r=>if r=true then do let ok <-isTrue c X.env (eval c X.env);pure (ForInStep.yield ok) else pure (ForInStep.yield r)) (TP X pins σ Q) X.xe s
def wg:TT:=fun _ H Q=>Q true H
def rX{X:Cx}:PF X [] wg:=fun _ _ _ H _ I h=>wpAny_tests_nil ⟨H,I,h⟩
def rY{X:Cx}{c:Expr}{t:TT}(h:PT X c t):PF X [c] t:=fun pins s σ H Q I q=>wpAny_tests_one (h pins s σ H Q I q)
def qD(J:It)(g:TG)(tc:TT)(te:TE)(own:Nat)(σ':St)(fin:List V->Hp->Prop)(H1:Hp):Prop:=
 ∃W:Nat->Nat->List V->Hp->Prop,(∃m,W 0 m [] H1)/\∀i m ys H,W i m ys H->
  (J.stop i H/\ys.length<=sizeLine/\fin ys H) \/
  (J.go i H/\ys.length<=sizeLine/\∃Nx:List V->Hp->Prop,(∀ys' H',Nx ys' H'->∃m',m' < m/\W (i+1) m' ys' H')/\∀x H',J.Bw i H x H'->g x σ' H' fun σ2 H2=>σ2.drop own=σ'.drop own/\tc σ2 H2 fun b H3=>
   if b=true then te σ2 H3 fun y H4=>Nx (ys++[y]) H4 else Nx ys H3)
section
variable {X:Cx} {pins:Va} {σ:St} {H:Hp} {s:Shared}
variable {elt iter tg:Expr} {ifs:List Expr} {scope:Scope} {pos:Pos} {N:Vs} {own:Nat} {fr:List Nat} {fs:Vs} {g:TG} {tc:TT} {te:TE}
def gA{J:It}{fp:List Addr}{it:Addr}{tn:Nat->Heap->Prop}{fin:List V->Hp->Prop}{E:Vq}{RR:Value->Addr->Result->Shared->Prop}
  (hc:X.calm=true) (hcell:∀y∈scope.names,y.2 ≠ .cell) (hkind:scope.kind = .function) (hcl:br X.env fs) (hhas:i6 (relabel scope X.env).names (bx X.env fs)=true)
  (hlen:N.length=own+fr.length) (hN:(N.drop own).map some=fr.map fun j=>X.N[j]?) (hF:xY X.env scope (bx X.env fs) (N.drop own))
  (hg:∀B,PG (X.yJ N scope fs B) tg g) (hf:∀B,PF (X.yJ N scope fs B) ifs tc) (he:∀B,PE (X.yJ N scope fs B) elt te)
  (I:Inv X pins σ H s) (T:lJ X.prog X.w X.K tg J fp it tn) (st:tn 0 s.heap) (f:∀b∈fp,d0 X pins H b) (W:qD J g tc te own (cz own fr σ) fin H)
  (hRR:∀D C s' ys H' m',Inv X pins σ (upd H' D (.lst ys)) s'->H' D=none->s'.heap.Ns C m'->d0 X pins (upd H' D (.lst ys)) C->fin ys H'->RR (.ref D) C (.ok .next) s') :
  wpAny (model X.prog X.w) X.A (newList []) (fun acc s₃=>wpAny (model X.prog X.w) X.A (newFunctionEnv scope X.env.globals (bx X.env fs) [] X.env.qual none .none (some X.env)) (fun cenv s₄=>
   codeAny (model X.prog X.w) X.A (.compStart (.ListComp elt [⟨tg,iter,ifs,0⟩] scope pos) 0 (.ref it) acc { cenv with scope:=relabel scope X.env }) (RR acc cenv.locals) s₄) E s₃) E s:=by
 refine Ft (wpAny_newFunctionEnv hcell (by intro y hy;simp at hy) (fun h₁ AW Ax=>?_) hkind)
 dsimp only at AW Ax ⊢
 generalize BX:s.heap.push { cls:=.type "list",dict:=none,data:=.seq ([]:Vv).toArray }=H2 at AW Ax ⊢
 have hC:H2.objs.size=s.heap.objs.size+1:=by rw[<-BX,FT]
 have AX:s.heap.objs.size<=H2.objs.size:=by rw[hC];exact Nat.le_succ _
 have hDC:s.heap.objs.size≠H2.objs.size:=by rw[hC];exact ES (Nat.lt_succ_self _)
 have below:∀b,b < s.heap.objs.size->b≠H2.objs.size/\b≠s.heap.objs.size:=fun b hb=>⟨by rw[hC];exact ES (Nat.lt_succ_of_lt hb),ES hb⟩
 have old:∀b o,s.heap.get? b=some o->h₁.get? b=some o:=fun b o e=>Ax.extBut b o (below b (EK e)).1 (EF _ (BX▸EF _ e))
 have hacc:h₁.get? s.heap.objs.size=some (fx []):=Ax.extBut _ _ hDC (EF _ (BX▸EL _ rfl))
 have hlt:∀b∈fp,b < s.heap.objs.size:=fun b hb=>by
  obtain⟨o,e,_⟩:=T.obj 0 _ st b hb
  exact EK e
 obtain⟨Wv,⟨m0,w0⟩,turn⟩:=W
 have ok:=rW (N:=N) I hkind AX hcl hhas f hlt
 have loop:∀s₃:Shared,s₃={ s with heap:=h₁,toks:=s.toks+([]:List (Str×Value)).length }->
   codeAny (model X.prog X.w) X.A (.compLoop (.ListComp elt [⟨tg,iter,ifs,0⟩] scope pos) 0 (.ref it) (.ref s.heap.objs.size) (compEnvC scope (bx X.env fs) H2.objs.size X.env))
    (RR (.ref s.heap.objs.size) H2.objs.size) s₃:=by
  rintro s₃ rfl
  have I0:=pq (own:=own) (fr:=fr) (t':=s.toks+([]:List (Str×Value)).length) I ok AX (EJ _) hDC hcl old AW hacc hlen hN hF
  have DJ:tn 0 h₁:=T.keep 0 _ _ st fun b _ o e=>old b o e
  have stat:∀{us:Vv} {H':Hp},(∀b∈fp,H' b=none)->∀b∈fp,d0 (X.yJ N scope fs ⟨H2.objs.size,s,H,fp,X.pn++pins⟩) [(s.heap.objs.size,fx us)] H' b:=fun{us H'} hn b hb=>by
   obtain⟨f0,f1,f2,f3,f4,f5⟩:=f b hb
   refine⟨hn b hb,(below b (hlt b hb)).1,fun z=>(EX.mp (I.yY b z)).elim f1 f2,.inl hb,fun x c e=>f4 x c (fO hcl e),fun p hp=>?_⟩
   rcases Ff.mp hp with z|z
   ·exact f5 p z
   ·have z':p=(s.heap.objs.size,fx us):=by simpa using z
    subst z'
    exact F3 (below b (hlt b hb)).2
  have BY:∀p∈X.pn++pins,p.1 < s.heap.objs.size:=fun p hp=>EK (I.pin p hp).1
  refine i5 (fun k s'=>∃i ys us H',Inv (X.yJ N scope fs ⟨H2.objs.size,s,H,fp,X.pn++pins⟩) [(s.heap.objs.size,fx us)] (cz own fr σ) H' s'/\Vals ys us/\tn i s'.heap/\(∀b∈fp,H' b=none)/\Wv i k ys H') ?_ m0
   ⟨0,[],[],H,I0,.nil,DJ,fun b hb=>(f b hb).1,w0⟩
  rintro n s' ⟨i,ys,us,H',I',rv,st',CQ,w'⟩
  rcases turn i n ys H' w' with⟨stop,hz,BZ⟩|⟨go,hz,Nx,CS,step⟩
  ·refine xI (T.done (X.yJ N scope fs ⟨H2.objs.size,s,H,fp,X.pn++pins⟩) rfl rfl rfl hc i _ s' _ H' (fun _ _=>False) I' (stat CQ) st' stop) (fun r s1 ⟨hr,I1⟩=>?_)
   subst hr
   show RR _ _ (.ok .next) s1
   have IX:Inv X pins σ H' s1:=I.Bf I1.os I1.base I1.hok I1.bare fun b hb=>by
    obtain⟨f0,f1,f2,f3,f4,f5⟩:=f b hb
    exact⟨f3,f1,f4,f5⟩
   obtain⟨eD,nD,_⟩:=I1.pin (s.heap.objs.size,fx us) (by simp)
   have IT:=IX.Bj (I.zC (H':=H') (EJ _) nD) eD rv hz
   obtain⟨m',hn',_⟩:=I1.loc
   exact hRR _ _ s1 ys H' m' IT nD hn' (I.zC AX (by rw[ak (F3 hDC)];exact I1.free)) BZ
  ·refine xI (T.item (X.yJ N scope fs ⟨H2.objs.size,s,H,fp,X.pn++pins⟩) rfl rfl rfl hc i _ s' _ H' (fun _ _=>False) I' (stat CQ) st' go) (fun r s1 ⟨u,hr,h1⟩=>?_)
   subst hr
   show wpAny _ _ (letOwnedTupleGo tg (.ref it) u) _ _ s1
   refine xI h1 (fun _ s5 ⟨x,H5,I5,r5,y5,At,BR⟩=>?_)
   have BS:=I5.pinned (stat BR) (T.obj _ _ At)
   refine xI (hg _ _ s5 _ H5 x u _ BS r5 (step x H5 y5)) (fun _ s6 ⟨σ6,H6,I6,DK,q6⟩=>?_)
   refine xI (hf _ _ s6 σ6 H6 _ I6 q6) (fun b s7 ⟨H7,I7,q7⟩=>?_)
   -- AY the turn's own names
   have forget:∀{H8:Hp} {s8:Shared} {pl:Va},Inv (X.yJ N scope fs ⟨H2.objs.size,s,H,fp,X.pn++pins⟩) pl σ6 H8 s8->Inv (X.yJ N scope fs ⟨H2.objs.size,s,H,fp,X.pn++pins⟩) pl (cz own fr σ) H8 s8:=fun{H8 s8 pl} I8=>by
    refine I8.weak (I0.len.trans I8.len.symm) fun j v e=>?_
    by_cases hj:j < own
    ·unfold cz at e
     rw[E5 (by rw[Fq];exact hj),FP,if_pos hj]at e
     cases e
    ·obtain⟨k,rfl⟩:∃k,j=own+k:=⟨j - own,by omega⟩
     rw[<-HJ]at e ⊢
     rw[DK]
     exact e
   have By:∀{H8:Hp} {s8:Shared},Inv (X.yJ N scope fs ⟨H2.objs.size,s,H,fp,X.pn++pins⟩) ([(s.heap.objs.size,fx us)]++gr fp s5.heap) σ6 H8 s8->∀b∈fp,∀o,s5.heap.get? b=some o->s8.heap.get? b=some o/\H8 b=none:=fun I8 b hb o e=>
    let z:=I8.pin (b,o) (E4 _ (E4 _ (eE hb e)))
    ⟨z.1,z.2.1⟩
   cases b with
   |false=>
    show ∃m,m < n/\_
    obtain⟨m',hm,w7⟩:=CS _ _ (show Nx ys H7 from q7)
    refine⟨m',hm,i+1,ys,us,H7,(forget I7).yR,rv,T.keep _ _ _ At fun b hb o e=>(By I7 b hb o e).1,fun b hb=>?_,w7⟩
    obtain⟨o,e,_⟩:=T.obj _ _ At b hb
    exact(By I7 b hb o e).2
   |true=>
    show wpAny _ _ (eval elt _) _ _ s7
    have DL:te σ6 H7 fun y H4=>Nx (ys++[y]) H4:=q7
    refine xI (he _ _ s7 σ6 H7 _ I7 DL) (fun v s8 ⟨y,H8,I8,r8,n8⟩=>?_)
    obtain⟨m',hm,w8⟩:=CS _ _ n8
    obtain⟨eD,nD,CT,DM,_⟩:=I8.pin (s.heap.objs.size,fx us) (E4 _ (Gq _ (by simp)))
    refine append_at (hsz:=by show us.toArray.size<=sizeLine;rw[EH,<-rv.length];exact hz) eD fun h9 CU DN=>?_
    have J0:Inv (X.yJ N scope fs ⟨H2.objs.size,s,H,fp,X.pn++pins⟩) [] σ6 H8 s8:=I8.zc fun p hp=>nomatch hp
    have J1:Inv (X.yJ N scope fs ⟨H2.objs.size,s,H,fp,X.pn++pins⟩) [] σ6 H8 { s8 with heap:=h9 }:=J0.turned (t':=s8.toks) (it:=s.heap.objs.size) (fun b o hb e=>(CU.2 b hb).trans e) nD CT (.inr (EJ _))
     (fun x c e z=>by
      obtain⟨v',q⟩:=I.cell x c (fO hcl e)
      exact absurd (EN q.lt (by rw[z];exact EJ _)) (Ge _))
     (fun p hp=>by
      rw[Gn]at hp
      exact ES (BY p hp))
    have J2:Inv (X.yJ N scope fs ⟨H2.objs.size,s,H,fp,X.pn++pins⟩) [(s.heap.objs.size,fx (us++[v]))] σ6 H8 { s8 with heap:=h9 }:=J1.zc fun p hp=>by
     have z':p=(s.heap.objs.size,fx (us++[v])):=by simpa using hp
     subst z'
     exact⟨DN.trans (Fl some (lX us v)),nD,CT,DM,fun v z=>by cases z⟩
    refine⟨m',hm,i+1,ys++[y],us++[v],H8,forget J2,Vals.append rv (.cons r8 .nil),T.keep _ _ _ At fun b hb o e=>(CU.2 b (below b (hlt b hb)).2).trans (By I8 b hb o e).1,fun b hb=>?_,w8⟩
    obtain⟨o,e,_⟩:=T.obj _ _ At b hb
    exact(By I8 b hb o e).2
 exact codeAny_compStart_list (loop _ rfl) (T.self _ 0 _ _ _ (T.keep 0 _ _ st fun b _ o e=>old b o e) (loop _ rfl))
def mW(wi:TI)(g:TG)(tc:TT)(te:TE)(own:Nat)(fr:List Nat):TE:=fun σ H Q=>wi σ H fun J H1=>
 qD J g tc te own (cz own fr σ) (fun ys H2=>∀D,H2 D=none->Q (.ref D) (upd H2 D (.lst ys))) H1
def pr(fs:Vs)(own:Nat)(fr:List Nat)(N:Vs){wi:TI}(hc:X.calm=true)(hclos:closureFor scope X.env=pure (bx X.env fs))(hcell:∀y∈scope.names,y.2 ≠ .cell)(hkind:scope.kind = .function)
  (hnames:∀x∈scope.names,x.2 = .local->scope.names.lookup x.1=some .local) (hcl:br X.env fs) (hhas:i6 (relabel scope X.env).names (bx X.env fs)=true)
  (hlen:N.length=own+fr.length) (hN:(N.drop own).map some=fr.map fun j=>X.N[j]?) (hF:xY X.env scope (bx X.env fs) (N.drop own))
  (hi:PI X tg iter wi) (hg:∀B,PG (X.yJ N scope fs B) tg g) (hf:∀B,PF (X.yJ N scope fs B) ifs tc) (he:∀B,PE (X.yJ N scope fs B) elt te)
  (hs:∀x,foldedSetIterable iter X.env x=pure x:=by intro _;rfl):PE X (.ListComp elt [⟨tg,iter,ifs,0⟩] scope pos) (mW wi g tc te own fr):=by
 intro pins s σ H Q I h
 rw[eval_ListComp]
 refine wpAny_comprehension_free (use:=none) (g:=⟨tg,iter,ifs,0⟩) (gs:=[]) rfl hs hclos hkind hnames (xI (hi pins s σ H _ I h) fun v s1 h1=>xI h1 fun itv s2 h2=>?_)
 obtain⟨it,fp,tn,J,H2,e,I2,T,st2,f2,W⟩:=h2
 subst e
 refine gA (RR:=fun acc C=>compPost (model X.prog X.w) X.A X.xe none (EP X pins σ Q) acc C) hc hcell hkind hcl hhas hlen hN hF hg hf he I2 T st2 f2 W ?_
 intro D C s' ys H' m' I' nD hn fC fin
 exact⟨m',hn,fun h' hs'=>⟨.ref D,_,I'.turned (t':=s'.toks) (fun b o hb e=>(hs'.2 b hb).trans e) fC.1 fC.2.1 fC.2.2.2.1 fC.2.2.2.2.1 fC.2.2.2.2.2,rfl,fin D nD⟩⟩
def pA(fs:Vs)(own:Nat)(fr:List Nat)(N:Vs){wi:TI}{i:Nat}{y:Str}{py spos:Pos}(hX:X.N.Nodup)(hix:X.N[i]?=some y)(hy:X.env.scope.names.lookup y=some .local)
  (hsw:swapsWith (.ListComp elt [⟨tg,iter,ifs,0⟩] scope pos) (some (.Name y py)) spos.line X.env=pure true)
  (hc:X.calm=true) (hclos:closureFor scope X.env=pure (bx X.env fs)) (hcell:∀y∈scope.names,y.2 ≠ .cell) (hkind:scope.kind = .function)
  (hnames:∀x∈scope.names,x.2 = .local->scope.names.lookup x.1=some .local) (hcl:br X.env fs) (hhas:i6 (relabel scope X.env).names (bx X.env fs)=true)
  (hlen:N.length=own+fr.length) (hN:(N.drop own).map some=fr.map fun j=>X.N[j]?) (hF:xY X.env scope (bx X.env fs) (N.drop own))
  (hi:PI X tg iter wi) (hg:∀B,PG (X.yJ N scope fs B) tg g) (hf:∀B,PF (X.yJ N scope fs B) ifs tc) (he:∀B,PE (X.yJ N scope fs B) elt te)
  (hs:∀x,foldedSetIterable iter X.env x=pure x:=by intro _;rfl):PS X (.Assign [.Name y py] (.ListComp elt [⟨tg,iter,ifs,0⟩] scope pos) spos) (oX (mW wi g tc te own fr) (jC i)):=by
 intro pins s σ H D I h
 rw[exec_Assign_Name_used _ _ _ _ hsw]
 refine EE (wpAny_standAt (EE ?_))
 show wpAny _ X.A (do let _ <-comprehension (.ListComp elt [⟨tg,iter,ifs,0⟩] scope pos) scope X.env _ (newList []) false (eval iter X.env) (some (assign (.Name y py) X.env))) _ _ s
 refine EE (F7 (wpAny_comprehension_free (use:=some (assign (.Name y py) X.env)) (Q:=fun _ s'=>SP X pins D .next s') (g:=⟨tg,iter,ifs,0⟩) (gs:=[]) rfl hs hclos hkind hnames
  (xI (hi pins s σ H _ I h) fun v s1 h1=>xI h1 fun itv s2 h2=>?_)) (fun _ s' hq=>EI (EI hq)) fun _ _ e=>e)
 obtain⟨it,fp,tn,J,H2,e,I2,T,st2,f2,W⟩:=h2
 subst e
 refine gA (RR:=fun acc C=>compPost (model X.prog X.w) X.A X.xe (some (assign (.Name y py) X.env)) (fun _ s'=>SP X pins D .next s') acc C) hc hcell hkind hcl hhas hlen hN hF hg hf he I2 T st2 f2 W ?_
 intro Da C s' ys H' m' I' nD hn fC fin
 show wpAny _ X.A (assign (.Name y py) X.env (.ref Da)) _ _ s'
 refine wpAny_assign_Name (ik (v:=.ref Da) I' hX hix (.inl hy) rfl (fun s2 I3 ⟨a,sb,ha⟩=>?_) (.inr hy))
 have ca:C≠a:=by
  rcases ha with z|z
  ·rw[z];exact fC.2.1
  ·exact F3 (fC.2.2.2.2.1 _ _ z)
 exact⟨m',hn.sameBut sb ca,fun h' hs'=>⟨_,_,I3.turned (t':=s2.toks) (fun b o hb e=>(hs'.2 b hb).trans e) fC.1 fC.2.1 fC.2.2.2.1 fC.2.2.2.2.1 fC.2.2.2.2.2,fin Da nD⟩⟩
end
end L2
namespace PySem
open Sem (wp)
namespace F
def lY:typeLookup (.type "list_reverseiterator") "__len__" = pure none:=by rw[G4,Gj];kernel_rfl
def mX:typeLookup (.type "list_reverseiterator") "__length_hint__" = pure (some (.builtin "list_reverseiterator.__length_hint__")):=by rw[G4,Gj];kernel_rfl
end F
section
variable {prog:Program} {w:World} {A:Around} {s:Shared} {R:Result->Shared->Prop}
variable {I:Addr} {fp wr:List Addr} {G:Array GenState->Array GenState->Prop} {n:Nat} {P:Nat->Value->Prop} {St:Nat->Shared->Prop}
def ku(W:WalksS prog w A.in1 I fp wr G n P St)(hT:∀i s,St i s->s.TypeIs (.ref I) "list_reverseiterator")(S:Addr)(res:Value)(c₀:Nat)(hst:St 0 s)(hSf:S ∉ fp)(hI:I∈fp)
  (hS:s.heap.get? S=some { cls:=.type "list",data:=.seq #[] c₀ })
  (hR:∀s' acc' c',Moved (S::wr) G s s'->s'.heap.get? S=some { cls:=.type "list",dict:=none,data:=.seq acc' c',slots:=#[] }->ItemsOf P acc' n->R (.ok (.ret res)) s') (hn:n<=sizeLine) :
  wpAny (model prog w) A.in1 (Builtin.List.listExtendWith (.ref S) (.ref I) res)
   (fun fin s'=>match fin with | .done f=>R (.ok f) s' | .again c'=>c'.quiet=true/\codeAny (model prog w) A c' R s') (fun e s'=>R (.error e) s') s:=by
 have hSI:S≠I:=fun e=>hSf (e▸hI)
 have h1:Builtin.List.listSameRef (.ref S) (.ref I)=false:=by simp[Builtin.List.listSameRef,hSI]
 unfold Builtin.List.listExtendWith
 refine EE (GD (hT 0 _ hst) ?_)
 rw[if_neg (by rw[h1];decide)]
 refine EE (W.self 0 _ _ _ hst ?_)
 refine EE (FI ?_)
 unfold Builtin.List.listLengthHint
 refine EE (HA (hT 0 _ hst) F.lY ?_)
 show wpAny _ A.in1 (specialOf (Value.ref I) (Str.ofString "__length_hint__") >>= _) _ _ _
 refine EE (HA (hT 0 _ hst) F.mX ?_)
 (generalize hid:("list_reverseiterator.__length_hint__":String)=DO;wp_delta;rw[show splitId DO=some ("list_reverseiterator","__length_hint__")from by subst hid;decide +kernel];subst hid)
 refine EE (wpAny_isInstance (b:=true) (hT 0 _ hst) (by rw[isSubtype_type];kernel_rfl) ?_)
 refine EI ?_
 rw[if_neg (by decide)]
 exact EI ⟨Gy FG _,codeAny_extend_loopS W hn _ hSf _ n 0 _ _ _ rfl (Fp _) hst hS (ItemsOf.nil P) fun s' acc' c' hm hS' hacc=>hR s' acc' c' hm hS' hacc⟩
def hG(W:WalksS prog w A.in1 I fp wr G n P St)(hT:∀i s,St i s->s.TypeIs (.ref I) "list_reverseiterator")(S:Addr)(hst:St 0 s)(hSf:S ∉ fp)(hI:I∈fp)
  (hS:s.heap.get? S=some { cls:=.type "list",data:=.seq #[] })
  (hR:∀s' acc' c',Moved (S::wr) G s s'->s'.heap.get? S=some { cls:=.type "list",dict:=none,data:=.seq acc' c',slots:=#[] }->ItemsOf P acc' n->R (.ok (.ret .none)) s') (hn:n<=sizeLine) :
  wpAny (model prog w) A.in1 (Builtin.«list.__init__» ⟨[.ref S,.ref I],[]⟩)
   (fun fin s'=>match fin with | .done f=>R (.ok f) s' | .again c'=>c'.quiet=true/\codeAny (model prog w) A c' R s') (fun e s'=>R (.error e) s') s:=by
 show wpAny _ A.in1 (do let old <-Builtin.List.listItems (.ref S);Builtin.List.listUpdate (.ref S) (fun _=>#[]);letGo old.toList.reverse;Builtin.List.listExtendWith (.ref S) (.ref I) .none) _ _ s
 refine EE ?_
 unfold Builtin.List.listItems
 refine EE (Fx hS rfl (EI ?_))
 show wpAny _ A.in1 (updateSeq S (fun _=>#[]) >>= fun _=>letGo (#[]:Vw).toList.reverse >>= fun _=>Builtin.List.listExtendWith (.ref S) (.ref I) .none) _ _ s
 refine EE (G5 hS rfl ?_)
 have Bz:=FH (Obj.mapSeq (fun _=>(#[]:Vw))) hS rfl
 have yx:∀b o,b≠S->s.heap.get? b=some o->(s.heap.update S (Obj.mapSeq (fun _=>(#[]:Vw)))).get? b=some o:=
  fun b o hb e=>(FA _ _ (F3 hb)).trans e
 refine EE (wpAny_letGo ?_)
 refine ku (hn:=hn) W hT S .none _ (W.frame 0 s _ s.toks hst (EJ _) fun b hb o e=>yx b o (fun h=>hSf (h▸hb)) e) hSf hI Bz fun s' acc' c' hm hS' hacc=>?_
 exact hR s' acc' c' (Moved.trans W.gtrans ((Moved.refl W.grefl).then_heap (EJ _) fun b o hb e=>yx b o (fun h=>hb (h▸FJ)) e) hm) hS' hacc
end
section
variable {prog:Program} {w:World} {A:Around} {E:Vq} {s:Shared}
def hJ{I l:Addr}{items:Vw}{Q:Vq}(hh:A.handled=none)(hl:s.heap.IsList l items)(hit:s.heap.IsRevIter I l ((items.size:Int) - 1))(hne:l≠I)(hn:items.size<=sizeLine)
  (hQ:∀h' tk acc' c',(∀b o,b≠I->s.heap.get? b=some o->h'.get? b=some o)->h'.get? s.heap.objs.size=some { cls:=.type "list",dict:=none,data:=.seq acc' c',slots:=#[] }->
   acc'.toList=items.toList.reverse->Q (.ref s.heap.objs.size) { s with heap:=h',toks:=tk }) :
  wpAny (model prog w) A (call (.type "list") [.ref I]) Q E s:=by
 have W:=(Walks.listRev (prog:=prog) (w:=w) (A:=A.in1.in1) hh I l hne items).toS
 have B1:I < s.heap.objs.size:=by obtain⟨o,ho,_⟩:=hit;exact EK ho
 have B2:l < s.heap.objs.size:=by obtain⟨o,ho,_⟩:=hl;exact EK ho
 have hfp:∀b∈[I,l],b < s.heap.objs.size:=fun b hb=>by
  rcases EX.mp hb with rfl|hb
  ·exact B1
  ·rw[FO.mp hb];exact B2
 have hSf:s.heap.objs.size ∉ [I,l]:=fun hm=>Ge _ (hfp _ hm)
 have hst:(fun i (s:Shared)=>i<=items.size/\s.heap.IsRevIter I l ((items.size:Int) - 1 - (i:Int))/\s.heap.IsList l items) 0 s:=⟨Fp _,by simpa using hit,hl⟩
 refine callType_codes (Q₁:=fun obj s₁=>obj = .ref s.heap.objs.size/\s₁={ s with heap:=s.heap.push { cls:=.type "list",data:=.seq #[] } }) F.called_list (F.typeCall_list_1 _) F.entry_list_init
  (code_list_new _ ⟨rfl,rfl⟩) fun obj s₁ h₁=>?_
 obtain⟨rfl,rfl⟩:=h₁
 have hS:(s.heap.push { cls:=.type "list",data:=.seq #[] }).get? s.heap.objs.size=some { cls:=.type "list",data:=.seq #[] }:=EL _ rfl
 refine⟨⟨_,hS,rfl⟩,F.args_list_init_2 _ _,hG (hn:=hn) W (fun i s st=>st.2.1.typeIs) _ (W.frame 0 s _ s.toks hst (EJ _) fun b _ o e=>EF _ e) hSf (FJ ..) hS fun s' acc' c' hm hS' hacc=>?_⟩
 refine⟨rfl,?_⟩
 rw[hm.eq_with]
 refine hQ s'.heap s'.toks acc' c' (fun b o hb e=>hm.heap b o (fun z=>?_) (EF _ e)) hS' ?_
 ·rcases EX.mp z with z|z
  ·exact absurd (EK e) (by rw[z];exact Ge _)
  ·exact hb (FO.mp z)
 ·obtain⟨hsz,hP⟩:=hacc
  apply List.ext_getElem?
  intro j
  by_cases hj:j < items.size
  ·have hj':j < acc'.size:=by rw[hsz];exact hj
   have q:=hP j acc'[j] (by simp[hj'])
   have e1:acc'.toList[j]?=some acc'[j]:=by simp[hj']
   rw[e1,List.getElem?_reverse (by simpa using hj)]
   simpa using q.symm
  ·rw[Gk (by simpa [hsz]using hj),Gk (by simpa using hj)]
end
end PySem
namespace L2
open PySem PySem.Spec PyProof.Rows
section
variable {X:Cx}
def mY(K:Vo)(te:TE):TE:=fun σ H Q=>te σ H fun x H1=>∃a xs,x = .ref a/\SqL K H1 a xs/\∀q,H1 q=none->Q (.ref q) (upd H1 q (.lst xs.reverse))
def kw{e:Expr}{te:TE}{p1 p2 q1 q2:Pos}(hc:X.calm=true)(he:PE X e te)(AZ:Gl X "list")(hm1:X.mg "list" = none)(Ay:Gl X "reversed")(hm2:X.mg "reversed" = none)
  (hs:starEach [e] X.env=[(false,eval e X.env)]:=by rfl) (hs2:starEach [.Call (.Name "reversed" p2) [e] [] q2] X.env=[(false,eval (.Call (.Name "reversed" p2) [e] [] q2) X.env)]:=by rfl) :
  PE X (.Call (.Name "list" p1) [.Call (.Name "reversed" p2) [e] [] q2] [] q1) (mY X.K te):=by
 intro pins s σ H Q I h
 refine FN (eC I AZ hm1 (u:=.type "list") (by decide +kernel) ?_)
 refine Fv ?_ hs2 rfl
 rw[hs2]
 show wpAny _ _ (spliced ((false,eval (.Call (.Name "reversed" p2) [e] [] q2) X.env)::backTo q1 [])) _ _ s
 refine FL ?_
 refine FN (eC I Ay hm2 (u:=.type "reversed") boot_reversed ?_)
 refine Fv ?_ hs rfl
 rw[hs]
 show wpAny _ _ (spliced ((false,eval e X.env)::backTo q2 [])) _ _ s
 refine FL (xI (he pins s σ H _ I h) fun u s1 ⟨x,H1,I1,r1,a,xs,ex,hx,q⟩=>?_)
 subst ex
 cases r1
 obtain⟨its,rv,p,hz⟩:=I1.list hx
 have hl:=rv.length
 have hal:a < s1.heap.objs.size:=by obtain⟨o,ho,_⟩:=p.isList;exact EK ho
 refine Gr (call_reversed_list p.isList ?_)
 refine Gr ?_
 refine hJ (I.ok.hd hc) (p.isList.push _) ⟨_,EL _ rfl,rfl,rfl⟩ (ES hal) (by rw[EH,<-hl];exact hz) fun h' tk acc c hk hS ha=>?_
 have hsz:(s1.heap.push (revObj a ((its.toArray.size:Int) - 1))).objs.size=s1.heap.objs.size+1:=FT _ _
 have hle:s1.heap.objs.size<=(s1.heap.push (revObj a ((its.toArray.size:Int) - 1))).objs.size:=by rw[hsz];exact Nat.le_succ _
 refine⟨.ref _,_,I1.laid (a:=(s1.heap.push (revObj a ((its.toArray.size:Int) - 1))).objs.size) (o:=.lst xs.reverse) (h':=h') (t':=tk) (fun b u e=>hk b u (ES (EK e)) (EF _ e)) hle ?_,rfl,q _ (I1.hok.fresh hle)⟩
 refine⟨by rw[Ga];exact hz,its.reverse,c,Vals.reverse rv,?_⟩
 rw[hS]
 have e:acc=its.reverse.toArray:=by
  apply Array.toList_inj.mp
  rw[ha]
 rw[e]
end
section
variable {X:Cx}
noncomputable abbrev fy(c:Nat):Str:=⟨#[c]⟩
noncomputable def wj(z:Str):It:=⟨fun i _=>i < z.cps.size,fun i H x H'=>H'=H/\∃c,z.cps[i]?=some c/\x = .str (fy c),fun i _=>z.cps.size<=i⟩
def mZ{P:Program}{w:World}{K:Vo}{tg:Expr}{ty:String}(hty:ty = "str_ascii_iterator" \/ ty = "str_iterator")(it:Addr)(z:Str)(t:Tok):lJ P w K tg (wj z) [it] it (fun i h=>i<=z.cps.size/\h.IsStrIter it ty z t i):=by
 have W:∀A':Around,A'.handled=none->Walks P w A' it [it] [it] z.cps.size (SignAt z) (fun i h=>h.IsStrIter it ty z t i):=fun A' hA=>by
  rcases hty with rfl|rfl
  ·exact Walks.strAscii hA it z t
  ·exact Walks.strWide hA it z t
 have nt:(["enumerate","zip","dict_itemiterator","dict_reverseitemiterator","odict_iterator","itertools.zip_longest","itertools.pairwise"].contains ty)=false:=by
  rcases hty with rfl|rfl<;>decide
 refine⟨by simp,fun i h st b hb=>?_,fun i h h' st k=>?_,?_,?_,?_⟩
 ·have e:b=it:=by simpa using hb
  subst e
  obtain⟨_,o,e,c,d⟩:=st
  exact⟨o,e,fun v q=>by rw[d]at q;cases q⟩
 ·obtain⟨hi,o,e,r⟩:=st
  exact⟨hi,o,k it (by simp) o e,r⟩
 ·intro X hP hw hK hc i pins s σ H E I hf st hg
  subst hP hw hK
  obtain⟨f0,f1,f2,f3,f4,f5⟩:=hf it (by simp)
  refine(W X.A (I.ok.hd hc)).item i s _ _ hg st.2 fun v h' tk hv st' kk=>?_
  obtain⟨c,u,hcp,rfl⟩:=hv
  have I1:Inv X pins σ H { s with heap:=h',toks:=tk }:=I.turned (fun b o hb e=>kk b o (by simpa using hb) e) f0 f1 f3 f4 f5
  obtain⟨o,e,co,d⟩:=id st'
  exact⟨_,rfl,k4 (s:={ s with heap:=h',toks:=tk }) e co d nt ⟨.str (fy c),H,I1,⟨u,rfl⟩,⟨rfl,c,hcp,rfl⟩,⟨hg,st'⟩,fun b hb=>(hf b hb).1⟩⟩
 ·intro X hP hw hK hc i pins s σ H E I hf st hg
  subst hP hw hK
  obtain⟨f0,f1,f2,f3,f4,f5⟩:=hf it (by simp)
  have e:i=z.cps.size:=Nat.le_antisymm st.1 hg
  subst e
  exact(W X.A (I.ok.hd hc)).done s _ _ st.2 fun h' tk kk=>⟨rfl,I.turned (fun b o hb e=>kk b o (by simpa using hb) e) f0 f1 f3 f4 f5⟩
 ·intro A i s Q E st h
  rcases hty with rfl|rfl
  ·exact wpAny_pyIter_striter_ascii st.2 h
  ·exact wpAny_pyIter_striter_wide st.2 h
def pB{ys:Vs}:∀{us:Vv},Vals (ys.map V.str) us->StrsAre us ys:=by
 induction ys with
 |nil=>intro us r;rw[Fw]at r;cases r;exact .nil
 |cons n ns ih=>
  intro us r
  rw[EO]at r
  cases r with
  |cons r1 r2=>
   obtain⟨t,e⟩:=r1
   subst e
   exact .cons n t (ih r2)
noncomputable def uJ(K:Vo):V->List V->Hp->VK->Prop:=fun x vs H Q=>∃sep p ys,x = .str sep/\vs=[.ref p]/\SqL K H p (ys.map V.str)/\(ys.map (·.length)).sum+ys.length * sep.length<=1000000/\Q (.str (Txt.join sep ys)) H
def pC:uA X "str.join" (uJ X.K):=by
 intro pins s σ H x vs v us Q I rx rv h
 obtain⟨sep,p,ys,rfl,rfl,hp,hz,q⟩:=h
 obtain⟨t,rfl⟩:=rx
 obtain⟨u,rfl,ru⟩:=eQ rv
 cases ru
 obtain⟨its,r,pl,_⟩:=I.list hp
 exact join_list pl.isList (by simpa using pB r) (by omega) fun t' k=>⟨.str _,H,I.tok k,⟨t',rfl⟩,q⟩
def kx{z:Str}{acc:Vw}(h:ItemsOf (SignAt z) acc z.cps.size):Vals (z.cps.toList.map fun c=>V.str (fy c)) acc.toList:=by
 obtain⟨hs,hP⟩:=h
 have key:∀(cs:List Nat) (us:Vv),us.length=cs.length->(∀(j:Nat) (v:Value),us[j]?=some v->∃c u,cs[j]?=some c/\v = .str (fy c) u)->Vals (cs.map fun c=>V.str (fy c)) us:=by
  intro cs
  induction cs with
  |nil=>
   intro us hl _
   cases us with
   |nil=>exact .nil
   |cons u us=>cases hl
  |cons c cs ih=>
   intro us hl hu
   cases us with
   |nil=>cases hl
   |cons u us=>
    obtain⟨c',t,e1,e2⟩:=hu 0 u rfl
    have e1':c=c':=by simpa using e1
    subst e1'
    refine .cons ⟨t,e2⟩ (ih us (by simpa using hl) fun j v e=>?_)
    exact hu (j+1) v (by simpa using e)
 refine key z.cps.toList acc.toList (by simp[hs]) fun j v e=>?_
 obtain⟨c,u,e1,e2⟩:=hP j v (by simpa using e)
 exact⟨c,u,by simpa using e1,e2⟩
def fz(hc:X.calm=true):dh X (.type "list") (fun xs H Q=>∃z,xs=[.str z]/\z.length<=sizeLine/\∀l,H l=none->Q (.ref l) (upd H l (.lst (z.cps.toList.map fun c=>V.str (fy c))))):=by
 intro pins s σ H xs us Q I r h
 obtain⟨z,rfl,hz,q⟩:=h
 obtain⟨u,rfl,t,rfl⟩:=eQ r
 refine call_list_str (I.ok.hd hc) z t (fun h' tk acc c hk hS ha=>?_) hz
 refine⟨.ref _,_,I.laid (a:=s.heap.objs.size) (o:=.lst (z.cps.toList.map fun c=>V.str (fy c))) (h':=h') (t':=tk) hk (EJ _) ?_,rfl,q _ (I.hok.fresh (EJ _))⟩
 exact⟨by rw[EG,GW];exact hz,acc.toList,c,kx ha,by rw[hS]⟩
end
section
variable {X:Cx}
noncomputable def wk:V->Option Int->Option Int->Hp->VK->Prop:=fun x lo hi H Q=>∃z,x = .str z/\z.length<=sizeLine/\Q (.str (Txt.slice z lo hi)) H
def rZ:tM X wk:=by
 intro pins s σ H x v vl vu lo hi sl Q I rx hs pl pu h
 obtain⟨z,rfl,hz,q⟩:=h
 obtain⟨t,rfl⟩:=rx
 refine⟨"str",_,F.slot_str_getitem.lookup,typeIs_str _ _ _,?_⟩
 obtain⟨o,e,c,d⟩:=hs
 have fin:∀l u:Option (Int×Tok),(vl=partValue l/\lo=l.map (·.1))->(vu=partValue u/\hi=u.map (·.1))->wpAny (model X.prog X.w) X.A (getItem (.str z t) (.ref sl)) (EP X pins σ Q) X.xe s:=by
  rintro l u ⟨rfl,rfl⟩ ⟨rfl,rfl⟩
  exact wpAny_getItem_str_slice (l:=l) (u:=u) (st:=none) ⟨o,e,c,d⟩ rfl (post_val_or_str ⟨EW (Txt.slice_le z _ _) hz,fun t' k=>⟨.str _,H,I.tok k,⟨t',rfl⟩,q⟩⟩)
 cases pl with
 |none=>
  cases pu with
  |none=>exact fin none none ⟨rfl,rfl⟩ ⟨rfl,rfl⟩
  |int j uj=>exact fin none (some (j,uj)) ⟨rfl,rfl⟩ ⟨rfl,rfl⟩
 |int i ui=>
  cases pu with
  |none=>exact fin (some (i,ui)) none ⟨rfl,rfl⟩ ⟨rfl,rfl⟩
  |int j uj=>exact fin (some (i,ui)) (some (j,uj)) ⟨rfl,rfl⟩ ⟨rfl,rfl⟩
noncomputable def r6:V->List V->Hp->VK->Prop:=fun x vs H Q=>∃a b i rest,x = .str a/\vs=[.str b]/\Builtin.Str.occurrences a b 0 a.length 1=i::rest/\Q (.int i) H
def m4:uA X "str.index" r6:=by
 intro pins s σ H x vs v us Q I rx rv h
 obtain⟨a,b,i,rest,rfl,rfl,ho,q⟩:=h
 obtain⟨t,rfl⟩:=rx
 obtain⟨w,rfl,u,rfl⟩:=eQ rv
 exact call_gives F.slot_str_index (typeIs_str _ _ _) F.entry_str_index (F.args_str_index_2 _ _) (gives_str_index a b t u i rest ho) ⟨.int i,H,I.tok _,⟨_,rfl⟩,q⟩
def r9(K:Vo)(i j k:Nat)(te:TE):TS:=fun D σ H=>te σ H fun x H1=>∃p v w u,x = .ref p/\SqT K H1 p [v,w,u]/\D.nx (((σ.set k (some u)).set j (some w)).set i (some v)) H1
def m5{i j k:Nat}{x y z:Str}{e:Expr}{te:TE}{px py pz pt:Pos}{kt:Nat}{pos:Pos}(hc:X.calm=true)(hN:X.N.Nodup)(hi:X.N[i]?=some x)(hj:X.N[j]?=some y)(hk:X.N[k]?=some z)
  (hx:X.env.scope.names.lookup x=some .local) (hy:X.env.scope.names.lookup y=some .local) (hz:X.env.scope.names.lookup z=some .local) (he:PE X e te)
  (hw:swappedStores [.Tuple [.Name x px,.Name y py,.Name z pz] kt pt] e X.env=pure (some [x,y,z]))
  (hs:swapsWithSole [.Tuple [.Name x px,.Name y py,.Name z pz] kt pt] e pos.line X.env=pure false) :
  PS X (.Assign [.Tuple [.Name x px,.Name y py,.Name z pz] kt pt] e pos) (r9 X.K i j k te):=by
 intro pins s σ H D I h
 refine Assign_Tuple_swapped (names:=[x,y,z]) (xI (he pins s σ H _ I h) fun r s1 ⟨xr,H1,I1,r1,p,v,w,u,ex,hp,q⟩=>?_) hs hw
 subst ex
 cases r1
 obtain⟨its,rv,tp,_⟩:=I1.tuple hp
 obtain⟨u1,u2,u3,ei,a1,a2,a3⟩:∃u1 u2 u3,its=[u1,u2,u3]/\RelV v u1/\RelV w u2/\RelV u u3:=by
  cases rv with
  |cons a1 rv=>
   cases rv with
   |cons a2 rv=>
    cases rv with
    |cons a3 rv=>
     cases rv
     exact⟨_,_,_,rfl,a1,a2,a3⟩
 subst ei
 refine unpackItems_tuple (items:=#[u1,u2,u3]) (I.ok.hd hc) tp fun h' kp=>?_
 have I2:=I1.kept (h':=h') (t':=s1.toks) fun b o eb=>kp b o (ES (EK eb)) eb
 refine Gf (Hf (bF I2 hN hk (.inl hz) a3 (fun s2 I3=>?_) (.inr hz)))
 refine Gf (Hf (bF I3 hN hj (.inl hy) a2 (fun s3 I4=>?_) (.inr hy)))
 exact Gf (Hf (bF I4 hN hi (.inl hx) a1 (fun s4 I5=>assignInOrder_nil ⟨_,H1,I5,q⟩) (.inr hx)))
end
end L2
namespace Zt
open PySem
open Sem (wp)
def Si(kd:Bool)(h:Heap)(a t:Addr)(i:Nat):Prop:=cond kd (h.IsListIter a t i) (h.IsTupleIter a t i)
def Sq(kd:Bool)(h:Heap)(a:Addr)(xs:Vw):Prop:=cond kd (h.IsList a xs) (h.IsTuple a xs)
theorem Si.at{kd:Bool}{h h':Heap}{a t:Addr}{i:Nat}(x:Si kd h a t i)(e:∀o,h.get? a=some o->h'.get? a=some o):Si kd h' a t i:=match kd,x with|true,x=>Heap.IsListIter.at x e|false,x=>Heap.IsTupleIter.at x e
theorem Sq.at{kd:Bool}{h h':Heap}{a:Addr}{xs:Vw}(x:Sq kd h a xs)(e:∀o,h.get? a=some o->h'.get? a=some o):Sq kd h' a xs:=match kd,x with|true,x=>Heap.IsList.at x e|false,x=>Heap.IsTuple.at x e
def Sq.lt{kd:Bool}{h:Heap}{a:Addr}{xs:Vw}(x:Sq kd h a xs):a < h.objs.size:=match kd,x with|true,⟨_,e,_⟩=>EK e|false,⟨_,e,_⟩=>EK e
def Si.extBut{kd:Bool}{h h':Heap}{a c t:Addr}{i:Nat}(x:Si kd h a t i)(e:Heap.ExtBut c h h')(n:a≠c):Si kd h' a t i:=x.at fun _ q=>e _ _ n q
def Sq.extBut{kd:Bool}{h h':Heap}{a c:Addr}{xs:Vw}(x:Sq kd h a xs)(e:Heap.ExtBut c h h')(n:a≠c):Sq kd h' a xs:=x.at fun _ q=>e _ _ n q
section
variable {prog:Program} {w:World} {A:Around} {E:Vq} {s:Shared}
def nx{j t:Addr}{i:Nat}{its:Vw}{x:Value}{Q:Vq}(hj:s.heap.IsTupleIter j t i)(ht:s.heap.IsTuple t its)(hx:its[i]?=some x)
  (k:∀g:Heap,g.IsTupleIter j t (i+1)->Heap.SameBut j s.heap g->Q x { s with heap:=g }):wpAny (model prog w) A (Builtin.SmallTypes.nextOf (.ref j)) Q E s:=by
 obtain⟨ob,eb,kb,db⟩:=id hj
 obtain⟨oc,ec,_,nc,dc⟩:=ht
 unfold Builtin.SmallTypes.nextOf
 refine EE (Fg (name:=Str.ofString "__next__") hj.typeIs Gg (F0 Gg hj.typeIs F.entry_tuple_iterator_next ?_ (F.args_tuple_iterator_next_1 _)))
 show wpAny _ _ (field (.ref j) 0 >>= _) _ _ s;refine EE (Fb eb db (x:=.ref t) rfl ?_)
 show wpAny _ _ (if (Value.ref t == Value.none)=true then _ else _) _ _ s;rw[if_neg (show ¬((Value.ref t == Value.none)=true)from EV)]
 show wpAny _ _ (field (.ref j) 1 >>= _) _ _ s;refine EE (Fb eb db (x:=.int i 0) rfl ?_)
 show wpAny _ _ (seqItems? (.ref t) >>= _) _ _ s;refine EE (Fx ec dc ?_)
 simp only[Int.toNat_natCast,hx];refine EE (wpAny_setField eb db (by simp) (EI ⟨x,rfl,EI (k _ ?_ (Heap.SameBut.update ..))⟩))
 exact⟨_,FH _ eb (Obj.isFreed_of_fields (Obj.data_mapFields db _)),(Obj.cls_mapFields ..).trans kb,by rw[Obj.data_mapFields db];simp[rawInt]⟩
def xi{j t:Addr}{i:Nat}{its:Vw}{Q:Vq}(hh:A.handled=none)(hj:s.heap.IsTupleIter j t i)(ht:s.heap.IsTuple t its)(hx:its[i]?=none)
  (k:∀(g:Heap) (e:Addr),Heap.ExtBut j s.heap g->(∃o,g.get? e=some o/\o.cls = .type "StopIteration")->E (.ref e) { s with heap:=g }):wpAny (model prog w) A (Builtin.SmallTypes.nextOf (.ref j)) Q E s:=by
 obtain⟨ob,eb,kb,db⟩:=id hj
 obtain⟨oc,ec,_,nc,dc⟩:=ht
 unfold Builtin.SmallTypes.nextOf
 refine EE (Fg (name:=Str.ofString "__next__") hj.typeIs Gg (F0 Gg hj.typeIs F.entry_tuple_iterator_next ?_ (F.args_tuple_iterator_next_1 _)))
 show wpAny _ _ (field (.ref j) 0 >>= _) _ _ s;refine EE (Fb eb db (x:=.ref t) rfl ?_)
 show wpAny _ _ (if (Value.ref t == Value.none)=true then _ else _) _ _ s;rw[if_neg (show ¬((Value.ref t == Value.none)=true)from EV)]
 show wpAny _ _ (field (.ref j) 1 >>= _) _ _ s;refine EE (Fb eb db (x:=.int i 0) rfl ?_)
 show wpAny _ _ (seqItems? (.ref t) >>= _) _ _ s;refine EE (Fx ec dc ?_)
 simp only[Int.toNat_natCast,hx];refine EE (GQ (EE (wpAny_setField eb db (by simp) ?_)))
 show wpAny _ _ (newExc (.type "StopIteration") [] >>= _) _ _ _;refine EE ?_
 simp only[newExc,newTuple];refine EE (Ft ?_ (by size_fits))
 refine EE (m:=firstArgMember _ _) (wpAny_of_eq (a:=Value.none) (by first|rfl|(simp only[firstArgMember];rfl)) ?_);refine Ft ?_ (by size_fits)
 simp only[raiseNew];refine EE (wpAny_handled ?_)
 first|(rw[hh])|(rw[show A.in1.handled=none from hh])
 exact EE (EI (wpAny_throw (k _ _ (((Heap.SameBut.update ..).extBut.push _).push _) ⟨_,EL _ rfl,rfl⟩)))
def tO{kd:Bool}{j t:Addr}{i:Nat}{its:Vw}{x:Value}{Q:Vq}(hj:Si kd s.heap j t i)(ht:Sq kd s.heap t its)(hx:its[i]?=some x)
  (k:∀g:Heap,Si kd g j t (i+1)->Heap.SameBut j s.heap g->Q x { s with heap:=g }):wpAny (model prog w) A (Builtin.SmallTypes.nextOf (.ref j)) Q E s:=by
 cases kd with
 |true=>exact wpAny_nextOf_list_item hj ht hx k
 |false=>exact nx hj ht hx k
def pD{kd:Bool}{j t:Addr}{i:Nat}{its:Vw}{Q:Vq}(hh:A.handled=none)(hj:Si kd s.heap j t i)(ht:Sq kd s.heap t its)(hx:its[i]?=none)
  (k:∀(g:Heap) (e:Addr),Heap.ExtBut j s.heap g->(∃o,g.get? e=some o/\o.cls = .type "StopIteration")->E (.ref e) { s with heap:=g }):wpAny (model prog w) A (Builtin.SmallTypes.nextOf (.ref j)) Q E s:=by
 cases kd with
 |true=>exact wpAny_nextOf_list_end hh hj ht hx k
 |false=>exact xi hh hj ht hx k
variable {ka kb:Bool} {z TI TO i1 i2 l1 l2:Addr} {k1 k2:Nat} {xs ys:Vw} {x y a b:Value}
def r_{Q:Fin->Shared->Prop}(hh:A.handled=none)(D:ZipApart z TI TO i1 i2 l1 l2)(gz:IsZip s.heap z TI TO .none)(gI:IsPair s.heap TI (.ref i1) (.ref i2))(gO:IsPair s.heap TO a b)
  (g1:Si ka s.heap i1 l1 k1) (g2:Si kb s.heap i2 l2 k2) (t1:Sq ka s.heap l1 xs) (t2:Sq kb s.heap l2 ys) (he:xs[k1]?=none\/ys[k2]?=none)
  (k:∀(g:Heap) (e:Addr),(∀c o,c≠z->c≠TO->c≠i1->c≠i2->s.heap.get? c=some o->g.get? c=some o)->(∃o,g.get? e=some o/\o.cls = .type "StopIteration")->E (.ref e) { s with heap:=g }) :
  wpAny (model prog w) A (Builtin.«zip.__next__» ⟨[.ref z],[]⟩) Q E s:=by
 show wpAny _ _ (field (.ref z) 2 >>= _) _ _ _;refine EE (Fb gz rfl (x:=.bool false) rfl ?_)
 show wpAny _ _ (field (.ref z) 3 >>= _) _ _ _;refine EE (Fb gz rfl (x:=.ref TI) rfl (EE (Fx gI rfl ?_)))
 show wpAny _ _ (Builtin.SmallTypes.ownedTupleIsFree (.ref z) >>= _) _ _ _;refine EE ?_;unfold Builtin.SmallTypes.ownedTupleIsFree
 refine EE (Fb gz rfl (x:=.none) rfl (EI ?_));simp only[G2]
 refine EE (GQ (EE (Fb gz rfl (x:=.ref TO) rfl (EE (F2 gz (by simp) fun h₁ z1 q1=>?_)))))
 replace z1:IsZip h₁ z TI TO .ellipsis:=z1
 refine EE ?_;simp only[List.zipIdx_cons,List.zipIdx_nil,GJ,List.forIn_nil]
 refine EE (EE (wpAny_onRaise ?_));show wpAny _ _ (Builtin.SmallTypes.nextOf (.ref i1) >>= _) _ _ _
 cases hx:xs[k1]? with
 |none=>
  refine EE (pD hh (g1.extBut q1.extBut D.i1z) (t1.extBut q1.extBut D.l1z) hx fun h₂ e q2 ⟨oe,ge,ce⟩=>?_)
  have z2:IsZip h₂ z TI TO .ellipsis:=q2 _ _ D.i1z.symm z1
  have ez:e≠z:=fun u=>by subst u;rw[z2]at ge;cases ge;simp at ce
  exact F2 z2 (by simp) fun h₃ _ q3=>k h₃ e (fun c o c1 _ c3 _ u=>q3.extBut _ _ c1 (q2 _ _ c3 (q1.extBut _ _ c1 u))) ⟨oe,q3.extBut _ _ ez ge,ce⟩
 |some x=>
  have hy:ys[k2]?=none:=he.elim (fun q=>by rw[hx]at q;cases q) id
  refine EE (tO (g1.extBut q1.extBut D.i1z) (t1.extBut q1.extBut D.l1z) hx fun h₂ n1 q2=>EI ?_)
  have o2:IsPair h₂ TO a b:=q2.extBut _ _ D.TOi1 (q1.extBut _ _ D.TOz gO)
  refine EE (Fx o2 rfl (EE (Hx o2 fun h₃ o3 q3=>?_)))
  refine EE (wpAny_letGo (EI ?_));refine EE (EE (wpAny_onRaise ?_));show wpAny _ _ (Builtin.SmallTypes.nextOf (.ref i2) >>= _) _ _ _
  refine EE (pD hh (((g2.extBut q1.extBut D.i2z).extBut q2.extBut D.i12.symm).extBut q3.extBut D.TOi2.symm) (((t2.extBut q1.extBut D.l2z).extBut q2.extBut D.l2i1).extBut q3.extBut D.l2TO) hy fun h₄ e q4 ⟨oe,ge,ce⟩=>?_)
  have z4:IsZip h₄ z TI TO .ellipsis:=q4 _ _ D.i2z.symm (q3.extBut _ _ D.TOz.symm (q2.extBut _ _ D.i1z.symm z1))
  have ez:e≠z:=fun u=>by subst u;rw[z4]at ge;cases ge;simp at ce
  exact F2 z4 (by simp) fun h₅ _ q5=>k h₅ e (fun c o c1 c2 c3 c4 u=>q5.extBut _ _ c1 (q4 _ _ c4 (q3.extBut _ _ c2 (q2.extBut _ _ c3 (q1.extBut _ _ c1 u))))) ⟨oe,q5.extBut _ _ ez ge,ce⟩
def m6{Q:Option Value->Shared->Prop}(hh:A.handled=none)(D:ZipApart z TI TO i1 i2 l1 l2)(gz:IsZip s.heap z TI TO .none)(gI:IsPair s.heap TI (.ref i1) (.ref i2))(gO:IsPair s.heap TO a b)
  (g1:Si ka s.heap i1 l1 k1) (g2:Si kb s.heap i2 l2 k2) (t1:Sq ka s.heap l1 xs) (t2:Sq kb s.heap l2 ys) (he:xs[k1]?=none\/ys[k2]?=none)
  (k:∀g:Heap,(∀c o,c≠z->c≠TO->c≠i1->c≠i2->s.heap.get? c=some o->g.get? c=some o)->Q none { s with heap:=g }):wpAny (model prog w) A (pyNext (.ref z)) Q E s:=by
 have ty:s.TypeIs (.ref z) "zip":=⟨_,gz,rfl⟩
 unfold pyNext
 refine EE (wpAny_attempt (Fg (name:=Str.ofString "__next__") ty F8 (F0 F8 ty Hu (r_ hh D gz gI gO g1 g2 t1 t2 he fun g e kk ⟨o,ho,hc⟩=>?_) (Ho _))))
 exact EE (wpAny_isInstance (T:="StopIteration") (b:=true) ⟨o,ho,hc⟩ isSubtype_stop (EI (k _ kk)))
end
noncomputable abbrev it(kd:Bool)(l:Addr):Obj:={ cls:=.type (cond kd "list_iterator" "tuple_iterator"),data:=.fields #[.ref l,.int 0 0] }
def Si.mk{kd:Bool}{h:Heap}{a l:Addr}(e:h.get? a=some (it kd l)):Si kd h a l 0:=match kd,e with|true,e=>⟨_,e,rfl,rfl⟩|false,e=>⟨_,e,rfl,rfl⟩
noncomputable abbrev H1(ka:Bool)(h:Heap)(l1:Addr):Heap:=h.push (it ka l1)
noncomputable abbrev H2(ka kb:Bool)(h:Heap)(l1 l2:Addr):Heap:=(H1 ka h l1).push (it kb l2)
noncomputable abbrev H3(ka kb:Bool)(h:Heap)(l1 l2:Addr):Heap:=(H2 ka kb h l1 l2).push { cls:=.type "tuple",data:=.seq #[.ref h.objs.size,.ref (H1 ka h l1).objs.size] }
noncomputable abbrev H4(ka kb:Bool)(h:Heap)(l1 l2:Addr):Heap:=(H3 ka kb h l1 l2).push { cls:=.type "tuple",data:=.seq #[.none,.none] }
noncomputable abbrev H5(ka kb:Bool)(h:Heap)(l1 l2:Addr):Heap:=(H4 ka kb h l1 l2).push { cls:=.type "zip",data:=.fields #[.none,.bool false,.bool false,.ref (H2 ka kb h l1 l2).objs.size,.ref (H3 ka kb h l1 l2).objs.size] }
def lZ(ka kb:Bool)(l1 l2:Addr)(xs ys:Vw) :
  Meets (Builtin.«zip.__new__» ⟨[.type "zip",.ref l1,.ref l2],[]⟩) (fun _ R s=>Sq ka s.heap l1 xs/\Sq kb s.heap l2 ys/\R (.ok (.ret (.ref (H4 ka kb s.heap l1 l2).objs.size))) { s with heap:=H5 ka kb s.heap l1 l2 }):=
 .of_wp fun prog w A R s h=>by
  obtain⟨hp,g,d,tk,os⟩:=s;obtain⟨e1,e2,h⟩:=h
  have hsub:=sub_zip
  match ka,kb,e1,e2,h with
  |false,false,e1,e2,h=>
   have L1:Heap.IsTuple (Shared.heap ⟨hp,g,d,tk,os⟩) l1 xs:=e1
   have L2:Heap.IsTuple (Shared.heap ⟨hp.push { cls:=.type "tuple_iterator",data:=.fields #[.ref l1,.int 0 0] },g,d,tk,os⟩) l2 ys:=Heap.IsTuple.push e2 _
   wp_walk using Gh L1,Gh L2
   exact⟨_,rfl,h⟩
  |false,true,e1,e2,h=>
   have L1:Heap.IsTuple (Shared.heap ⟨hp,g,d,tk,os⟩) l1 xs:=e1
   have L2:Heap.IsList (Shared.heap ⟨hp.push { cls:=.type "tuple_iterator",data:=.fields #[.ref l1,.int 0 0] },g,d,tk,os⟩) l2 ys:=Heap.IsList.push e2 _
   wp_walk using Gh L1,GO L2
   exact⟨_,rfl,h⟩
  |true,false,e1,e2,h=>
   have L1:Heap.IsList (Shared.heap ⟨hp,g,d,tk,os⟩) l1 xs:=e1
   have L2:Heap.IsTuple (Shared.heap ⟨hp.push { cls:=.type "list_iterator",data:=.fields #[.ref l1,.int 0 0] },g,d,tk,os⟩) l2 ys:=Heap.IsTuple.push e2 _
   wp_walk using GO L1,Gh L2
   exact⟨_,rfl,h⟩
  |true,true,e1,e2,h=>
   have L1:Heap.IsList (Shared.heap ⟨hp,g,d,tk,os⟩) l1 xs:=e1
   have L2:Heap.IsList (Shared.heap ⟨hp.push { cls:=.type "list_iterator",data:=.fields #[.ref l1,.int 0 0] },g,d,tk,os⟩) l2 ys:=Heap.IsList.push e2 _
   wp_walk using GO L1,GO L2
   exact⟨_,rfl,h⟩
end Zt
namespace L2
open PySem PySem.Spec PyProof.Rows
section
variable {X:Cx} {pins:Va} {σ:St} {H:Hp} {s:Shared} {h':Heap}
def Inv.Ag{D:Addr}{us:Vv}{ys:List V}(I:Inv X pins σ H s)(f:d0 X pins H D)(e:xX s.heap D us.toArray)(r:Vals ys us)(hz:ys.length<=sizeLine) :
  Inv X pins σ (upd H D (.tup ys)) s:=by
 obtain⟨f0,f1,f2,f3,f4,f5⟩:=f
 have nD:∀b u,H b=some u->b≠D:=fun b u q=>au q f0
 have hok:yF X.prog X.w (upd H D (.tup ys)) s.heap:=fun b u q=>by
  by_cases hb:b=D
  ·subst hb
   rw[am]at q
   cases q
   exact⟨hz,us,r,e⟩
  ·rw[ak hb]at q
   exact(I.hok b u q).stay (fun _ _ _ z=>z) (fun c z=>by rw[ak (nD c _ z)];exact z) fun c xs z=>by rw[ak (nD c _ z)];exact z
 exact I.step (H':=upd H D (.tup ys)) (h':=s.heap) (g':=s.gens) (t':=s.toks) (d':=s.drawn) (ch:=[D])
  (fun b hb=>by
   have z:b=D:=by simpa using hb
   subst z
   exact⟨f3,f1,f4,f5⟩)
  (fun _ _ _ _ _ q _=>q) (fun _ o _ _ _ q _=>⟨o.slots,q⟩)
  (fun b o hb _ n=>by rw[ak (fun z=>hb (by simp[z]))];exact n)
  (fun _ o _ q=>⟨o,q⟩) (fun b xs q=>by rw[ak (nD b _ q)];exact q) (fun b o u q=>by rw[ak (nD b _ q)];exact q)
  (fun b ps q=>⟨#[],by rw[ak (nD b _ q),q];simp⟩) (fun _ q=>q) hok I.bare
end
def vC(kd:Bool)(K:Vo)(H:Hp)(a:Addr)(xs:List V):Prop:=cond kd (SqL K H a xs) (SqT K H a xs)
def Inv.B3{X:Cx}{pins:Va}{σ:St}{H:Hp}{s:Shared}{kd:Bool}{a:Addr}{xs:List V}(I:Inv X pins σ H s)(h:vC kd X.K H a xs):∃its:List Value,Vals xs its/\Zt.Sq kd s.heap a its.toArray:=by
 cases kd with
 |true=>obtain⟨i,r,p,z⟩:=I.list h;exact⟨i,r,p.isList⟩
 |false=>obtain⟨i,r,p,z⟩:=I.tuple h;exact⟨i,r,p⟩
section
variable {X:Cx}
def KD(P:Program)(w:World)(K:Vo)(a:Addr)(kvs:List (aK×V)):Prop:=(a == sysModules)=false/\∃o vs,K.lookup a=some o/\KV kvs vs/\Obj.IsDictOf (ax P w) o vs
def uK(a:Addr)(kvs:List (aK×V))(ty tx:TE):TE:=fun σ H Q=>ty σ H fun y H2=>tx σ H2 fun z H3=>∃k,y=kV k/\Q ((d3 kvs k).getD z) H3
def pE{x:Str}{e f:Expr}{px apos cpos:Pos}{ty tx:TE}{a:Addr}{kvs:List (aK×V)}(hu:X.A.units+1 < cLine)(hg:Gl X x)(hm:X.mg x=some (.ref a))(hD:KD X.prog X.w X.K a kvs)(he:PE X e ty)(hf:PE X f tx)(m:M2 X (.Name x px) "get" apos e f cpos)
  (hd:(x == ("__debug__":Str))=false:=by decide):PE X (.Call (.Attribute (.Name x px) "get" apos) [e,f] [] cpos) (uK a kvs ty tx):=by
 intro pins s σ H Q I h
 obtain⟨hsys,o,vs,hk,rel,ii⟩:=hD
 have dd:∀{s1:Shared} {H1:Hp},Inv X pins σ H1 s1->s1.heap.DictOf (ax X.prog X.w) a vs:=fun I1=>Heap.dictOf_iff.mpr ⟨o,I1.AD a o hk,ii⟩
 refine wpAny_Call_method m.base m.few m.line PySem.F.plainAttrs_dict Gi PySem.F.type_dict_get (k0 I hg hm ?_ hd)
 refine⟨(dd I).typeIs,fun b q=>?_,?_⟩
 ·cases q
  obtain⟨ob,_,_,h1,h2,_⟩:=dd I
  exact⟨ob,h1,h2.2.1⟩
 rw[m.trees]
 refine GF rfl (GS (FL (xI (he pins s σ H _ I h) fun iv s2 ⟨y,H2,I2,ry,q2⟩=>
  FL (xI (hf pins s2 σ H2 _ I2 q2) fun fv s3 ⟨z,H3,I3,rz,k,ey,q3⟩=>Gr ?_))))
 subst ey
 refine call_meetsIn Gi (dd I3).typeIs Hl (G8 _ _ _) (meets_dict_get_default (ax X.prog X.w) a (eS ry) hsys fv) ⟨_,(dd I3).mapOf,⟨_,H3,I3.tok _,?_,q3⟩⟩
 exact(rel.val k).getD rz
end
section
variable {env:Env} {rest:List Expr} {pos:Pos}
def pF{x:Str}:starEach (.Name x pos::rest) env=(false,eval (.Name x pos) env)::starEach rest env:=rfl
def l0{a:Expr}{gs:List Comprehension}{sc:Scope}:starEach (.ListComp a gs sc pos::rest) env=(false,eval (.ListComp a gs sc pos) env)::starEach rest env:=rfl
end
end L2
namespace Et
open PySem
open Sem (wp)
open AutoSeq1 (wpAny_loadPart')
end Et
namespace L2
open PySem PySem.Spec PyProof.Rows
def m7(w:World)(x:Str):PyData.keyHash w.params x=hashStr w x:=rfl
noncomputable abbrev vD(w:World)(x:Str×Int×Tok×Tok):DictEntry:=⟨PyData.keyHash w.params x.1,.str x.1 x.2.2.1,.int x.2.1 x.2.2.2⟩
def sa(P:Program)(w:World)(xs:List (Str×Int×Tok×Tok))(ep:Nat)(nd:(xs.map (·.1)).Nodup) :
  ∃vs,KV (xs.map fun x=>((Sum.inr x.1:aK),V.int x.2.1)) vs/\Obj.IsDictOf (ax P w) { cls:=.type "dict",data:=.dict (xs.map (vD w)).toArray ep } vs:=by
 refine⟨xs.map fun x=>((Sum.inr x.1:aK),Value.int x.2.1 x.2.2.2),?_,(xs.map (vD w)).toArray,ep,⟨rfl,rfl,rfl⟩,rfl,?_,?_,?_⟩
 ·induction xs with
  |nil=>exact .nil
  |cons x xs ih=>exact .cons ⟨rfl,_,rfl⟩ (ih (by simpa using(EY.mp (by simpa using nd)).2))
 ·intro e he
  have he':e∈xs.map (vD w):=by simpa using he
  obtain⟨x,_,rfl⟩:=EZ.mp he'
  exact⟨Sum.inr x.1,fk x.1 x.2.2.1,m7 w x.1⟩
 ·have key:∀ys:List (Str×Int×Tok×Tok),Pairs (ax P w) (ys.map (vD w)) (ys.map fun x=>((Sum.inr x.1:aK),Value.int x.2.1 x.2.2.2)):=by
   intro ys
   induction ys with
   |nil=>exact .nil
   |cons y ys ih=>exact .cons (fk y.1 y.2.2.1) rfl ih
  exact key xs
 ·rw[FD]
  have e:((fun x:aK×Value=>x.1) ∘ fun x:Str×Int×Tok×Tok=>((Sum.inr x.1:aK),Value.int x.2.1 x.2.2.2))=fun x=>Sum.inr x.1:=rfl
  have key:∀ys:List (Str×Int×Tok×Tok),(ys.map (·.1)).Nodup->(ys.map fun x=>(Sum.inr x.1:aK)).Nodup:=by
   intro ys
   induction ys with
   |nil=>intro _;exact List.nodup_nil
   |cons y ys ih=>
    intro h
    rw[EO,EY]at h ⊢
    refine⟨fun hm=>h.1 ?_,ih h.2⟩
    obtain⟨z,hz,e⟩:=EZ.mp hm
    have e':z.1=y.1:=Sum.inr.inj e
    exact EZ.mpr ⟨z,hz,e'⟩
  exact key xs nd
end L2
namespace Wd
open PySem L2 PyProof.Rows
noncomputable def abc:Str:="abcdefghijklmnopqrstuvwxyz"
noncomputable def yb:List Str:=["jars","deed","rest","pay","put","then","either","take","often","use"]
def sd:∀i,i < 26->abc.cps.toList[i]?=some (97+i):=by decide +kernel
def gh:abc.length<=sizeLine/\abc.cps.toList.length=26:=by decide +kernel
def m8:∀i,i < 26->Builtin.Str.occurrences abc (fy (97+i)) 0 abc.length 1=[i]:=by decide +kernel
theorem lh{α:Type} [BEq α] [LawfulBEq α]:∀{xs ys:List α},xs.Nodup->(∀x∈xs,x∈ys)->xs.length<=ys.length
 |[],ys,_,_=>Fp _
 |x::xs,ys,nd,h=>by
  have hx:=h x (FJ ..)
  have q:=lh (xs:=xs) (ys:=ys.erase x) (EY.mp nd).2 fun y hy=>by
   have ne:y≠x:=fun e=>(EY.mp nd).1 (e▸hy)
   exact(List.mem_erase_of_ne ne).mpr (h y (Fi _ hy))
  rw[List.length_erase_of_mem hx]at q
  have:=List.length_pos_of_mem hx
  rw[EU]
  omega
noncomputable def cand(r:List Nat)(i:Nat):Str:=⟨((97+i % 26)::r).toArray⟩
def m9{r:List Nat}{i j:Nat}(h:cand r i=cand r j):i % 26=j % 26:=by
 have e:(((97+i % 26)::r).toArray).toList=(((97+j % 26)::r).toArray).toList:=Fl (fun z:Str=>z.cps.toList) h
 simp only[List.cons.injEq]at e
 omega
def ky(r:List Nat)(c:Nat):((List.range 26).map fun i=>cand r (c+i)).Nodup:=by
 refine List.pairwise_map.mpr (List.Pairwise.imp_of_mem (R:=(·≠·)) ?_ List.nodup_range)
 intro a b ha hb ne e
 have h1:=HH.mp ha
 have h2:=HH.mp hb
 have h3:=m9 e
 omega
def l4(r:List Nat)(c:Nat)(bad:Vs)(h:bad.length < 26):∃j,j < 26/\cand r (c+j) ∉ bad:=by
 refine Classical.byContradiction fun no=>?_
 have q:=lh (ky r c) (ys:=bad) fun x hx=>by
  obtain⟨j,hj,rfl⟩:=EZ.mp hx
  exact Classical.byContradiction fun z=>no ⟨j,HH.mp hj,z⟩
 rw[EG,HM]at q
 omega
structure yy (z:Str):Prop where
 ne:z.cps.toList≠[]
 le:z.cps.toList.length<=6
 sm:∀c∈z.cps.toList,97<=c/\c<=122
theorem yy.cand{z:Str}(h:yy z):∃i r,z=Wd.cand r i/\i < 26/\r.length<=5/\∀c∈r,97<=c/\c<=122:=by
 obtain⟨⟨⟨l⟩⟩,ne,le,sm⟩:∃z',_/\_/\_:=⟨z,h.ne,h.le,h.sm⟩
 obtain⟨⟨l⟩⟩:=z
 cases l with
 |nil=>exact absurd rfl h.ne
 |cons c r=>
  have q:=h.sm c (FJ ..)
  refine⟨c - 97,r,?_,by omega,by have:=h.le;simp at this;omega,fun d hd=>h.sm d (Fi _ hd)⟩
  unfold Wd.cand
  rw[show 97+(c - 97) % 26=c by omega]
def m_{r:List Nat}(h:r.length<=5)(hs:∀c∈r,97<=c/\c<=122)(i:Nat):yy (cand r i):=by
 refine⟨by simp[cand],by simp[cand];omega,fun c hc=>?_⟩
 have hc':c∈(97+i % 26)::r:=hc
 rcases EX.mp hc' with e|e
 ·omega
 ·exact hs c e
def yy.len{z:Str}(h:yy z):z.length<=6:=by have q:=h.le;rw[GW]at q;exact q
def yy.line{z:Str}(h:yy z):z.length<=sizeLine:=EW h.len (by decide)
def iA(r:List Nat)(i:Nat):yt (cand r i).cps.toList 0=some (97+i % 26):=dS (j:=0) rfl
def dU(r:List Nat)(i:Nat):Txt.slice (cand r i) (some 1) none=⟨r.toArray⟩:=by
 have e:Txt.slice (cand r i) (some 1) none=StrLaws.sliceText (cand r i) (some 1) none:=rfl
 rw[e,StrLaws.sliceText_from ⟨by decide,by simp[cand];omega⟩]
 simp[cand]
def iB(r:List Nat)(i:Nat):(fy (97+(i+1) % 26):Str)++(⟨r.toArray⟩:Str)=cand r (i+1):=by
 refine Str.ext' ?_
 show #[97+(i+1) % 26]++r.toArray=_
 simp[cand]
def i7(i:Nat):yt abc.cps.toList ((i % 26:Nat):Int)=some (97+i % 26):=dS (sd _ (Nat.mod_lt _ (by decide)))
def gB(cs:List Nat):Txt.join "" (cs.map fy)=⟨cs.toArray⟩:=by
 have q:=join_nil_signs ⟨cs.toArray⟩
 have e:Txt.join "" (cs.map fy)=Str.join ⟨#[]⟩ (cs.map fy):=StrLaws.glued_eq_join _ _
 rw[e]
 exact q
def pG(cs:List Nat):((cs.map fy).map (·.length)).sum=cs.length:=by
 induction cs with
 |nil=>rfl
 |cons c r ih=>rw[EO,EO,List.sum_cons,ih,EU];show 1+r.length=_;omega
def pH{cs:List Nat}{a i:Nat}(h:cs.length<=5)(hs:∀c∈cs,97<=c/\c<=122)(ha:a<=cs.length)(hi:i < 26) :
  yy (Txt.slice ⟨cs.toArray⟩ none (some (a:Int))++(fy (97+i):Str)++Txt.slice ⟨cs.toArray⟩ (some (a:Int)) none)/\(Txt.slice ⟨cs.toArray⟩ none (some (a:Int))).length<=5/\(Txt.slice ⟨cs.toArray⟩ (some (a:Int)) none).length<=5:=by
 have e1:Txt.slice ⟨cs.toArray⟩ none (some (a:Int))=⟨(cs.take a).toArray⟩:=by
  have e:Txt.slice ⟨cs.toArray⟩ none (some (a:Int))=StrLaws.sliceText ⟨cs.toArray⟩ none (some (a:Int)):=rfl
  rw[e,StrLaws.sliceText_to ⟨by omega,by simp;omega⟩]
  simp
 have e2:Txt.slice ⟨cs.toArray⟩ (some (a:Int)) none=⟨(cs.drop a).toArray⟩:=by
  have e:Txt.slice ⟨cs.toArray⟩ (some (a:Int)) none=StrLaws.sliceText ⟨cs.toArray⟩ (some (a:Int)) none:=rfl
  rw[e,StrLaws.sliceText_from ⟨by omega,by simp;omega⟩]
  refine Str.ext' ?_
  show((cs.drop (a:Int).toNat).take ((cs.length:Int) - a).toNat).toArray=(cs.drop a).toArray
  rw[GN,List.take_of_length_le (by rw[FQ];omega)]
 rw[e1,e2]
 have e3:((⟨(cs.take a).toArray⟩:Str)++(fy (97+i):Str)++(⟨(cs.drop a).toArray⟩:Str)).cps.toList=cs.take a++[97+i]++cs.drop a:=by
  show((cs.take a).toArray++#[97+i]++(cs.drop a).toArray).toList=_
  simp
 refine⟨⟨by rw[e3];simp,by rw[e3];simp;omega,fun c hc=>?_⟩,?_,?_⟩
 ·rw[e3]at hc
  rcases Ff.mp hc with hc|hc
  ·rcases Ff.mp hc with hc|hc
   ·exact hs c (Gw hc)
   ·rw[FO.mp hc];omega
  ·exact hs c (List.mem_of_mem_drop hc)
 ·show(cs.take a).toArray.size<=5
  rw[EH,Fz];omega
 ·show(cs.drop a).toArray.size<=5
  rw[EH,FQ];omega
end Wd
namespace M3
noncomputable def i8(t b:Int):Int:=(if b < 0 then -t else t) / (Int.gcd t b:Int)
noncomputable def jH(t b:Int):Int:=(if b < 0 then -b else b) / (Int.gcd t b:Int)
def eU{t b:Int}(h:b≠0):0 < Int.gcd t b:=Nat.gcd_pos_of_pos_right _ (by omega)
def se{t b:Int}(h:b≠0):(Int.gcd t b:Int)<=b.natAbs:=by
 have q:Nat.gcd t.natAbs b.natAbs<=b.natAbs:=Nat.gcd_le_right _ (by omega)
 have e:Int.gcd t b=Nat.gcd t.natAbs b.natAbs:=rfl
 omega
def ng(t b:Int):Int.gcd (-t) (-b)=Int.gcd t b:=by rw[Int.gcd_neg,Int.neg_gcd]
def uL(t b:Int):∃x y:Int,t=(Int.gcd t b:Int) * x/\b=(Int.gcd t b:Int) * y:=by
 obtain⟨x,hx⟩:=Int.gcd_dvd_left t b
 obtain⟨y,hy⟩:=Int.gcd_dvd_right t b
 exact⟨x,y,hx,hy⟩
def sf{t b x y g:Int}(hg:g=(Int.gcd t b:Int))(h:b≠0)(ht:t=g * x)(hb:b=g * y):i8 t b=(if y < 0 then -x else x)/\jH t b=(if y < 0 then -y else y):=by
 have gp:0 < g:=by rw[hg];exact HB.mpr (eU h)
 have hy:b < 0↔y < 0:=by
  rw[hb]
  constructor
  ·intro q
   by_cases z:y < 0
   ·exact z
   ·have:=Int.mul_nonneg (HF gp) (Int.not_lt.mp z)
    omega
  ·intro q
   exact Int.mul_neg_of_pos_of_neg gp q
 unfold i8 jH
 rw[<-hg]
 by_cases z:y < 0
 ·rw[if_pos (hy.mpr z),if_pos (hy.mpr z),if_pos z,if_pos z]
  constructor
  ·rw[ht,<-Int.mul_neg,Gz _ (by omega)]
  ·rw[hb,<-Int.mul_neg,Gz _ (by omega)]
 ·rw[if_neg (fun q=>z (hy.mp q)),if_neg (fun q=>z (hy.mp q)),if_neg z,if_neg z]
  constructor
  ·rw[ht,Gz _ (by omega)]
  ·rw[hb,Gz _ (by omega)]
def pI{t b x y:Int}(h:b≠0)(ht:t=(Int.gcd t b:Int) * x)(hb:b=(Int.gcd t b:Int) * y):Int.gcd x y=1:=by
 have gp:=eU (t:=t) h
 have q:Int.gcd ((Int.gcd t b:Int) * x) ((Int.gcd t b:Int) * y)=(Int.gcd t b:Int).natAbs * Int.gcd x y:=Int.gcd_mul_left _ _ _
 rw[<-ht,<-hb,Int.natAbs_natCast]at q
 have q2:Int.gcd t b * 1=Int.gcd t b * Int.gcd x y:=by omega
 exact(Nat.eq_of_mul_eq_mul_left gp q2).symm
structure wV (a b:Int):Prop where
 pos:0 < b
 one:Int.gcd a b=1
def li{t b:Int}(h:b≠0):wV (i8 t b) (jH t b):=by
 obtain⟨x,y,ht,hb⟩:=uL t b
 have c:=pI h ht hb
 obtain⟨e1,e2⟩:=sf rfl h ht hb
 have y0:y≠0:=fun z=>h (by rw[hb,z,Int.mul_zero])
 rw[e1,e2]
 by_cases z:y < 0
 ·rw[if_pos z,if_pos z]
  exact⟨by omega,by rw[ng];exact c⟩
 ·rw[if_neg z,if_neg z]
  exact⟨by omega,c⟩
def nh{t b:Int}(h:b≠0):t.fdiv (if b < 0 then -(Int.gcd t b:Int) else (Int.gcd t b:Int))=i8 t b/\b.fdiv (if b < 0 then -(Int.gcd t b:Int) else (Int.gcd t b:Int))=jH t b:=by
 have gp:(0:Int) < (Int.gcd t b:Int):=HB.mpr (eU h)
 have d1:=Int.gcd_dvd_left t b
 have d2:=Int.gcd_dvd_right t b
 unfold i8 jH
 by_cases z:b < 0
 ·rw[if_pos z,if_pos z,if_pos z,Int.fdiv_neg (by omega),if_pos d1,Int.fdiv_neg (by omega),if_pos d2,GC d1,GC d2,Int.neg_ediv_of_dvd d1,Int.neg_ediv_of_dvd d2]
  exact⟨rfl,rfl⟩
 ·rw[if_neg z,if_neg z,if_neg z,GC d1,GC d2]
  exact⟨rfl,rfl⟩
def ni(x y:Int):Int.gcd y (x.fmod y)=Int.gcd x y:=by
 have q:=Int.mul_fdiv_add_fmod x y
 have e:Int.gcd y (x.fmod y+x.fdiv y * y)=Int.gcd y (x.fmod y):=Int.gcd_add_mul_right_right _ _ _
 rw[<-e,Int.mul_comm (x.fdiv y) y,Int.add_comm,q,Int.gcd_comm]
def nj{t b T B:Int}(h:b≠0)(h1:-T<=t)(h2:t<=T)(h3:-B<=b)(h4:b<=B)(hT:0<=T)(hB:0<=B):-T<=i8 t b/\i8 t b<=T/\0 < jH t b/\jH t b<=B:=by
 have gp:(0:Int) < (Int.gcd t b:Int):=HB.mpr (eU h)
 have L:=(li (t:=t) h).pos
 have key:∀z M:Int,0<=M->-M<=z->z<=M->-M<=z / (Int.gcd t b:Int)/\z / (Int.gcd t b:Int)<=M:=fun z M hM z1 z2=>by
  generalize (Int.gcd t b:Int)=g at gp
  have m2:M * 1<=M * g:=Int.mul_le_mul_of_nonneg_left (by omega) hM
  have m3:-M * g = -(M * g):=Int.neg_mul M g
  exact⟨Int.le_ediv_of_mul_le gp (by omega),Int.ediv_le_of_le_mul gp (by omega)⟩
 have k1:=key (if b < 0 then -t else t) T hT (by split<;>omega) (by split<;>omega)
 have k2:=key (if b < 0 then -b else b) B hB (by split<;>omega) (by split<;>omega)
 exact⟨k1.1,k1.2,L,k2.2⟩
end M3
namespace Xc
open PySem PySem.W PySem.Calls PyProof.Rows Builtin Builtin.ObjectAttr
structure wm (h:Heap) (e:Addr) (oe:Obj) (vs:Vw):Prop where
 at_:h.get? e=some oe
 dat:oe.data = .fields vs
 tb:vs[1]?=some .none\/∃T oT ts,vs[1]?=some (.ref T)/\T≠e/\h.get? T=some oT/\oT.data = .fields ts/\ts[3]?=some .none
end Xc
namespace L2
open PySem PySem.Spec PyProof.Rows Xc
def xj(X:Cx)(pins:Va)(H:Hp)(h:Heap)(a C dx:Addr):Prop:=
 ∃oe vs,wm h a oe vs/\oe.cls = .ref C/\oe.dict=some dx/\d0 X pins H a/\∀T,vs[1]?=some (.ref T)->d0 X pins H T
def XD(dx:Addr)(fs:List (Str×V))(h:Heap):Prop:=∃mA,h.Ns1 dx mA/\(∀f,RelO (fs.lookup f) (mA f))/\PySem.Within mA (fs.map (·.1))
end L2
namespace L2
open PySem PySem.Spec PyProof.Rows
structure CN where
 name:Str
 qual:Str
 params:Arguments
 body:List Stmt
 scope:Scope
 cap:Str
def zZ(H:Hp)(c:Addr)(q:Str):Prop:=∃oc vs t,H c=some (.frz oc (.own 0))/\oc.data = .fields vs/\vs[1]?=some (.str q t)
def AH(H:Hp)(f:Addr)(nd:CN)(v:V):Prop:=
 ∃doc pm c' ctv cc co u,H f=some (.frz (PySem.W.fnMade nd.name nd.qual nd.params nd.body nd.scope [(nd.cap,cc)] doc pm c' ctv) (.own 0))/\zZ H c' nd.qual/\H cc=some (.frz co (.own 0))/\co.data = .cell (some u)/\RelV v u
def TabAt(H:Hp)(P:Addr)(pos:Pos)(q:Str):Prop:=∃ps,H P=some (.zp ps)/\TriplesOk ps.toList/\∀cv,codeAmong pos ps.toList=some cv->∃c',cv = .ref c'/\zZ H c' q
section
variable {H H':Hp} {f c P:Addr} {nd:CN} {v:V} {q:Str} {pos:Pos}
def zZ.mono(g:∀a o u,H a=some (.frz o u)->H' a=some (.frz o u))(h:zZ H c q):zZ H' c q:=let ⟨oc,vs,t,h1,h2,h3⟩:=h;⟨oc,vs,t,g _ _ _ h1,h2,h3⟩
theorem AH.mono(g:∀a o u,H a=some (.frz o u)->H' a=some (.frz o u))(h:AH H f nd v):AH H' f nd v:=
 let ⟨doc,pm,c',ctv,cc,co,u,h1,h2,h3,h4⟩:=h;⟨doc,pm,c',ctv,cc,co,u,g _ _ _ h1,h2.mono g,g _ _ _ h3,h4⟩
theorem TabAt.mono(g:∀a o u,H a=some (.frz o u)->H' a=some (.frz o u))(e:H' P=H P)(h:TabAt H P pos q):TabAt H' P pos q:=
 let ⟨ps,h1,h2,h3⟩:=h;⟨ps,e.trans h1,h2,fun cv k=>let ⟨c',e',z⟩:=h3 cv k;⟨c',e',z.mono g⟩⟩
def TabAt.new(h:H P=some (.zp #[])):TabAt H P pos q:=⟨#[],h,trivial,fun cv k=>by cases k⟩
end
structure gC (N ps:Vs) (cap:Str) (sc:Scope):Prop where
 kind:sc.kind = .function
 co:sc.isCoroutine=false
 gen:sc.isGenerator=false
 nd:N.Nodup
 pre:N.take (ps.length+1)=ps++[cap]
 par:∀x∈ps,sc.names.lookup x=some .local
 DP:sc.names.lookup cap=some .free
 Ah:∀y∈sc.names,y.2 ≠ .cell
 one:∀y∈sc.names,y.2 = .free->y.1=cap
noncomputable def l5(CX:kf)(P:Program)(w:World)(K:Vo)(mg:Vr)(base:Heap)(N:Vs)(nd:CN)(f:Addr)(cd:Value)(cc:Addr)(A:Around)(outer:List Env)(s:Shared)(H:Hp)(E:XK):Cx where
 prog:=P
 w:=w
 K:=K
 mg:=mg
 base:=base
 A:=A.deeper (PySem.W.envX nd.qual nd.scope s.heap.objs.size f cd [(nd.cap,cc)])
 N:=N
 s₀:=s
 H₀:=H
 env:=PySem.W.envX nd.qual nd.scope s.heap.objs.size f cd [(nd.cap,cc)]
 outer:=outer
 stack:=PySem.W.envX nd.qual nd.scope s.heap.objs.size f cd [(nd.cap,cc)]::outer
 ex:=[]
 calm:=true
 fn:=fun _=>false
 pn:=[]
 xe:=fun e s'=>wpAny (model P w) (A.deeper (PySem.W.envX nd.qual nd.scope s.heap.objs.size f cd [(nd.cap,cc)])) (leaving (PySem.W.envX nd.qual nd.scope s.heap.objs.size f cd [(nd.cap,cc)]) e) (fun _ s''=>CX outer H s E e s'') (fun e' s''=>CX outer H s E e' s'') s'
def vE{a x:Str}{c d:Addr}(h:([(a,c)]:List (Str×Addr)).lookup x=some d):x=a/\d=c:=by
 rw[HR]at h
 cases e:x == a with
 |true=>rw[e]at h;cases h;exact⟨eq_of_beq e,rfl⟩
 |false=>rw[e]at h;cases h
def jI{a:Str}{c:Addr}:([(a,c)]:List (Str×Addr)).lookup a=some c:=by simp[List.lookup_cons]
theorem qE:∀{l:List (Str×Value)} {y:Str} {u:Value},(l.map (·.1)).Nodup->(y,u)∈l->l.lookup y=some u
 |[],_,_,_,h=>by cases h
 |(x,v)::r,y,u,nd,h=>by
  obtain⟨h1,h2⟩:=EY.mp (show(x::r.map (·.1)).Nodup from nd)
  rw[HR]
  rcases EX.mp h with e|h
  ·cases e;simp
  ·have ne:y≠x:=fun e=>h1 (by rw[<-e];exact GA (f:=(·.1)) h)
   rw[HC.mpr ne]
   exact qE h2 h
def sg{ps:Vs}{us:Vv}{i:Nat}{y:Str}{u:Value}(nd:ps.Nodup)(h1:ps[i]?=some y)(h2:us[i]?=some u):(ps.zip us).reverse.lookup y=some u:=by
 refine qE ?_ ?_
 ·rw[HS]
  refine List.pairwise_reverse.mpr (List.Pairwise.imp F3 ?_)
  have:(ps.zip us).map (·.1)=ps.take us.length:=by
   clear nd h1 h2
   induction ps generalizing us with
   |nil=>simp
   |cons p r ih=>cases us with
    |nil=>simp
    |cons v vs=>simp[ih]
  rw[this]
  exact nd.sublist (GL _ _)
 ·rw[HU]
  exact GR (i:=i) (by rw[List.getElem?_zip_eq_some];exact⟨h1,h2⟩)
def pJ{CX:kf}{P:Program}{w:World}{K:Vo}{mg:Vr}{base:Heap}{N ps:Vs}{nd:CN}{f cc:Addr}{cd u:Value}{co:Obj}{A:Around}{outer:List Env}{s:Shared}{H:Hp}{E:XK}{us:Vv}{vs:List V}{v:V}{h₁:Heap}{tk:Nat}
  (S:gC N ps nd.cap nd.scope) (hd:A.handled=none) (e0:lP P w K mg base A outer s H) (hl:vs.length=ps.length) (r:Vals vs us) (hcc:H cc=some (.frz co (.own 0))) (hco:co.data = .cell (some u)) (ru:RelV v u)
  (hns:h₁.Ns s.heap.objs.size (fun x=>(ps.zip us).reverse.lookup x)) (hk:∀b o,s.heap.get? b=some o->h₁.get? b=some o) :
  Inv (l5 CX P w K mg base N nd f cd cc A outer s H E) [] (bn N (vs++[v])) H { s with heap:=h₁,toks:=tk }:=by
 have hpl:ps.length+1<=N.length:=by have:=Fl List.length S.pre;rw[Fz,EM,Fd]at this;omega
 have Av:∀b:Addr,b ∉ (l5 CX P w K mg base N nd f cd cc A outer s H E).ex:=fun b z=>absurd (show b∈([]:List Addr)from z) (by simp)
 have hcell:h₁.get? cc=some co:=hk _ _ (e0.hok cc _ hcc).1
 refine⟨⟨e0.mod,S.kind,rfl,rfl,EJ _,fun y z c h1 h2=>(vE h1).1.trans (vE h2).1.symm,fun y hy=>?_,(fun y c h=>by cases h),fun _=>hd,Around.frames_deeper e0.frames,.inr ⟨rfl,rfl⟩,fun b z=>absurd z (Av b),e0.bs,e0.Ad,fun b _ _=>Av b,fun b z=>absurd z (Av b),e0.yQ,e0.Ar⟩,
  rfl,e0.bare,Un.kept hk,⟨_,hns,fun i y x h1 h2 h3=>?_⟩,fun y c h=>⟨some u,co,by rw[(vE h).2];exact hcell,hco⟩,e0.hok.fresh (EJ _),fun y c h=>.inr ⟨rfl,co,.own 0,by rw[(vE h).2];exact hcc⟩,fun p hp=>absurd (show p∈([]:Va)from hp) (by simp),e0.hok.kept hk,?_⟩
 ·have hy:nd.scope.names.lookup y=some .cell\/nd.scope.names.lookup y=some .free:=hy
  rcases hy with hy|hy
  ·exact absurd rfl (S.Ah _ (FF hy))
  ·have e:=S.one _ (FF hy) rfl
   exact⟨cc,by rw[show y=nd.cap from e];exact jI⟩
 ·have hi:i < (vs++[v]).length:=by
   unfold bn at h2
   by_cases hi:i < (vs++[v]).length
   ·exact hi
   ·rw[E7 (by simpa using hi),FP]at h2
    split at h2<;>cases h2
  have ha:(vs++[v])[i]?=some x:=by
   unfold bn at h2
   rw[E5 (by simpa using hi),E1]at h2
   cases e:(vs++[v])[i]? with
   |none=>rw[e]at h2;cases h2
   |some a=>rw[e]at h2;cases h2;rfl
  rw[EM,Fd]at hi
  have hp:(ps++[nd.cap])[i]?=some y:=by
   rw[<-S.pre,Gx (by omega)];exact h1
  by_cases hv:i < vs.length
  ·rw[E5 hv]at ha
   rw[E5 (by omega)]at hp
   obtain⟨u',hu,rv⟩:=r.get ha
   have Bx:ps.Nodup:=by
    have:=S.nd.sublist (GL (ps.length+1) N)
    rw[S.pre]at this
    exact this.sublist (List.sublist_append_left _ _)
   exact⟨u',rv,.inl ⟨S.par y (GR hp),sg Bx hp hu⟩⟩
  ·have e:i=vs.length:=by omega
   subst e
   rw[E7 (EJ _),Nat.sub_self]at ha
   rw[E7 (by omega),hl,Nat.sub_self]at hp
   cases ha;cases hp
   exact⟨u,ru,.inr ⟨.inr S.DP,cc,jI,co,hcell,hco⟩⟩
 ·unfold bn
  show _=N.length
  rw[EM,EG,Fq,EM,Fd]
  omega
structure nk (P:Program) (w:World) (K:Vo) (mg:Vr) (base:Heap) (CX:kf) (k:Nat) (nd:CN) (n:Nat) (sp:Sp):Prop where
 len:∀vs H Q E,sp vs H Q E->vs.length=n+1
 run:∀(A:Around) (outer:List Env) (s:Shared) (H:Hp) (f:Addr) (v:V) (us:Vv) (vs:List V) (Q:VK) (E:XK),Room k A->lP P w K mg base A outer s H->AH H f nd v->Vals vs us->sp (vs++[v]) H Q E->
  codeAny (model P w) A (.call (.ref f) ⟨us,[]⟩) (CR CX outer P w H s Q E) s
def si{CX:kf}{P:Program}{w:World}{K:Vo}{mg:Vr}{base:Heap}{k:Nat}{nd:CN}{N ps:Vs}{sp:Sp}(S:gC N ps nd.cap nd.scope)(len:∀vs H Q E,sp vs H Q E->vs.length=ps.length+1)
  (hb:∀(cl:List (Str×Addr)) (doc pm cd ct:Value) (us:Vv),us.length=ps.length->bindArgs (PySem.W.fnX nd.name nd.qual nd.params nd.body nd.scope cl .none .none doc pm none cd ct) ⟨us,[]⟩=pure (ps.zip us))
  (hbody:∀(f cc:Addr) (cd:Value) (A:Around) (outer:List Env) (s:Shared) (H:Hp) (vs:List V) (Q:VK) (E:XK),Room k (A.deeper (PySem.W.envX nd.qual nd.scope s.heap.objs.size f cd [(nd.cap,cc)]))->sp vs H Q E->
   ∃t,zB (l5 CX P w K mg base N nd f cd cc A outer s H E) nd.body t/\t { nx:=fun _ H'=>Q .non H',rt:=Q } (bn N vs) H) :
  nk P w K mg base CX (k+1) nd ps.length sp:=by
 refine⟨len,fun A outer s H f v us vs Q E hr e0 hF r zS=>?_⟩
 obtain⟨doc,pm,c',ctv,cc,co,u,hf,⟨oc,DQ,t,hc,hcd,DR⟩,hcc,hco,ru⟩:=hF
 have hl:vs.length=ps.length:=by have:=len _ _ _ _ zS;rw[EM,Fd]at this;omega
 have lim:s.heap.NoLimit:=e0.mod.nolimit.keeps fun b o e=>(e0.bs b o e).1
 refine codeAny_call_def (fd:=PySem.W.fnX nd.name nd.qual nd.params nd.body nd.scope [(nd.cap,cc)] .none .none doc pm none (.ref c') ctv) (body:=nd.body) (binds:=ps.zip us) hr.depth (e0.hok f _ hf).1 rfl lim
  ⟨c',oc,DQ,t,rfl,(e0.hok c' _ hc).1,hcd,DR⟩ rfl (.of_eq (hb _ _ _ _ _ us (by rw[<-r.length];exact hl))) S.Ah (fun y hy=>S.par _ (Gp (a:=y.1) (b:=y.2) hy).1) (fun h₁ hns hk₁=>?_) S.co S.gen S.kind
 obtain⟨t,ht,hq⟩:=hbody f cc (.ref c') A outer s H (vs++[v]) Q E (hr.deeper _) zS
 have I:Inv (l5 CX P w K mg base N nd f (.ref c') cc A outer s H E) [] (bn N (vs++[v])) H { s with heap:=h₁,toks:=s.toks+(ps.zip us).length }:=pJ S hr.hd e0 hl r hcc hco ru hns hk₁
 refine F7 (ht [] _ (bn N (vs++[v])) H _ I hq) (fun fl s' hs=>?_) fun e s' hs=>hs
 have fin:∀{σ':St} {H':Hp} {v:V} {u:Value},Inv (l5 CX P w K mg base N nd f (.ref c') cc A outer s H E) [] σ' H' s'->RelV v u->Q v H'->CE outer P w H s Q u s':=
  fun{σ' H' v u} J rv q=>⟨v,H',J.os,J.bare,J.base,J.hok,rv,q⟩
 cases fl with
 |ret u=>
  obtain⟨v,σ',H',J,rv,q⟩:=hs
  exact fin J rv q
 |next=>
  obtain⟨σ',H',J,q⟩:=hs
  exact fin (v:=V.non) (u:=Value.none) J rfl q
 |brk=>
  obtain⟨_,_,_,q⟩:=hs
  exact False.elim q
 |cont=>
  obtain⟨_,_,_,q⟩:=hs
  exact False.elim q
def sj(i:Nat)(nd:CN)(sp:Sp)(E:XK)(t:TA):TE:=fun σ H Q=>∃f,σ[i]?=some (some (.ref f))/\t σ H fun vs H1=>∃v,AH H1 f nd v/\sp (vs++[v]) H1 Q E
def np{X:Cx}{CX:kf}{k n i:Nat}{nd:CN}{sp:Sp}{E:XK}{x:Str}{p pos:Pos}{e:Expr}{es:List Expr}{t:TA}(F:nk X.prog X.w X.K X.mg X.base CX k nd n sp)(hr:Room k X.A)(hx:iS CX X E)(hv:PE X (.Name x p) (t7 i))
  (ha:PA X (e::es) t) (he:starEach (e::es) X.env=(false,eval e X.env)::starEach es X.env:=by rfl) (hpl:(backTo pos (starEach es X.env)).any (·.1)=false:=by rfl) :
  PE X (.Call (.Name x p) (e::es) [] pos) (sj i nd sp E t):=by
 intro pins s σ H Q I h
 obtain⟨f,hf,h⟩:=h
 refine FN (xI (hv pins s σ H (fun v H'=>v = .ref f/\H'=H) I ⟨_,hf,rfl,rfl⟩) fun u s1 ⟨v,H1,I1,rv,e1,e2⟩=>?_)
 subst e1 e2
 cases rv
 have hw:=xI (ha pos pins s1 σ H1 _ I1 h) fun us s2 ⟨vs,H2,I2,r2,v,hF,q⟩=>(show PySem.W.FnAt f s2.heap/\wpAny (model X.prog X.w) X.A (call (.ref f) ([]++us)) (EP X pins σ Q) X.xe s2 from by
  refine⟨?_,?_⟩
  ·obtain⟨doc,pm,c',ctv,cc,co,u,hf',_⟩:=hF
   exact⟨_,_,_,_,(I2.hok f _ hf').1⟩
  ·refine wpAny_call (codeAny_mono (F.run X.A X.stack s2 H2 f v us vs Q E hr I2.Bg hF r2 q) fun r s' hq=>?_)
   cases r with
   |error e=>exact hx pins σ H2 s2 e s' I2 hq
   |ok fl=>
    cases fl with
    |ret u=>exact I2.after hq
    |next=>exact False.elim hq
    |brk=>exact False.elim hq
    |cont=>exact False.elim hq)
 rw[he]at hw ⊢
 exact PySem.W.callWith_of (by show((false || (backTo pos (starEach es X.env)).any (·.1)) || false)=false;rw[hpl];rfl) PySem.W.keeps_F (GS hw)
noncomputable def Cx.frz(X:Cx)(x:Str):Cx:={ X with fn:=fun y=>X.fn y&&!(y == x) }
theorem Cx.Ok.frz{X:Cx}{x:Str}(ok:X.Ok):(X.frz x).Ok:=⟨ok.mod,ok.kind,ok.glob,ok.blt,ok.above,ok.inj,ok.has,fun y c h e=>ok.AC y c (F4.mp h).1 e,ok.hd,ok.frames,ok.stk,ok.Bt,ok.bs,ok.Ad,ok.zK,ok.zX,ok.yQ,ok.Ar⟩
section
variable {X:Cx} {pins:Va} {σ:List (Option V)} {H:Hp} {s:Shared}
theorem Inv.frz{x:Str}{cc:Addr}{co:Obj}(I:Inv X pins σ H s)(hc:X.env.cells.lookup x=some cc)(hf:X.fn x=true)(ho:s.heap.get? cc=some co):Inv (X.frz x) pins σ (upd H cc (.frz co (.own 0))) s:=by
 have hn:H cc=none:=(I.yu x cc hc).resolve_right fun⟨z,_⟩=>by rw[hf]at z;cases z
 have ab:X.s₀.heap.objs.size<=cc:=I.ok.AC x cc hf hc
 obtain⟨v0,oc,hoc,hod⟩:=I.cell x cc hc
 have yx:∀b u,H b=some u->upd H cc (.frz co (.own 0)) b=some u:=fun b u e=>by rw[ak (au e hn)];exact e
 refine⟨I.ok.frz,I.os,I.bare,⟨I.base.keep,I.base.slot,fun b o e n hx=>?_,I.base.there,fun b xs e=>yx _ _ (I.base.tups b xs e),fun b o u e=>yx _ _ (I.base.y8 b o u e),fun b ps e=>let ⟨m,h⟩:=I.base.zo b ps e;⟨m,yx _ _ h⟩⟩,I.loc,I.cell,?_,fun y c e=>?_,fun p hp=>?_,fun b u e=>?_,I.len⟩
 ·rw[ak (ES (EN (EK e) ab))];exact I.base.free b o e n hx
 ·rw[show(X.frz x).env.locals=X.env.locals from rfl,ak (F3 (I.AE x cc hc))];exact I.free
 ·by_cases h:c=cc
  ·subst h
   have e2:=I.ok.inj _ _ _ e hc
   exact .inr ⟨by show(X.fn y&&!(y == x))=false;rw[e2];simp,co,.own 0,am⟩
  ·rcases I.yu y c e with z|⟨z,o,u,q⟩
   ·exact .inl (by rw[ak h];exact z)
   ·exact .inr ⟨by show(X.fn y&&!(y == x))=false;rw[z];rfl,o,u,by rw[ak h];exact q⟩
 ·obtain⟨e,n,r1,r2,d⟩:=I.pin p hp
  refine⟨e,?_,r1,r2,d⟩
  rw[ak ?_]
  ·exact n
  ·intro z
   rw[z,hoc]at e
   exact d v0 (by rw[<-Fy e];exact hod)
 ·by_cases h:b=cc
  ·subst h;rw[am]at e;cases e;exact⟨ho,co,ho⟩
  ·rw[ak h]at e
   exact(I.hok b u e).stay (fun _ _ _ q=>q) (fun c q=>yx _ _ q) fun c xs q=>yx _ _ q
end
def xk(X:Cx)(Q:VK)(fl:Flow)(s':Shared):Prop:=
 match fl with
 | .ret u=>∃v H',s'.os=X.s₀.os/\AllBare s'.gens/\Un X.fs X.ex X.H₀ H' X.s₀.heap s'.heap/\yF X.prog X.w H' s'.heap/\RelV v u/\Q v H'
 | .next=>∃H',s'.os=X.s₀.os/\AllBare s'.gens/\Un X.fs X.ex X.H₀ H' X.s₀.heap s'.heap/\yF X.prog X.w H' s'.heap/\Q .non H'
 |_=>False
abbrev tP:=VK->St->Hp->Prop
def Ao(X:Cx)(st:List Stmt)(t:tP):Prop:=
 ∀(s:Shared) (σ:St) (H:Hp) (Q:VK),Inv X [] σ H s->t Q σ H->wpAny (model X.prog X.w) X.A (execs st X.env) (xk X Q) X.xe s
section
variable {X:Cx} {st:Stmt} {rest:List Stmt} {t:TS} {u:tP}
def sk{sts:List Stmt}(h:zB X sts t):Ao X sts (fun Q=>t { nx:=fun _ H'=>Q .non H',rt:=Q }):=by
 intro s σ H Q I hq
 refine xI (h [] s σ H _ I hq) fun fl s' hs=>?_
 cases fl with
 |ret u=>obtain⟨v,σ',H',J,rv,q⟩:=hs;exact⟨v,H',J.os,J.bare,J.base,J.hok,rv,q⟩
 |next=>obtain⟨σ',H',J,q⟩:=hs;exact⟨H',J.os,J.bare,J.base,J.hok,q⟩
 |brk=>obtain⟨_,_,_,q⟩:=hs;exact False.elim q
 |cont=>obtain⟨_,_,_,q⟩:=hs;exact False.elim q
def nq(h1:PS X st t)(h2:Ao X rest u):Ao X (st::rest) (fun Q=>t { nx:=u Q,rt:=Q }):=by
 intro s σ H Q I hq
 refine Hs (xI (h1 [] s σ H { nx:=u Q,rt:=Q } I hq) fun fl s' hs=>?_)
 cases fl with
 |ret u=>obtain⟨v,σ',H',J,rv,q⟩:=hs;exact⟨v,H',J.os,J.bare,J.base,J.hok,rv,q⟩
 |next=>obtain⟨σ',H',J,q⟩:=hs;exact h2 s' σ' H' Q J q
 |brk=>obtain⟨_,_,_,q⟩:=hs;exact False.elim q
 |cont=>obtain⟨_,_,_,q⟩:=hs;exact False.elim q
end
section
variable {X:Cx} {pins:Va} {σ:List (Option V)} {H:Hp} {s:Shared} {nd:CN} {pos:Pos} {i:Nat} {c P cc:Addr} {v:V}
def nu{Q:Vq}{E:Vq}{n:Nat}(I:Inv X pins σ H s)(hcode:X.env.code = .ref c)(C:PySem.W.CodeHd X.base c P)(B:X.base.BuiltinsAt X.mg P)(T:TabAt H P pos nd.qual)(hcl:closureFor nd.scope X.env=pure [(nd.cap,cc)])(hcc:X.env.cells.lookup nd.cap=some cc)(hfn:X.fn nd.cap=true)
  (hi:X.N[i]?=some nd.cap) (hv:σ[i]?=some (some v)) (hk:X.env.scope.names.lookup nd.cap=some .cell)
  (h:∀f H' s',Inv (X.frz nd.cap) pins σ H' s'->AH H' f nd v->TabAt H' P pos nd.qual->(∀b o,b≠P->H b=some o->H' b=some o)->Q (.ref f) s') :
  wpAny (model X.prog X.w) X.A (makeFunction nd.name nd.qual nd.params (.stmts nd.body) nd.scope X.env [] [] [] pos n) Q E s:=by
 obtain⟨ps,hP,ht,hps⟩:=T
 have CV:s.heap.get? P=some (PySem.W.tabObj ps):=I.hok P _ hP
 have hg:s.heap.Ns mainGlobals X.mg:=I.mod.glob.keeps I.bk
 have C':=C.keeps I.bk
 obtain⟨bm,bo,b1,b2,b3,b4,b5,b6⟩:=B
 have B':s.heap.BuiltinsAt X.mg P:=⟨bm,bo,b1,b2,b3,b4,I.bk _ _ b5,b6⟩
 have hgP:mainGlobals≠P:=fun z=>by
  obtain⟨o,_,_,e,_⟩:=I.mod.glob
  have:=(I.bs _ _ e).2
  rw[z,hP]at this;cases this
 -- the value in the cell
 obtain⟨m,hn,hl⟩:=I.loc
 obtain⟨u,ru,lu⟩:=hl i nd.cap v hi hv (.inr (.inl hk))
 have hcell:s.heap.IsCell cc (some u):=by
  rcases lu with⟨k',_⟩|⟨_,c2,e2,z⟩
  ·have k'':X.env.scope.names.lookup nd.cap=some .local:=k'
   rw[hk]at k'';cases k''
  ·rw[hcc]at e2;cases e2;exact z
 obtain⟨co,hco,hcd⟩:=hcell
 have hcn:H cc=none:=(I.yu _ cc hcc).resolve_right fun⟨z,_⟩=>by rw[hfn]at z;cases z
 cases e:codeAmong pos ps.toList with
 |some cv=>
  obtain⟨c',rfl,hc'⟩:=hps cv e
  refine PySem.W.makeFunction_hit hcl I.ok.glob hg hcode C' CV ht e B' fun ctv doc h' tk hk' hsz=>?_
  have I1:Inv X pins σ H { s with heap:=h',toks:=tk }:=I.kept hk'
  have I2:=I1.laid (h':=h'.push (PySem.W.fnMade nd.name nd.qual nd.params nd.body nd.scope [(nd.cap,cc)] doc ((X.mg "__name__").getD .none) c' ctv)) (a:=h'.objs.size) (o:=.frz (PySem.W.fnMade nd.name nd.qual nd.params nd.body nd.scope [(nd.cap,cc)] doc ((X.mg "__name__").getD .none) c' ctv) (.own 0)) (t':=tk)
   (fun b u q=>EF _ q) (EJ _) ⟨EL _ rfl,_,EL _ rfl⟩
  have fr:H h'.objs.size=none:=I1.hok.fresh (EJ _)
  have I3:=I2.frz hcc hfn (co:=co) (EF _ (hk' _ _ hco))
  have hlt:cc < s.heap.objs.size:=EK hco
  have g:∀b o,H b=some o->upd (upd H h'.objs.size (.frz (PySem.W.fnMade nd.name nd.qual nd.params nd.body nd.scope [(nd.cap,cc)] doc ((X.mg "__name__").getD .none) c' ctv) (.own 0))) cc (.frz co (.own 0)) b=some o:=fun b o z=>by
   rw[ak (au z hcn),ak (au z fr)];exact z
  refine h _ _ _ I3 ⟨doc,(X.mg "__name__").getD .none,c',ctv,cc,co,u,?_,hc'.mono fun a o u z=>g _ _ z,am,hcd,ru⟩ ⟨ps,g _ _ hP,ht,fun cv k=>let ⟨c2,e2,z⟩:=hps cv k;⟨c2,e2,z.mono fun a o u z=>g _ _ z⟩⟩ fun b o _ z=>g _ _ z
  rw[ak (Hg (EN hlt hsz)),am]
 |none=>
  refine PySem.W.makeFunction_K hcl I.ok.glob hg hcode C' CV ht e hgP B' fun c' ctv doc h' tk hx hge hlt hrec htb=>?_
  obtain⟨c₂,oc,vs,t,e2,hoc,hd,hvs⟩:=hrec
  cases e2
  generalize hfo:PySem.W.fnMade nd.name nd.qual nd.params nd.body nd.scope [(nd.cap,cc)] doc ((X.mg "__name__").getD .none) c' ctv=fo
  have ff:fo.isFreed=false:=by rw[<-hfo];rfl
  have nP:∀b u,b≠P->s.heap.get? b=some u->(h'.push fo).get? b=some u:=fun b u hb q=>EF _ (hx b u hb q)
  have cn:H c'=none:=I.hok.fresh hge
  have fn':H h'.objs.size=none:=I.hok.fresh (EW hge (GU hlt))
  have Pc:P≠c':=fun z=>by rw[z,cn]at hP;cases hP
  have Pf:P≠h'.objs.size:=fun z=>by rw[z,fn']at hP;cases hP
  have cf:c'≠h'.objs.size:=ES hlt
  have g:∀b o,b≠P->H b=some o->upd (upd (upd H P (.zp (ps++#[rawInt pos.line,rawInt pos.col,.ref c']))) c' (.frz oc (.own 0))) h'.objs.size (.frz fo (.own 0)) b=some o:=fun b o hb z=>by
   rw[ak (au z fn'),ak (au z cn),ak hb];exact z
  have gP:upd (upd (upd H P (.zp (ps++#[rawInt pos.line,rawInt pos.col,.ref c']))) c' (.frz oc (.own 0))) h'.objs.size (.frz fo (.own 0)) P=some (.zp (ps++#[rawInt pos.line,rawInt pos.col,.ref c'])):=by rw[ak Pf,ak Pc,am]
  have gc:upd (upd (upd H P (.zp (ps++#[rawInt pos.line,rawInt pos.col,.ref c']))) c' (.frz oc (.own 0))) h'.objs.size (.frz fo (.own 0)) c'=some (.frz oc (.own 0)):=by rw[ak cf,am]
  have gf:upd (upd (upd H P (.zp (ps++#[rawInt pos.line,rawInt pos.col,.ref c']))) c' (.frz oc (.own 0))) h'.objs.size (.frz fo (.own 0)) h'.objs.size=some (.frz fo (.own 0)):=am
  have gn:∀b,b < s.heap.objs.size->H b=none->upd (upd (upd H P (.zp (ps++#[rawInt pos.line,rawInt pos.col,.ref c']))) c' (.frz oc (.own 0))) h'.objs.size (.frz fo (.own 0)) b=none:=fun b hb z=>by
   rw[ak (ES (Gv (EN hb hge) hlt)),ak (ES (EN hb hge)),ak (fun q=>by rw[q,hP]at z;cases z)];exact z
  have gi:∀b u,upd (upd (upd H P (.zp (ps++#[rawInt pos.line,rawInt pos.col,.ref c']))) c' (.frz oc (.own 0))) h'.objs.size (.frz fo (.own 0)) b=some u->b≠P->b≠c'->b≠h'.objs.size->H b=some u:=fun b u q n1 n2 n3=>by
   rw[ak n3,ak n2,ak n1]at q;exact q
  generalize upd (upd (upd H P (.zp (ps++#[rawInt pos.line,rawInt pos.col,.ref c']))) c' (.frz oc (.own 0))) h'.objs.size (.frz fo (.own 0))=H1 at g gP gc gf gn gi
  have B4:yF X.prog X.w H1 (h'.push fo):=fun b u q=>by
   by_cases n1:b=P
   ·subst n1;rw[gP]at q;cases q;exact EF _ htb
   ·by_cases n2:b=c'
    ·subst n2;rw[gc]at q;cases q;exact⟨EF _ hoc,oc,EF _ hoc⟩
    ·by_cases n3:b=h'.objs.size
     ·subst n3;rw[gf]at q;cases q;exact⟨EL _ ff,fo,EL _ ff⟩
     ·refine(I.hok b u (gi b u q n1 n2 n3)).stay (fun d w' hd' q'=>nP d w' ?_ q') (fun d q'=>g _ _ (fun z=>by rw[z,hP]at q';cases q') q') fun d xs q'=>g _ _ (fun z=>by rw[z,hP]at q';cases q') q'
      rcases hd' with rfl|hd'
      ·exact n1
      ·exact fun z=>by rw[z,hP]at hd';cases hd'
  have hne:∀b,H b=none->b≠P:=fun b z q=>by rw[q,hP]at z;cases z
  have un:Un X.fs [] H H1 s.heap (h'.push fo):=⟨fun b o q n _ _=>nP b o (hne b n) q,fun b o q n _ _=>⟨o.slots,nP b o (hne b n) q⟩,fun b o q n _=>gn b (EK q) n,fun b o q _=>by
    by_cases z:b=P
    ·exact⟨_,by rw[z];exact EF _ htb⟩
    ·exact⟨o,nP b o z q⟩,fun b xs q=>g _ _ (fun z=>by rw[z,hP]at q;cases q) q,fun b o u q=>g _ _ (fun z=>by rw[z,hP]at q;cases q) q,fun b qs q=>by
    by_cases z:b=P
    ·rw[z,hP]at q;cases q;exact⟨_,by rw[z];exact gP⟩
    ·exact⟨#[],by rw[g _ _ z q];simp⟩⟩
  have I2:Inv X pins σ H1 { s with heap:=h'.push fo,toks:=tk }:=I.un un B4
  have B5:cc < s.heap.objs.size:=EK hco
  have I3:=I2.frz hcc hfn (co:=co) (nP _ _ (hne _ hcn) hco)
  have c1:H1 cc=none:=gn cc B5 hcn
  have k1:∀b o,H1 b=some o->upd H1 cc (.frz co (.own 0)) b=some o:=fun b o z=>by rw[ak (au z c1)];exact z
  have cd:zZ (upd H1 cc (.frz co (.own 0))) c' nd.qual:=⟨oc,vs,t,k1 _ _ gc,hd,hvs⟩
  have fm:∀a o u,H a=some (.frz o u)->upd H1 cc (.frz co (.own 0)) a=some (.frz o u):=fun a o u z=>k1 _ _ (g _ _ (fun q=>by rw[q,hP]at z;cases z) z)
  refine h _ _ _ I3 ⟨doc,(X.mg "__name__").getD .none,c',ctv,cc,co,u,?_,cd,am,hcd,ru⟩ ⟨_,k1 _ _ gP,?_,fun cv k=>?_⟩ fun b o nb z=>k1 _ _ (g _ _ nb z)
  ·rw[hfo];exact k1 _ _ gf
  ·rw[Array.toList_append];exact TriplesOk_snoc _ _ _ _ ht
  ·rw[Array.toList_append]at k
   have:=codeAmong_snoc (c:=.ref c') ps.toList ht e
   rw[show(#[rawInt pos.line,rawInt pos.col,Value.ref c']:Vw).toList=[rawInt pos.line,rawInt pos.col,Value.ref c'] from rfl,this]at k
   cases k
   exact⟨c',rfl,cd⟩
end
def jJ{sc:Scope}{env:Env}{x:Str}{c:Addr}(h:(sc.names.filter fun y=>y.2 == .free)=[(x,.free)])(hc:env.cells.lookup x=some c):closureFor sc env=pure [(x,c)]:=by
 have key:∀(l:List (Str×NameKind)) (acc:List (Str×Addr)),(∀y∈l,y.2 = .free->y.1=x)->(do
   let mut cs:=acc
   for (name,kind) in l do
    if kind == .free then cs:=(name,<-cellOf env name)::cs
   return cs:Sem (List (Str×Addr)))=pure (((l.filter fun y=>y.2 == .free).map fun y=>(y.1,c)).reverse++acc):=by
  intro l
  induction l with
  |nil=>intro acc _;rfl
  |cons y r ih=>
   intro acc hx
   obtain⟨n,k⟩:=y
   have ih':=fun acc=>ih acc fun y hy=>hx y (Fi _ hy)
   by_cases hk:k = .free
   ·subst hk
    have hn:n=x:=hx (n,.free) FJ rfl
    subst hn
    have e1:cellOf env n=pure c:=by unfold cellOf;rw[hc]
    simp only[GJ,e1]
    refine Eq.trans ?_ ((ih' ((n,c)::acc)).trans ?_)
    ·rfl
    ·simp
   ·have hk':(k == NameKind.free)=false:=by simpa using hk
    refine Eq.trans ?_ ((ih' acc).trans ?_)
    ·simp only[GJ,hk'];rfl
    ·simp[hk']
 have:=key sc.names [] fun y hy hf=>by
  have:y∈sc.names.filter fun y=>y.2 == .free:=FW.mpr ⟨hy,by rw[hf];rfl⟩
  rw[h,FO]at this
  rw[this]
 rw[h]at this
 exact this
noncomputable def wo(P:Addr)(pos:Pos)(nd:CN)(i j:Nat)(u:tP):tP:=fun Q σ H=>TabAt H P pos nd.qual/\∃v,σ[i]?=some (some v)/\∀f H',AH H' f nd v->TabAt H' P pos nd.qual->(∀b o,b≠P->H b=some o->H' b=some o)->u Q (σ.set j (some (.ref f))) H'
def pK{X:Cx}{nd:CN}{pos:Pos}{i j:Nat}{c P:Addr}{rest:List Stmt}{u:tP}(hcode:X.env.code = .ref c)(C:PySem.W.CodeHd X.base c P)(B:X.base.BuiltinsAt X.mg P)(hq:qualnameIn X.env nd.name nd.name=nd.qual)
  (hcl:(nd.scope.names.filter fun y=>y.2 == .free)=[(nd.cap,.free)]) (hfn:X.fn nd.cap=true) (hi:X.N[i]?=some nd.cap) (hk:X.env.scope.names.lookup nd.cap=some .cell)
  (hd0:nd.params.defaults=[]) (hk0:nd.params.kw_defaults=[]) (ha:annTrees nd.params none X.env=[]) (hN:X.N.Nodup) (hj:X.N[j]?=some nd.name) (hx:oK X.env.scope nd.name) (B6:(X.frz nd.cap).fn nd.name=true\/X.env.scope.names.lookup nd.name=some .local)
  (h2:Ao (X.frz nd.cap) rest u):Ao X (.FunctionDef nd.name nd.params nd.body [] none [] nd.scope none nd.name pos::rest) (wo P pos nd i j u):=by
 intro s σ H Q I ⟨T,v,hv,h⟩
 obtain⟨cc,hcc⟩:=I.ok.has nd.cap (.inl hk)
 refine Hs (PySem.W.nestDef_K hd0 hk0 ha ?_)
 rw[hq]
 refine nu I hcode C B T (jJ hcl hcc) hcc hfn hi hv hk fun f H' s' I' hF hT hg=>?_
 exact bF (X:=X.frz nd.cap) I' hN hj hx (v:=.ref f) rfl (fun s'' DS=>h2 s'' _ H' Q DS (h f H' hF hT hg)) B6
def sn{CX:kf}{P:Program}{w:World}{K:Vo}{mg:Vr}{base:Heap}{k:Nat}{f:Addr}{name qual:Str}{params:Arguments}{body:List Stmt}{scope:Scope}{dV kV doc pm cdv ct oc:Value}{an od:Option Addr}
  {osl:Array (Option Value)} {N ps:Vs} {sp:Sp} (lk:K.lookup f=some ⟨oc,od,.func (PySem.W.fnOf name qual params body scope dV kV doc pm an cdv ct),osl⟩) (hcd:PySem.W.codeIn K cdv qual=true) (S:bX N ps scope)
  (len:∀vs H Q E,sp vs H Q E->vs.length=ps.length)
  (hbody:∀(A:Around) (outer:List Env) (s:Shared) (H:Hp) (vs:List V) (Q:VK) (E:XK),Room k (A.deeper (envOfC qual scope s.heap.objs.size f cdv))->sp vs H Q E->
   ∃u,Ao (iT CX P w K mg base N qual scope f cdv A outer s H E) body u/\u Q (bn N vs) H) :
  g_ P w K mg base CX (k+1) f (PySem.W.fnOf name qual params body scope dV kV doc pm an cdv ct) ps sp:=by
 refine⟨len,fun A outer s H args us vs Q E hr e0 hb r zS=>?_⟩
 have hl:=len _ _ _ _ zS
 have KX:K.In s.heap:=e0.mod.AS.keeps fun b o e=>(e0.bs b o e).1
 have lim:s.heap.NoLimit:=e0.mod.nolimit.keeps fun b o e=>(e0.bs b o e).1
 have hkind:∀y∈ps.zip us,scope.names.lookup y.1=some .local\/(scope.names.lookup y.1=some .cell/\((cellsFrom (s.heap.objs.size+1) scope.names []).lookup y.1).isSome=true):=fun⟨n,v⟩ hy=>by
  rcases S.par n (Gp hy).1 with q|q
  ·exact .inl q
  ·exact .inr ⟨q,Hh _ _ _ (.inl q)⟩
 refine codeAny_call_function hr.depth (KX _ _ lk) rfl S.co S.gen rfl (PySem.W.codeRec_of KX hcd) (hb _ _ _ _ ?_)
 refine wpAny_newFunctionEnv_cells S.kind hkind fun env he s1 x=>?_
 subst he
 refine⟨lim.keeps x.toInCall.keep,codeAny_func ?_⟩
 obtain⟨u,ht,hq⟩:=hbody A outer s H vs Q E (hr.deeper _) zS
 have I:Inv (iT CX P w K mg base N qual scope f cdv A outer s H E) [] (bn N vs) H s1:=iq S hr.hd e0 hl r x
 refine F7 (ht s1 (bn N vs) H Q I hq) (fun fl s' hs=>?_) fun e s' hs=>hs
 cases fl with
 |ret u=>
  obtain⟨v,H',h1,h2,h3,h4,rv,q⟩:=hs
  exact⟨v,H',h1,h2,h3,h4,rv,q⟩
 |next=>
  obtain⟨H',h1,h2,h3,h4,q⟩:=hs
  exact⟨V.non,H',h1,h2,h3,h4,rfl,q⟩
 |brk=>exact False.elim hs
 |cont=>exact False.elim hs
def lj(P:Addr)(H:Hp):Prop:=H P=some (.zp #[])/\∀b,b≠P->H b=none\/∃o xs,H b=some (.frz o (.lst xs))
def l6{P:Program}{w:World}{K:Vo}{mg mb:Vr}{CX:kf}{k:Nat}{fa a c Pt:Addr}{fd:FuncData}{x:Str}{sp:Sp}{s₁:Shared}{vs:Vv}{ns:Vu}
  (KX:K.In s₁.heap) (hns:s₁.heap.Ns mainGlobals mg) (hb:s₁.heap.Ns builtinsNs mb) (DT:∀x:Str,x ≠ "__name__"->mb x=bootBuiltins x) (hlim:s₁.heap.NoLimit) (hg:s₁.gens=#[])
  (ha:s₁.heap.get? a=some { cls:=.type "list",data:=.seq vs.toArray }) (hi:IntsAre vs ns) (hl:ns.length<=sizeLine) (hr:Room k callerA)
  (hC:PySem.W.CodeHd s₁.heap c Pt) (A0:s₁.heap.get? Pt=some (PySem.W.tabObj #[])) (A1:K.lookup Pt=none) (hB:s₁.heap.BuiltinsAt mg Pt)
  (F:∀base:Heap,K.In base->base.Ns mainGlobals mg->PySem.W.CodeHd base c Pt->base.BuiltinsAt mg Pt->g_ P w K mg base CX k fa fd [x] sp) (hbind:∀(s:Shared) (u:Value),BindsTo s fd ⟨[u],[]⟩ [(x,u)])
  (zS:∀H:Hp,lj Pt H->SqL K H a (ns.map V.int)->sp [.ref a] H (fun v _=>v = .bl true) fun _ _ _=>False)
  (B7:∀H e s',CX [] H s₁ (fun _ _ _=>False) e s'->False) :
  codeAny (model P w) callerA (.call (.ref fa) ⟨[.ref a],[]⟩) (fun r s'=>r = .ok (.ret (.bool true))/\OldK s₁.heap s'.heap/\s'.os=s₁.os/\AllBare s'.gens) s₁:=by
 have rv:=iz hi
 have B8:=hi.length
 have core:∀H:Hp,lj Pt H->SqL K H a (ns.map V.int)->yF P w H s₁.heap->(∀b,H b≠none->b=a\/b=Pt)->(H a≠none->K.lookup a=none)->
   codeAny (model P w) callerA (.call (.ref fa) ⟨[.ref a],[]⟩) (fun r s'=>r = .ok (.ret (.bool true))/\OldK s₁.heap s'.heap/\s'.os=s₁.os/\AllBare s'.gens) s₁:=by
  intro H hO hS hok hA hK
  have ze:∀{b:Addr} {o:Obj},s₁.heap.get? b=some o->H b=none->(gq s₁.heap H).get? b=some o:=fun e n=>mB e n
  have CW:∀{b:Addr} {o:Obj},s₁.heap.get? b=some o->(∀q n,o.data ≠ .seq q n)->o.cls ≠ .none->H b=none:=fun{b o} e d1 d2=>by
   cases q:H b with
   |none=>rfl
   |some u=>
    rcases hA b (by rw[q];simp)with e'|e'
    ·subst e';rw[ha]at e;cases e;exact absurd rfl (d1 _ _)
    ·subst e';rw[A0]at e;cases e;exact absurd rfl d2
  have Av:∀{b:Addr} {o:Obj} {es:Array DictEntry} {ep:Nat},s₁.heap.get? b=some o->o.data = .dict es ep->H b=none:=fun{b o es ep} e d=>by
   cases q:H b with
   |none=>rfl
   |some u=>
    rcases hA b (by rw[q];simp)with e'|e'
    ·subst e';rw[ha]at e;cases e;cases (show Data.seq vs.toArray _=Data.dict es ep from d)
    ·subst e';rw[A0]at e;cases e;cases (show Data.fields #[]=Data.dict es ep from d)
  have BA:∀{b:Addr} {m:Vr},s₁.heap.Ns b m->(gq s₁.heap H).Ns b m:=fun{b m} ⟨o,es,ep,e,d,r⟩=>⟨o,es,ep,ze e (Av e d),d,r⟩
  have CZ:K.In (gq s₁.heap H):=fun b o e=>ze (KX b o e) (by
   cases q:H b with
   |none=>rfl
   |some u=>
    rcases hA b (by rw[q];simp)with e'|e'
    ·subst e';rw[hK (by rw[q];simp)]at e;cases e
    ·subst e';rw[A1]at e;cases e)
  have hM:Mod K mg (gq s₁.heap H):=⟨CZ,BA hns,⟨mb,BA hb,DT⟩,let ⟨mc,h1,h2⟩:=hlim;⟨mc,BA h1,h2⟩⟩
  have hCb:PySem.W.CodeHd (gq s₁.heap H) c Pt:=by
   obtain⟨o,vs',file,tf,flags,tg,DU,text,tt,e1,e2,e3,r⟩:=hC
   exact⟨o,vs',file,tf,flags,tg,DU,text,tt,ze e1 (CW e1 (fun q n z=>by rw[e3]at z;cases z) (by rw[e2];nofun)),e2,e3,r⟩
  have DV:(gq s₁.heap H).BuiltinsAt mg Pt:=by
   obtain⟨bm,o,h1,h2,h3,h4,h5,h6,h7,h8⟩:=hB
   exact⟨bm,o,h1,h2,h3,h4,ze h5 (CW h5 (fun q n z=>by rw[h8]at z;cases z) (by rw[h6];nofun)),h6,h7,h8⟩
  have e0:lP P w K mg (gq s₁.heap H) callerA [] s₁ H:=⟨rfl,hM,fun b o e=>oO e,Nat.le_of_eq (lI _ _),trivial,fun b hb=>absurd (show b∈([]:List Addr)from hb) (by simp),hok,.of_eq hg⟩
  refine codeAny_mono ((F _ CZ (BA hns) hCb DV).run callerA [] s₁ H ⟨[.ref a],[]⟩ [.ref a] [.ref a] _ _ hr e0 (hbind s₁ (.ref a)) (.cons rfl .nil) (zS H hO hS)) fun r s' h=>?_
  cases r with
  |error e=>exact(B7 H e s' h).elim
  |ok fl=>
   cases fl with
   |next=>exact False.elim h
   |brk=>exact False.elim h
   |cont=>exact False.elim h
   |ret u=>
    obtain⟨v,H',os,bare,un,Bl,r',q⟩:=h
    have q':v = .bl true:=q
    subst q'
    obtain rfl:u=Value.bool true:=r'
    obtain⟨more,hm⟩:=un.zo Pt #[] hO.1
    have hm':s'.heap.get? Pt=some (PySem.W.tabObj more):=by have:=Bl Pt _ hm;rw[Array.empty_append]at this;exact this
    have kp:∀b o,b≠Pt->s₁.heap.get? b=some o->s'.heap.get? b=some o:=fun b o hb e=>by
     cases q:H b with
     |none=>exact un.keep b o e q (by intro z;exact absurd (show b∈([]:List Addr)from z) (by simp)) (by simp)
     |some u=>
      rcases hO.2 b hb with z|⟨ob,xs,z⟩
      ·rw[q]at z;cases z
      ·have z2:=un.y8 b ob _ z
       obtain⟨e1,_⟩:=hok b _ z
       obtain⟨e2,_⟩:=Bl b _ z2
       rw[e]at e1;cases e1
       exact e2
    refine⟨rfl,⟨fun b o e=>?_,fun b o e=>?_⟩,os,bare⟩
    ·by_cases hb:b=Pt
     ·subst hb
      rw[A0]at e;cases e
      exact .inr (.inl ⟨(hC.tab A0).isCodeTable,rfl,#[],more,rfl,by rw[Array.empty_append];exact hm'⟩)
     ·exact .inl (kp b o hb e)
    ·by_cases hb:b=Pt
     ·exact⟨_,by rw[hb];exact hm'⟩
     ·exact⟨o,kp b o hb e⟩
 have aP:a≠Pt:=fun z=>by rw[z,A0]at ha;cases ha
 cases hk:K.lookup a with
 |some o=>
  have e:=KX a o hk
  rw[ha]at e
  cases e
  refine core (fun b=>if b=Pt then some (.zp #[]) else none) ⟨if_pos rfl,fun b hb=>.inl (if_neg hb)⟩ (.inr ⟨_,vs.toArray,_,hk,rfl,rfl,rfl,by rw[EH,B8];exact hl,by simpa using rv⟩) (fun b u z=>?_) (fun b z=>?_) fun z=>absurd (if_neg aP) z
  ·by_cases hb:b=Pt
   ·have z':=(if_pos hb).symm.trans z;cases z';subst hb;exact A0
   ·have z':=(if_neg hb).symm.trans z;cases z'
  ·by_cases hb:b=Pt
   ·exact .inr hb
   ·exact absurd (if_neg hb) z
 |none=>
  refine core (fun b=>if b=Pt then some (.zp #[]) else if b=a then some (.frz { cls:=.type "list",data:=.seq vs.toArray } (.lst (ns.map V.int))) else none) ⟨if_pos rfl,fun b hb=>?_⟩ (.inl (.inr ⟨{ cls:=.type "list",data:=.seq vs.toArray },(if_neg aP).trans (if_pos rfl)⟩)) (fun b u z=>?_) (fun b z=>?_) fun _=>hk
  ·by_cases ha':b=a
   ·exact .inr ⟨_,_,(if_neg hb).trans (if_pos ha')⟩
   ·exact .inl ((if_neg hb).trans (if_neg ha'))
  ·by_cases hb:b=Pt
   ·have z':=(if_pos hb).symm.trans z;cases z';subst hb;exact A0
   ·have z':=(if_neg hb).symm.trans z
    by_cases hb':b=a
    ·have z2:=(if_pos hb').symm.trans z'
     cases z2
     subst hb'
     exact⟨ha,by rw[EG];exact hl,vs,_,rv,ha⟩
    ·have z2:=(if_neg hb').symm.trans z';cases z2
  ·by_cases hb:b=Pt
   ·exact .inr hb
   ·by_cases hb':b=a
    ·exact .inl hb'
    ·exact absurd ((if_neg hb).trans (if_neg hb')) z
def nv{l:PySem.W.OpenLaw}{n k:Nat}{q:Program}{loose:Vs}{XP:(Vr)->Heap->Prop}{YP:World->Heap->Prop}{d d2:DefRec}{K:Params->PySem.W.Frag}{CX:World->kf}{sp:World->Sp}{x y:Str}{c Pt:Addr}
  (hn:l.most=some n) (hn2:n<=sizeLine) (hdf:d.params.defaults=[]) (hr:Room k callerA)
  (hY:∀(w:World) (h:Heap),YP w h->(K w.params).In h)
  (hy:(recsOf q).find? (fun e=>e.name == y)=some d2) (hT:∀w:World,PySem.W.tabIn (K w.params) y=some (c,Pt)) (A1:∀w:World,(K w.params).lookup Pt=none)
  (F:∀(w:World) (mg:Vr) (fa:Addr) (h:Heap),(K w.params).In h->h.Ns mainGlobals mg->mg d.name=some (.ref fa)->
   ∃fd:FuncData,(∀(s:Shared) (u:Value),BindsTo s fd ⟨[u],[]⟩ [(x,u)])/\
    ∀base:Heap,(K w.params).In base->base.Ns mainGlobals mg->PySem.W.CodeHd base c Pt->base.BuiltinsAt mg Pt->g_ l.prog w (K w.params) mg base (CX w) k fa fd [x] (sp w))
  (zS:∀(w:World) (H:Hp) (a:Addr) (ns:Vu),ns.length<=n->lj Pt H->SqL (K w.params) H a (ns.map V.int)->sp w [.ref a] H (fun v _=>v = .bl true) fun _ _ _=>False)
  (B7:∀(w:World) (H:Hp) (s:Shared) (e:Value) (s':Shared),CX w [] H s (fun _ _ _=>False) e s'->False) :
  PySem.W.WalkO q loose XP YP l.row.toRowW d [] (fun f vs=>PySem.call f vs):=by
 refine Att.jG hn hdf fun w s₀ s₁ mg mb fa o pm cd doc a vs ns G Y ho hd hcd hmg hobj hints hlen hg=>?_
 have KX:=hY w _ Y
 obtain⟨fd,hb,hF⟩:=F w mg fa _ KX G.T.g hmg
 obtain⟨hC,hP⟩:=PySem.W.tab_of G.T KX hy (hT w)
 have hB:s₁.heap.BuiltinsAt mg Pt:=by
  obtain⟨bm,ob,b1,b2,b3,b4,b5,b6⟩:=G.T.bmain
  refine⟨bm,ob,b1,b2,fun z=>?_,fun z=>?_,b3,b4,b5,b6⟩
  ·obtain⟨o,es,ep,e,hd',_⟩:=G.T.g
   rw[z,e]at b3;cases b3;rw[hd']at b6;cases b6
  ·rw[z,hP]at b3;cases b3;cases b4
 exact l6 KX G.T.g G.T.b G.T.builtins G.T.nolimit hg hobj hints (EW hlen hn2) hr hC hP (A1 w) hB hF hb (fun H hO hS=>zS w H a ns hlen hO hS) fun H e s'=>B7 w H s₁ e s'
end L2
namespace L3
open PySem L2
inductive PV where
 |non|bl (b:Bool)|int (i:Int)|str (x:Str)|tup (xs:List PV)|cl (xs:List PV)|ref (a:Addr)|ty (n:String)|exc (c:Str) (ks:Vs) (ps:List PV)|cls (c:Str)|clo (nd:CN) (p:PV)
def A9(K:Vo)(H:Hp)(a:Addr)(xs:List V):Prop:=
 (∃o,H a=some (.frz o (.lst xs))) \/
  ∃(o:Obj) (its:Vw) (n:Nat),K.lookup a=some o/\o.cls = .type "list"/\o.dict=none/\o.data = .seq its n/\its.size<=sizeLine/\Vals xs its.toList
def A9.sq{K:Vo}{H:Hp}{a:Addr}{xs:List V}(h:A9 K H a xs):SqL K H a xs:=h.elim (fun z=>.inl (.inr z)) .inr
def BB(H:Hp)(a C:Addr)(ks:Vs)(vs:List V):Prop:=
 ∃oe dx od,H a=some (.frz oe (.ext fun _=>True))/\oe.cls = .ref C/\oe.dict=some dx/\(∀c,oe.data ≠ .cls c)/\H dx=some (.frz od (.ext (XD dx (ks.zip vs))))
def pL(K:Vo)(c:Str)(C:Addr):Prop:=PySem.W.nsIn K mainGlobals c=some (some (.ref C))
mutual
inductive Rep (K:Vo) (H:Hp):V->PV->Prop
 |non:Rep K H .non .non
 |bl (b:Bool):Rep K H (.bl b) (.bl b)
 |int (i:Int):Rep K H (.int i) (.int i)
 |str (x:Str):Rep K H (.str x) (.str x)
 |ty (n:String):Rep K H (.ty n) (.ty n)
 |ref (a:Addr):Rep K H (.ref a) (.ref a)
 |tup {a:Addr} {vs:List V} {ps:List PV}:SqT K H a vs->Reps K H vs ps->Rep K H (.ref a) (.tup ps)
 |cl {a:Addr} {vs:List V} {ps:List PV}:A9 K H a vs->Reps K H vs ps->Rep K H (.ref a) (.cl ps)
 |exc {a C:Addr} {c:Str} {ks:Vs} {vs:List V} {ps:List PV}:pL K c C->BB H a C ks vs->Reps K H vs ps->Rep K H (.ref a) (.exc c ks ps)
 |cls {C:Addr} {c:Str}:pL K c C->Rep K H (.ref C) (.cls c)
 |clo {a:Addr} {nd:CN} {v:V} {p:PV}:AH H a nd v->Rep K H v p->Rep K H (.ref a) (.clo nd p)
inductive Reps (K:Vo) (H:Hp):List V->List PV->Prop
 |nil:Reps K H [] []
 |cons {v:V} {p:PV} {vs:List V} {ps:List PV}:Rep K H v p->Reps K H vs ps->Reps K H (v::vs) (p::ps)
end
structure Grow (K:Vo) (H H':Hp):Prop where
 t:∀a vs,SqT K H a vs->SqT K H' a vs
 c:∀a vs,A9 K H a vs->A9 K H' a vs
 x:∀a o u,H a=some (.frz o u)->H' a=some (.frz o u)
def Grow.refl{K:Vo}{H:Hp}:Grow K H H:=⟨fun _ _ h=>h,fun _ _ h=>h,fun _ _ _ h=>h⟩
def Grow.trans{K:Vo}{H H1 H2:Hp}(a:Grow K H H1)(b:Grow K H1 H2):Grow K H H2:=⟨fun x vs h=>b.t x vs (a.t x vs h),fun x vs h=>b.c x vs (a.c x vs h),fun x o u h=>b.x x o u (a.x x o u h)⟩
def BB.mono{K:Vo}{H H':Hp}(g:Grow K H H'){a C:Addr}{ks:Vs}{vs:List V}(h:BB H a C ks vs):BB H' a C ks vs:=let ⟨oe,dx,od,h1,h2,h3,h4,h5⟩:=h;⟨oe,dx,od,g.x _ _ _ h1,h2,h3,h4,g.x _ _ _ h5⟩
def Grow.of{K:Vo}{H H':Hp}(h:∀a xs,H a=some (.tup xs)->H' a=some (.tup xs))(h2:∀a o u,H a=some (.frz o u)->H' a=some (.frz o u)):Grow K H H':=by
 refine⟨fun a vs q=>?_,fun a vs q=>?_,h2⟩
 ·rcases q with(q|⟨o,q⟩)|q
  ·exact .inl (.inl (h a vs q))
  ·exact .inl (.inr ⟨o,h2 a o _ q⟩)
  ·exact .inr q
 ·rcases q with⟨o,q⟩|q
  ·exact .inl ⟨o,h2 a o _ q⟩
  ·exact .inr q
def Grow.same{K:Vo}{H H':Hp}(h:∀c o,H c=some o->H' c=some o):Grow K H H':=.of (fun a _ q=>h a _ q) (fun a _ _ q=>h a _ q)
def Grow.new{K:Vo}{H:Hp}{p:Addr}{o:HO}(h:H p=none):Grow K H (upd H p o):=.same fun c u q=>by rw[ak (au q h)];exact q
noncomputable def Mu:HO->Prop
 | .tup _=>False
 | .frz _ _=>False
 |_=>True
def Grow.mut{K:Vo}{H:Hp}{p:Addr}{o u:HO}(h:H p=some u)(m:Mu u):Grow K H (upd H p o):=
 .of (fun a xs q=>by rw[ak (fun e=>by subst e;rw[h]at q;cases q;exact m)];exact q) (fun a _ _ q=>by rw[ak (fun e=>by subst e;rw[h]at q;cases q;exact m)];exact q)
mutual
theorem Rep.mono{K:Vo}{H H':Hp}(g:Grow K H H'):∀{v:V} {p:PV},Rep K H v p->Rep K H' v p
 |_,_,.non=>.non
 |_,_,.bl b=>.bl b
 |_,_,.int i=>.int i
 |_,_,.str x=>.str x
 |_,_,.ty n=>.ty n
 |_,_,.ref a=>.ref a
 |_,_,.tup h r=>.tup (g.t _ _ h) (Reps.mono g r)
 |_,_,.cl h r=>.cl (g.c _ _ h) (Reps.mono g r)
 |_,_,.exc n h r=>.exc n (h.mono g) (Reps.mono g r)
 |_,_,.cls n=>.cls n
 |_,_,.clo h r=>.clo (h.mono g.x) (Rep.mono g r)
theorem Reps.mono{K:Vo}{H H':Hp}(g:Grow K H H'):∀{vs:List V} {ps:List PV},Reps K H vs ps->Reps K H' vs ps
 |_,_,.nil=>.nil
 |_,_,.cons a r=>.cons (Rep.mono g a) (Reps.mono g r)
end
theorem Reps.length{K:Vo}{H:Hp}:∀{vs:List V} {ps:List PV},Reps K H vs ps->vs.length=ps.length
 |_,_,.nil=>rfl
 |_,_,.cons _ r=>by rw[EU,EU,Reps.length r]
theorem Reps.append{K:Vo}{H:Hp}:∀{vs us:List V} {ps qs:List PV},Reps K H vs ps->Reps K H us qs->Reps K H (vs++us) (ps++qs)
 |_,_,_,_,.nil,s=>s
 |_,_,_,_,.cons a r,s=>.cons a (Reps.append r s)
theorem Reps.get{K:Vo}{H:Hp}:∀{vs:List V} {ps:List PV} {i:Nat} {p:PV},Reps K H vs ps->ps[i]?=some p->∃v,vs[i]?=some v/\Rep K H v p
 |_,_,_,_,.nil,e=>by simp at e
 |_,_,0,_,.cons a r,e=>by simp at e;subst e;exact⟨_,rfl,a⟩
 |_,_,i+1,p,.cons a r,e=>by
  obtain⟨v,h1,h2⟩:=Reps.get (i:=i) (p:=p) r (by simpa using e)
  exact⟨v,by simpa using h1,h2⟩
theorem Reps.take{K:Vo}{H:Hp}:∀{vs:List V} {ps:List PV} (n:Nat),Reps K H vs ps->Reps K H (vs.take n) (ps.take n)
 |_,_,0,_=>.nil
 |_,_,_+1,.nil=>.nil
 |_,_,n+1,.cons a r=>.cons a (Reps.take n r)
theorem Reps.drop{K:Vo}{H:Hp}:∀{vs:List V} {ps:List PV} (n:Nat),Reps K H vs ps->Reps K H (vs.drop n) (ps.drop n)
 |_,_,0,r=>r
 |_,_,_+1,.nil=>.nil
 |_,_,n+1,.cons _ r=>Reps.drop n r
theorem Reps.set{K:Vo}{H:Hp}{v:V}{p:PV}(q:Rep K H v p):∀{vs:List V} {ps:List PV} (n:Nat),Reps K H vs ps->Reps K H (vs.set n v) (ps.set n p)
 |_,_,_,.nil=>.nil
 |_,_,0,.cons _ r=>.cons q r
 |_,_,n+1,.cons a r=>.cons a (Reps.set q n r)
theorem Reps.eraseIdx{K:Vo}{H:Hp}:∀{vs:List V} {ps:List PV} (n:Nat),Reps K H vs ps->Reps K H (vs.eraseIdx n) (ps.eraseIdx n)
 |_,_,_,.nil=>.nil
 |_,_,0,.cons _ r=>r
 |_,_,n+1,.cons a r=>.cons a (Reps.eraseIdx n r)
theorem Reps.reverse{K:Vo}{H:Hp}:∀{vs:List V} {ps:List PV},Reps K H vs ps->Reps K H vs.reverse ps.reverse
 |_,_,.nil=>.nil
 |_,_,.cons a r=>by rw[Hj,Hj];exact(Reps.reverse r).append (.cons a .nil)
theorem Reps.dropLast{K:Vo}{H:Hp}{vs:List V}{ps:List PV}(r:Reps K H vs ps):Reps K H vs.dropLast ps.dropLast:=by
 rw[List.dropLast_eq_take,List.dropLast_eq_take,r.length]
 exact r.take _
inductive SO where
 |lst (xs:List PV)
 |dct (kvs:List (aK×PV))
 |ins (c:Str) (fs:List (Str×PV))
 |tab (x:Str) (pos:Pos) (q:Str)
abbrev aq:=Addr->Option SO
noncomputable def xF(S:aq)(a:Addr)(o:SO):aq:=fun b=>if b=a then some o else S b
def aa{S:aq}{a:Addr}{o:SO}:xF S a o a=some o:=by unfold xF;rw[if_pos rfl]
def ao{S:aq}{a b:Addr}{o:SO}(h:b≠a):xF S a o b=S b:=by unfold xF;rw[if_neg h]
inductive xK (K:Vo) (H:Hp) {κ:Type}:List (κ×V)->List (κ×PV)->Prop
 |nil:xK K H [] []
 |cons {k:κ} {v:V} {p:PV} {vs:List (κ×V)} {ps:List (κ×PV)}:Rep K H v p->xK K H vs ps->xK K H ((k,v)::vs) ((k,p)::ps)
theorem xK.mono{K:Vo}{H H':Hp}(g:Grow K H H'){κ:Type}:∀{vs:List (κ×V)} {ps:List (κ×PV)},xK K H vs ps->xK K H' vs ps
 |_,_,.nil=>.nil
 |_,_,.cons a r=>.cons (a.mono g) (xK.mono g r)
theorem xK.length{K:Vo}{H:Hp}{κ:Type}:∀{vs:List (κ×V)} {ps:List (κ×PV)},xK K H vs ps->vs.length=ps.length
 |_,_,.nil=>rfl
 |_,_,.cons _ r=>by rw[EU,EU,xK.length r]
noncomputable def zD(K:Vo)(H:Hp)(a:Addr):SO->Prop
 | .lst xs=>∃vs,H a=some (.lst vs)/\Reps K H vs xs
 | .dct kvs=>∃kv,H a=some (.dK kv)/\xK K H kv kvs
 | .ins c fs=>∃C dx f',pL K c C/\H a=some (.ins C dx f')/\xK K H f' fs
 | .tab x pos q=>(∃c,PySem.W.tabIn K x=some (c,a))/\TabAt H a pos q
theorem zD.stay{K:Vo}{H H':Hp}(g:Grow K H H'){a:Addr}(e:H' a=H a):∀{o:SO},zD K H a o->zD K H' a o
 | .lst _,⟨vs,h,r⟩=>⟨vs,e.trans h,r.mono g⟩
 | .dct _,⟨vs,h,r⟩=>⟨vs,e.trans h,r.mono g⟩
 | .ins _ _,⟨C,dx,vs,n,h,r⟩=>⟨C,dx,vs,n,e.trans h,r.mono g⟩
 | .tab _ _ _,⟨h,r⟩=>⟨h,r.mono g.x e⟩
theorem zD.some{K:Vo}{H:Hp}{a:Addr}:∀{o:SO},zD K H a o->∃u,H a=Option.some u/\Mu u
 | .lst _,⟨_,h,_⟩=>⟨_,h,trivial⟩
 | .dct _,⟨_,h,_⟩=>⟨_,h,trivial⟩
 | .ins _ _,⟨_,_,_,_,h,_⟩=>⟨_,h,trivial⟩
 | .tab _ _ _,⟨_,_,h,_⟩=>⟨_,h,trivial⟩
def RepS(K:Vo)(H:Hp)(S:aq):Prop:=∀a o,S a=some o->zD K H a o
def RepS.free{K:Vo}{H:Hp}{S:aq}(r:RepS K H S){p:Addr}(h:H p=none):S p=none:=by
 cases e:S p with
 |none=>rfl
 |some o=>
  obtain⟨u,q,_⟩:=(r p o e).some
  rw[h]at q;cases q
def RepS.grow{K:Vo}{H H':Hp}{S:aq}(r:RepS K H S)(h:∀c o,H c=some o->H' c=some o):RepS K H' S:=fun a o e=>by
 obtain⟨u,q,_⟩:=(r a o e).some
 exact(r a o e).stay (.same h) ((h a u q).trans q.symm)
def RepS.other{K:Vo}{H:Hp}{S:aq}(r:RepS K H S){p:Addr}{o:HO}(h:H p=none):RepS K (upd H p o) S:=r.grow fun c u q=>by rw[ak (au q h)];exact q
theorem RepS.new{K:Vo}{H:Hp}{S:aq}(r:RepS K H S){p:Addr}{u:HO}{o:SO}(h:H p=none)(q:zD K (upd H p u) p o):RepS K (upd H p u) (xF S p o):=fun a x e=>by
 by_cases z:a=p
 ·subst z;rw[aa]at e;cases e;exact q
 ·rw[ao z]at e;exact(r a x e).stay (.new h) (ak z)
def RepS.put{K:Vo}{H:Hp}{S:aq}(r:RepS K H S){p:Addr}{u0 u:HO}{o:SO}(h:H p=some u0)(m:Mu u0)(q:zD K (upd H p u) p o):RepS K (upd H p u) (xF S p o):=fun a x e=>by
 by_cases z:a=p
 ·subst z;rw[aa]at e;cases e;exact q
 ·rw[ao z]at e;exact(r a x e).stay (.mut h m) (ak z)
abbrev bv:=List (Option PV)
noncomputable def lk:bv->Nat->Option PV
 |[],_=>none
 |x::_,0=>x
 |_::r,i+1=>lk r i
def i9{σ:bv}{i:Nat}{p:PV}(h:lk σ i=some p):σ[i]?=some (some p):=by
 induction σ generalizing i with
 |nil=>cases h
 |cons x r ih=>
  cases i with
  |zero=>exact Fl some h
  |succ i=>exact ih h
structure RepSt (K:Vo) (H:Hp) (σ:St) (σ3:bv):Prop where
 len:σ.length=σ3.length
 at':∀(i:Nat) (p:PV),σ3[i]?=some (some p)->∃v,σ[i]?=some (some v)/\Rep K H v p
theorem RepSt.mono{K:Vo}{H H':Hp}{σ:St}{σ3:bv}(r:RepSt K H σ σ3)(g:Grow K H H'):RepSt K H' σ σ3:=⟨r.len,fun i p e=>let ⟨v,h,q⟩:=r.at' i p e;⟨v,h,q.mono g⟩⟩
theorem RepSt.set{K:Vo}{H:Hp}{σ:St}{σ3:bv}(r:RepSt K H σ σ3){v:V}{p:PV}(q:Rep K H v p)(i:Nat):RepSt K H (σ.set i (some v)) (σ3.set i (some p)):=by
 refine⟨by rw[List.length_set,List.length_set,r.len],fun j x e=>?_⟩
 rw[List.getElem?_set]at e ⊢
 split at e
 ·rename_i hij
  rw[if_pos hij]
  subst hij
  split at e
  ·rename_i hl
   cases e
   rw[if_pos (by rw[r.len];exact hl)]
   exact⟨v,rfl,q⟩
  ·cases e
 ·rename_i hij
  rw[if_neg hij]
  exact r.at' j x e
abbrev bY:=PV->aq->Prop
abbrev de:=PV->bv->aq->Prop
abbrev aM:=bv->aq->bY->de->Prop
abbrev fP:=bv->aq->(Bool->aq->Prop)->de->Prop
abbrev xl:=bv->aq->(List PV->aq->Prop)->de->Prop
structure dm where
 nx:bv->aq->Prop
 rt:bY
 ex:de
 bk:bv->aq->Prop:=fun _ _=>False
 ct:bv->aq->Prop:=fun _ _=>False
abbrev bt:=dm->bv->aq->Prop
def Aa(X:Cx)(H:Hp)(E:de):Prop:=∀(c:Str) (ks:Vs) (ps:List PV) (σ3:bv) (S':aq) (H':Hp) (pins:Va) (σ:St) (s':Shared) (a C dx:Addr) (od:Obj) (vs:List V),E (.exc c ks ps) σ3 S'->pL X.K c C->vs.length=ks.length->
 H' dx=some (.frz od (.ext (XD dx (ks.zip vs))))->Reps X.K H' vs ps->RepS X.K H' S'->RepSt X.K H' σ σ3->Grow X.K H H'->Inv X pins σ H' s'->xj X pins H' s'.heap a C dx->X.xe (.ref a) s'
def Aa.mono{X:Cx}{H H':Hp}{E:de}(x:Aa X H E)(g:Grow X.K H H'):Aa X H' E:=fun c ks ps σ3 S' H2 pins σ s' a C dx od vs h1 h2 h3 h4 h5 h6 h7 h8 h9 DW=>x c ks ps σ3 S' H2 pins σ s' a C dx od vs h1 h2 h3 h4 h5 h6 h7 (g.trans h8) h9 DW
def Ret(K:Vo)(H:Hp)(Q3:bY)(Q:VK):Prop:=∀p S' v H',Q3 p S'->Rep K H' v p->RepS K H' S'->Grow K H H'->Q v H'
def Ret.mono{K:Vo}{H H':Hp}{Q3:bY}{Q:VK}(r:Ret K H Q3 Q)(g:Grow K H H'):Ret K H' Q3 Q:=fun p S' v H2 h1 h2 h3 h4=>r p S' v H2 h1 h2 h3 (g.trans h4)
def Nxt(K:Vo)(H:Hp)(N3:bv->aq->Prop)(N:St->Hp->Prop):Prop:=∀σ3 S' σ H',N3 σ3 S'->RepSt K H' σ σ3->RepS K H' S'->Grow K H H'->N σ H'
def Nxt.mono{K:Vo}{H H':Hp}{Q3:bv->aq->Prop}{Q:St->Hp->Prop}(r:Nxt K H Q3 Q)(g:Grow K H H'):Nxt K H' Q3 Q:=fun p S' v H2 h1 h2 h3 h4=>r p S' v H2 h1 h2 h3 (g.trans h4)
inductive LE (X:Cx) (t:aM) (σ:L2.St) (H:Hp) (Q:VK):Prop
 |mk (σ3 S Q3 E3) (rσ:RepSt X.K H σ σ3) (rS:RepS X.K H S) (h:t σ3 S Q3 E3) (xo:Aa X H E3) (k:Ret X.K H Q3 Q):LE X t σ H Q
inductive LT (X:Cx) (t:fP) (σ:L2.St) (H:Hp) (Q:Bool->Hp->Prop):Prop
 |mk (σ3 S Q3 E3) (rσ:RepSt X.K H σ σ3) (rS:RepS X.K H S) (h:t σ3 S Q3 E3) (xo:Aa X H E3) (k:∀b S' H',Q3 b S'->RepS X.K H' S'->Grow X.K H H'->Q b H'):LT X t σ H Q
inductive LS (X:Cx) (t:bt) (D:ki) (σ:L2.St) (H:Hp):Prop
 |mk (σ3 S D3) (rσ:RepSt X.K H σ σ3) (rS:RepS X.K H S) (h:t D3 σ3 S) (xo:Aa X H D3.ex) (nx:Nxt X.K H D3.nx D.nx) (rt:Ret X.K H D3.rt D.rt) (bk:Nxt X.K H D3.bk D.bk) (ct:Nxt X.K H D3.ct D.ct):LS X t D σ H
structure aX (X:Cx) (e:Expr) (t:aM):Prop where
 ok:PE X e (LE X t)
structure ll (X:Cx) (e:Expr) (t:fP):Prop where
 ok:PT X e (LT X t)
structure sr (X:Cx) (e:Expr) (t:fP):Prop where
 ok:PW X e (LT X t)
structure kz (X:Cx) (st:Stmt) (t:bt):Prop where
 ok:PS X st (LS X t)
structure fA (X:Cx) (st:List Stmt) (t:bt):Prop where
 ok:zB X st (LS X t)
def aI{X:Cx}{e:Expr}{t t':TE}(h:PE X e t)(k:∀σ H Q,t' σ H Q->t σ H Q):PE X e t':=fun pins s σ H Q I q=>h pins s σ H Q I (k σ H Q q)
def kA{X:Cx}{e:Expr}{t t':TT}(h:PT X e t)(k:∀σ H Q,t' σ H Q->t σ H Q):PT X e t':=fun pins s σ H Q I q=>h pins s σ H Q I (k σ H Q q)
def ny{X:Cx}{e:Expr}{t t':TT}(h:PW X e t)(k:∀σ H Q,t' σ H Q->t σ H Q):PW X e t':=fun wh pins s σ H Q I q=>h wh pins s σ H Q I (k σ H Q q)
def cq{X:Cx}{e:Stmt}{t t':TS}(h:PS X e t)(k:∀D σ H,t' D σ H->t D σ H):PS X e t':=fun pins s σ H D I q=>h pins s σ H D I (k D σ H q)
def lm{X:Cx}{e:List Stmt}{t t':TS}(h:zB X e t)(k:∀D σ H,t' D σ H->t D σ H):zB X e t':=fun pins s σ H D I q=>h pins s σ H D I (k D σ H q)
section
variable {X:Cx} {a b c e o:Expr} {es:List Expr} {ta tb tc te:aM} {pos:Pos}
def v3(i:Nat):aM:=fun σ S Q _=>match lk σ i with|some p=>Q p S|none=>False
def af(i:Nat){x:Str}(hN:X.N[i]?=some x:=by rfl)(hv:t6 X.env.scope x:=by first|exact Or.inl rfl|exact Or.inr (Or.inl rfl)|exact Or.inr (Or.inr rfl))(hd:(x == ("__debug__":Str))=false:=by decide)
  (hcd:(x == ("__classdict__":Str))=false:=by decide):aX X (.Name x pos) (v3 i):=
 ⟨aI (mC hN hv hd hcd) fun σ H Q ⟨σ3,S,Q3,E3,rσ,rS,h,xo,k⟩=>by
  unfold v3 at h
  split at h
  ·rename_i p e
   obtain⟨v,ev,rv⟩:=rσ.at' i p (i9 e)
   exact⟨v,ev,k p S v H h rv rS .refl⟩
  ·exact h.elim⟩
def c3(p:PV):aM:=fun _ S Q _=>Q p S
def ac{i:Int}{j:Nat}:aX X (.Constant (.int i) j pos) (c3 (.int i)):=⟨aI qQ fun σ H Q ⟨σ3,S,Q3,E3,rσ,rS,h,xo,k⟩=>k _ S _ H h (.int i) rS .refl⟩
def pM{i:Bool}{j:Nat}:aX X (.Constant (.bool i) j pos) (c3 (.bl i)):=⟨aI t8 fun σ H Q ⟨σ3,S,Q3,E3,rσ,rS,h,xo,k⟩=>k _ S _ H h (.bl i) rS .refl⟩
def av{i:Str}{j:Nat}:aX X (.Constant (.str i) j pos) (c3 (.str i)):=⟨aI qR fun σ H Q ⟨σ3,S,Q3,E3,rσ,rS,h,xo,k⟩=>k _ S _ H h (.str i) rS .refl⟩
noncomputable def ap:List aM->xl
 |[],_,S,Q,_=>Q [] S
 |t::ts,σ,S,Q,E=>t σ S (fun x S1=>ap ts σ S1 (fun xs S2=>Q (x::xs) S2) E) E
noncomputable def vF:List TE->TA
 |[]=>uu
 |t::ts=>qz t (vF ts)
structure iC (X:Cx) (es:List Expr) (ts:List aM):Prop where
 ok:PA X es (vF (ts.map (LE X)))
def jK:iC X [] []:=⟨rD⟩
def nA{ts:List aM}(hs:starEach (e::es) X.env=(false,eval e X.env)::starEach es X.env)(ha:aX X e te)(hr:iC X es ts):iC X (e::es) (te::ts):=⟨o7 ha.ok hr.ok hs⟩
theorem bz:∀{ts:List aM} {σ:L2.St} {H:Hp} {Q:List V->Hp->Prop} {σ3:bv} {S:aq} {Q3:List PV->aq->Prop} {E3:de},RepSt X.K H σ σ3->RepS X.K H S->ap ts σ3 S Q3 E3->Aa X H E3->
  (∀ps S' vs H',ps.length=ts.length->Q3 ps S'->Reps X.K H' vs ps->RepS X.K H' S'->Grow X.K H H'->Q vs H')->vF (ts.map (LE X)) σ H Q
 |[],σ,H,Q,σ3,S,Q3,E3,rσ,rS,h,xo,k=>k [] S [] H rfl h .nil rS .refl
 |t::ts,σ,H,Q,σ3,S,Q3,E3,rσ,rS,h,xo,k=>
  ⟨σ3,S,_,E3,rσ,rS,h,xo,fun p S1 v H1 h1 rv xS g1=>bz (rσ.mono g1) xS h1 (xo.mono g1) fun ps S2 vs H2 hl h2 A_ yN g2=>k (p::ps) S2 (v::vs) H2 (by rw[EU,EU,hl]) h2 (.cons (rv.mono g2) A_) yN (g1.trans g2)⟩
def az(ts:List aM):aM:=fun σ S Q E=>ap ts σ S (fun xs S1=>Q (.tup xs) S1) E
def aH{ts:List aM}{x1:Nat}(h:iC X es ts)(hn:ts.length<=1000:=by exact Hr rfl):aX X (.Tuple es x1 pos) (az ts):=
 ⟨aI (rE h.ok) fun σ H Q ⟨σ3,S,Q3,E3,rσ,rS,hq,xo,k⟩=>bz rσ rS hq xo fun ps S' vs H' hl q rv yK g=>
  ⟨GU (cy (by rw[rv.length,hl];exact hn)),fun p hp=>k _ S' _ _ q (.tup (SqT.of am) (rv.mono (.new hp))) (yK.other hp) (g.trans (.new hp))⟩⟩
def eV(ts:List aM):aM:=fun σ S Q E=>ap ts σ S (fun xs S1=>∀p,S1 p=none->Q (.ref p) (xF S1 p (.lst xs))) E
def fQ{ts:List aM}(h:iC X es ts)(hn:ts.length<=1000:=by exact Hr rfl):aX X (.List es pos) (eV ts):=
 ⟨aI (rF h.ok) fun σ H Q ⟨σ3,S,Q3,E3,rσ,rS,hq,xo,k⟩=>bz rσ rS hq xo fun ps S' vs H' hl q rv yK g=>
  ⟨GU (cy (by rw[rv.length,hl];exact hn)),fun p hp=>k _ _ _ _ (q p (yK.free hp)) (.ref p) (yK.new hp ⟨vs,am,rv.mono (.new hp)⟩) (g.trans (.new hp))⟩⟩
abbrev R3:=PV->PV->aq->bY->Prop
inductive LR (X:Cx) (r:R3) (x y:V) (H:Hp) (Q:VK):Prop
 |mk (px py S Q3) (rx:Rep X.K H x px) (ry:Rep X.K H y py) (rS:RepS X.K H S) (h:r px py S Q3) (k:Ret X.K H Q3 Q):LR X r x y H Q
structure fR (X:Cx) (f:Value->Value->Sem Value) (r:R3):Prop where
 ok:ft X f (LR X r)
def aj(r:R3)(ta tb:aM):aM:=fun σ S Q E=>ta σ S (fun x S1=>tb σ S1 (fun y S2=>r x y S2 Q) E) E
def gj{r:R3}{σ:L2.St}{H:Hp}{Q:VK}:LE X (aj r ta tb) σ H Q->ug (LR X r) (LE X ta) (LE X tb) σ H Q:=fun⟨σ3,S,Q3,E3,rσ,rS,h,xo,k⟩=>
 ⟨σ3,S,_,E3,rσ,rS,h,xo,fun x S1 v H1 h1 rx xS g1=>⟨σ3,S1,_,E3,rσ.mono g1,xS,h1,xo.mono g1,fun y S2 u H2 h2 ry yN g2=>⟨x,y,S2,Q3,rx.mono g2,ry,yN,h2,k.mono (g1.trans g2)⟩⟩⟩
def aA{op:Operator}{r:R3}(ho:fR X (binaryOp op) r)(ha:aX X a ta)(hb:aX X b tb):aX X (.BinOp a op b pos) (aj r ta tb):=⟨aI (uh ho.ok ha.ok hb.ok) fun _ _ _=>gj⟩
def uM{op:CmpOp}{r:R3}(ho:fR X (compareOp op) r)(ha:aX X a ta)(hb:aX X b tb)(hm:behindInMarks op b=false):aX X (.Compare a [op] [b] pos) (aj r ta tb):=⟨aI (o0 ho.ok ha.ok hb.ok hm) fun _ _ _=>gj⟩
def aZ(t:aM):fP:=fun σ S Q E=>t σ S (fun v S'=>match v with | .bl k=>Q k S'|_=>False) E
def nB{σ:L2.St}{H:Hp}{Q:Bool->Hp->Prop}:LT X (aZ te) σ H Q->LE X te σ H (fun x H'=>∃k,x = .bl k/\Q k H'):=fun⟨σ3,S,Q3,E3,rσ,rS,h,xo,k⟩=>
 ⟨σ3,S,_,E3,rσ,rS,h,xo,fun p S' v H' h1 rv yK g=>by
  cases p with
  |bl z=>cases rv;exact⟨z,rfl,k z S' H' h1 yK g⟩
  |_=>exact h1.elim⟩
def bc{op:CmpOp}{r:R3}(ho:fR X (compareOp op) r)(ha:aX X a ta)(hb:aX X b tb)(hm:behindInMarks op b=false):ll X (.Compare a [op] [b] pos) (aZ (aj r ta tb)):=
 ⟨kA (o6 ho.ok ha.ok hb.ok hm) fun σ H Q ⟨σ3,S,Q3,E3,rσ,rS,h,xo,k⟩=>gj ⟨σ3,S,_,E3,rσ,rS,h,xo,fun p S' v H' h1 rv yK g=>by
  cases p with
  |bl z=>cases rv;exact⟨z,rfl,k z S' H' h1 yK g⟩
  |_=>exact h1.elim⟩⟩
def uN(h:aX X e te)(he:∀whole,isTrue e X.env whole=(do let v <-whole;standAt e.pos;holding [v] (truthy v)):=by intro _;rfl):ll X e (aZ te):=
 ⟨kA (qS h.ok he) fun σ H Q q=>nB q⟩
end
section
variable {X:Cx} {a b c:Expr} {rest:List Expr} {ta tb te:aM} {tA tB:fP} {pos:Pos}
def hU(t u:fP):fP:=fun σ S Q E=>t σ S (fun c S1=>if c=true then u σ S1 Q E else Q false S1) E
def hV(t u:fP):fP:=fun σ S Q E=>t σ S (fun c S1=>if c=true then Q true S1 else u σ S1 Q E) E
def nC(t:fP):fP:=fun σ S Q E=>t σ S (fun c S1=>Q (!c) S1) E
def kB(ha:ll X a tA):sr X (.BoolOp .And [a] pos) tA:=⟨oP ha.ok⟩
def eW(ha:ll X a tA):sr X (.BoolOp .Or [a] pos) tA:=⟨qT ha.ok⟩
def nE(ha:ll X a tA)(hb:sr X (.BoolOp .And (b::rest) pos) tB):sr X (.BoolOp .And (a::b::rest) pos) (hU tA tB):=
 ⟨ny (qU ha.ok hb.ok) fun σ H Q ⟨σ3,S,Q3,E3,rσ,rS,h,xo,k⟩=>⟨σ3,S,_,E3,rσ,rS,h,xo,fun c S1 H1 h1 xS g1=>by
  cases c with
  |true=>rw[if_pos rfl]at h1 ⊢;exact⟨σ3,S1,Q3,E3,rσ.mono g1,xS,h1,xo.mono g1,fun b S2 H2 h2 yN g2=>k b S2 H2 h2 yN (g1.trans g2)⟩
  |false=>rw[if_neg (by decide)]at h1 ⊢;exact k false S1 H1 h1 xS g1⟩⟩
def hW(ha:ll X a tA)(hb:sr X (.BoolOp .Or (b::rest) pos) tB):sr X (.BoolOp .Or (a::b::rest) pos) (hV tA tB):=
 ⟨ny (t9 ha.ok hb.ok) fun σ H Q ⟨σ3,S,Q3,E3,rσ,rS,h,xo,k⟩=>⟨σ3,S,_,E3,rσ,rS,h,xo,fun c S1 H1 h1 xS g1=>by
  cases c with
  |true=>rw[if_pos rfl]at h1 ⊢;exact k true S1 H1 h1 xS g1
  |false=>rw[if_neg (by decide)]at h1 ⊢;exact⟨σ3,S1,Q3,E3,rσ.mono g1,xS,h1,xo.mono g1,fun b S2 H2 h2 yN g2=>k b S2 H2 h2 yN (g1.trans g2)⟩⟩⟩
def my(h:sr X a tA):ll X a tA:=⟨h.ok.pt⟩
def uO(ha:ll X a tA):ll X (.UnaryOp .Not a pos) (nC tA):=
 ⟨kA (qV ha.ok) fun σ H Q ⟨σ3,S,Q3,E3,rσ,rS,h,xo,k⟩=>⟨σ3,S,_,E3,rσ,rS,h,xo,fun c S1 H1 h1 xS g1=>k (!c) S1 H1 h1 xS g1⟩⟩
abbrev uP:=PV->aq->bY->Prop
noncomputable def xm(X:Cx)(r:uP):V->Hp->VK->Prop:=fun x H Q=>∃px S Q3,Rep X.K H x px/\RepS X.K H S/\r px S Q3/\Ret X.K H Q3 Q
structure wW (X:Cx) (f:Value->Sem Value) (r:uP):Prop where
 ok:vy X f (xm X r)
def lp(r:uP)(ta:aM):aM:=fun σ S Q E=>ta σ S (fun x S1=>r x S1 Q) E
def kC{op:UnaryOp}{r:uP}(ho:wW X (unaryOp op) r)(ha:aX X a ta):aX X (.UnaryOp op a pos) (lp r ta):=
 ⟨aI (uk ho.ok ha.ok) fun σ H Q ⟨σ3,S,Q3,E3,rσ,rS,h,xo,k⟩=>⟨σ3,S,_,E3,rσ,rS,h,xo,fun p S1 v H1 h1 rv xS g1=>⟨p,S1,Q3,rv,xS,h1,k.mono g1⟩⟩⟩
noncomputable def eX:uP:=fun x S Q=>match x with | .int i=>Q (.int (-i)) S|_=>False
def eF:wW X (unaryOp .USub) eX:=⟨fun pins s σ H x v Q I rx ⟨px,S,Q3,r1,rS,h,k⟩=>by
 cases px with
 |int i=>cases r1;exact rC pins s σ H _ v Q I rx ⟨i,rfl,k _ S _ H h (.int _) rS .refl⟩
 |_=>exact h.elim⟩
end
section
variable {X:Cx}
def cA(g:Int->Int->PV):R3:=fun x y S Q=>match x,y with | .int i,.int j=>Q (g i j) S|_,_=>False
def eg(C:Int->Int->Prop)(g:Int->Int->PV):R3:=fun x y S Q=>match x,y with | .int i,.int j=>C i j/\Q (g i j) S|_,_=>False
def ss{f:Value->Value->Sem Value}{g:Int->Int->Int}(h:ft X f (oY fun i j=>.int (g i j))):fR X f (cA fun i j=>.int (g i j)):=⟨fun pins s σ H x y v u Q I rx ry ⟨px,py,S,Q3,r1,r2,rS,q,k⟩=>by
 cases px with
 |int i=>
  cases py with
  |int j=>cases r1;cases r2;exact h pins s σ H _ _ v u Q I rx ry ⟨i,j,rfl,rfl,k _ S _ H q (.int _) rS .refl⟩
  |_=>exact q.elim
 |_=>exact q.elim⟩
def i_{f:Value->Value->Sem Value}{g:Int->Int->Bool}(h:ft X f (oY fun i j=>.bl (g i j))):fR X f (cA fun i j=>.bl (g i j)):=⟨fun pins s σ H x y v u Q I rx ry ⟨px,py,S,Q3,r1,r2,rS,q,k⟩=>by
 cases px with
 |int i=>
  cases py with
  |int j=>cases r1;cases r2;exact h pins s σ H _ _ v u Q I rx ry ⟨i,j,rfl,rfl,k _ S _ H q (.bl _) rS .refl⟩
  |_=>exact q.elim
 |_=>exact q.elim⟩
def ja{f:Value->Value->Sem Value}{C:Int->Int->Prop}{g:Int->Int->Int}(h:ft X f (rI C fun i j=>.int (g i j))):fR X f (eg C fun i j=>.int (g i j)):=⟨fun pins s σ H x y v u Q I rx ry ⟨px,py,S,Q3,r1,r2,rS,q,k⟩=>by
 cases px with
 |int i=>
  cases py with
  |int j=>cases r1;cases r2;exact h pins s σ H _ _ v u Q I rx ry ⟨i,j,rfl,rfl,q.1,k _ S _ H q.2 (.int _) rS .refl⟩
  |_=>exact q.elim
 |_=>exact q.elim⟩
def jL(i j:Int):Prop:=j≠0/\j.natAbs < 2 ^ 8000
def kD{n:Nat}(h:n < 2 ^ 8000):n.log2 < 9000:=by
 by_cases z:n=0
 ·rw[z];decide +kernel
 ·exact Gv ((Nat.log2_lt z).mpr h) (by decide)
def su:fR X (binaryOp .Sub) (cA fun i j=>.int (i - j)):=ss rA
def sv:fR X (binaryOp .Mod) (eg (fun _ j=>j≠0) fun i j=>.int (i.fmod j)):=ja oZ
def pN:fR X (binaryOp .FloorDiv) (eg jL fun i j=>.int (i.fdiv j)):=ja (vz fun _ _ _ _ _ _ _ hc q=>PyProof.Rows.floordiv_int hc.1 q (.inl (PyProof.noPylong_of_log2 (kD hc.2))))
def sx:fR X (binaryOp .Pow) (eg rm fun i j=>.int (i ^ j.toNat)):=ja rB
def uQ:fR X (compareOp .Lt) (cA fun i j=>.bl (decide (i < j))):=i_ uo
def uR:fR X (compareOp .Gt) (cA fun i j=>.bl (decide (j < i))):=i_ uq
def uS:fR X (compareOp .GtE) (cA fun i j=>.bl (decide (j<=i))):=i_ ur
end
end L3
namespace L2
open PySem PySem.Spec PyProof.Rows
section
variable {X:Cx}
def uT(K:Vo):R2:=fun x y H Q=>∃a b xs ys,x = .ref a/\y = .ref b/\SqT K H a xs/\SqT K H b ys/\xs.length+ys.length<=sizeLine/\∀r H',(∀c o,H c=some o->H' c=some o)->SqT K H' r (xs++ys)->Q (.ref r) H'
def pO:ft X (binaryOp .Add) (uT X.K):=by
 intro pins s σ H x y v u Q I rx ry h
 obtain⟨a,b,xs,ys,rfl,rfl,ha,hb,hz,q⟩:=h
 by_cases hx:xs=[]
 ·subst hx
  cases rx
  cases ry
  obtain⟨its,r1,p1,_⟩:=I.tuple ha
  obtain⟨its2,r2,p2,_⟩:=I.tuple hb
  cases r1
  obtain⟨⟨cls,dd,data,sl⟩,ho,hc,n,hd⟩:=id p1
  obtain⟨⟨BU,dd2,data2,sl2⟩,ho2,hc2,n2,hd2⟩:=id p2
  simp only at hc hd hc2 hd2
  subst hc hd hc2 hd2
  exact concat_meets ⟨_,ho,rfl⟩ ⟨_,ho2,rfl⟩ noFill_tuple_add seq_tuple_add Hi G7 (G0 _ _)
   (tuple_addW0 a b _ its2.toArray n n2 dd dd2 sl sl2 rfl) ⟨ho,ho2,⟨.ref b,H,I,rfl,q b H (fun _ _ e=>e) hb⟩⟩
 ·exact pf pins s σ H _ _ v u Q I rx ry ⟨a,b,xs,ys,rfl,rfl,ha,hb,hx,hz,fun e=>q a H (fun _ _ e=>e) (by rw[e,Gn];exact ha),
   fun _ p hp=>q p _ (fun c o e=>by rw[ak (au e hp)];exact e) (SqT.of am)⟩
end
end L2
namespace L3
open PySem L2
section
variable {X:Cx}
def aJ:R3:=fun x y S Q=>match x,y with
 | .int i,.int j=>Q (.int (i+j)) S
 | .str i,.str j=>i.length+j.length<=sizeLine/\Q (.str (i++j)) S
 | .tup i,.tup j=>i.length+j.length<=sizeLine/\Q (.tup (i++j)) S
 | .ref i,.ref j=>match S i,S j with
  |some (.lst xs),some (.lst ys)=>xs.length+ys.length<=sizeLine/\∀p,S p=none->Q (.ref p) (xF S p (.lst (xs++ys)))
  |_,_=>False
 |_,_=>False
def aB:fR X (binaryOp .Add) aJ:=⟨fun pins s σ H x y v u Q I rx ry ⟨px,py,S,Q3,r1,r2,rS,q,k⟩=>by
 unfold aJ at q
 split at q
 ·cases r1;cases r2
  exact rq pins s σ H _ _ v u Q I rx ry ⟨_,_,rfl,rfl,k _ S _ H q (.int _) rS .refl⟩
 ·cases r1;cases r2
  exact km pins s σ H _ _ v u Q I rx ry ⟨_,_,rfl,rfl,q.1,k _ S _ H q.2 (.str _) rS .refl⟩
 ·cases r1 with
  |tup h1 s1=>
   cases r2 with
   |tup h2 s2=>
    refine pO pins s σ H _ _ v u Q I rx ry ⟨_,_,_,_,rfl,rfl,h1,h2,by rw[s1.length,s2.length];exact q.1,fun r H' hs hr=>?_⟩
    exact k _ S _ H' q.2 (.tup hr ((s1.mono (.same hs)).append (s2.mono (.same hs)))) (rS.grow hs) (.same hs)
 ·cases r1;cases r2
  split at q
  ·rename_i i j xs ys e1 e2
   obtain⟨vs,h1,s1⟩:=rS _ _ e1
   obtain⟨us,h2,s2⟩:=rS _ _ e2
   exact rP pins s σ H _ _ v u Q I rx ry ⟨_,_,_,_,rfl,rfl,h1,h2,by rw[s1.length,s2.length];exact q.1,fun p hp=>k _ _ _ _ (q.2 p (rS.free hp)) (.ref p) (rS.new hp ⟨_,am,(s1.append s2).mono (.new hp)⟩) (.new hp)⟩
  ·exact q.elim
 ·exact q.elim⟩
end
mutual
inductive Dat (S:aq):PV->PyData->Prop
 |non:Dat S .non .none
 |bl (b:Bool):Dat S (.bl b) (.bool b)
 |int (i:Int):Dat S (.int i) (.int i)
 |str (x:Str):Dat S (.str x) (.str x)
 |tup {ps:List PV} {ds:List PyData}:yO S ps ds->Dat S (.tup ps) (.tuple ds)
 |cl {ps:List PV} {ds:List PyData}:yO S ps ds->Dat S (.cl ps) (.list ds)
 |ref {a:Addr} {ps:List PV} {ds:List PyData}:S a=some (.lst ps)->yO S ps ds->Dat S (.ref a) (.list ds)
inductive yO (S:aq):List PV->List PyData->Prop
 |nil:yO S [] []
 |cons {p:PV} {d:PyData} {ps:List PV} {ds:List PyData}:Dat S p d->yO S ps ds->yO S (p::ps) (d::ds)
end
section
variable {X:Cx} {pins:Va} {σ:L2.St} {H:Hp} {s:Shared} {S:aq}
def kE(I:Inv X pins σ H s)(rS:RepS X.K H S):(∀{p:PV} {d:PyData},Dat S p d->∀{v:V} {u:Value},Rep X.K H v p->RelV v u->∃as,Reads s.heap u d as)/\∀{ps:List PV} {ds:List PyData},yO S ps ds->∀{vs:List V} {us:Vv},Reps X.K H vs ps->Vals vs us->∃as,ReadsAll s.heap us ds as:=by
 have one:=@Dat.rec S (motive_1:=fun p d _=>∀{v:V} {u:Value},Rep X.K H v p->RelV v u->∃as,Reads s.heap u d as) (motive_2:=fun ps ds _=>∀{vs:List V} {us:Vv},Reps X.K H vs ps->Vals vs us->∃as,ReadsAll s.heap us ds as)
 have two:=@yO.rec S (motive_1:=fun p d _=>∀{v:V} {u:Value},Rep X.K H v p->RelV v u->∃as,Reads s.heap u d as) (motive_2:=fun ps ds _=>∀{vs:List V} {us:Vv},Reps X.K H vs ps->Vals vs us->∃as,ReadsAll s.heap us ds as)
 have c1:∀{v:V} {u:Value},Rep X.K H v .non->RelV v u->∃as,Reads s.heap u .none as:=fun h r=>by cases h;cases r;exact⟨_,.none⟩
 have c2:∀(b:Bool) {v:V} {u:Value},Rep X.K H v (.bl b)->RelV v u->∃as,Reads s.heap u (.bool b) as:=fun b _ _ h r=>by cases h;cases r;exact⟨_,.bool b⟩
 have c3:∀(i:Int) {v:V} {u:Value},Rep X.K H v (.int i)->RelV v u->∃as,Reads s.heap u (.int i) as:=fun i _ _ h r=>by cases h;obtain⟨t,rfl⟩:=r;exact⟨_,.int i t⟩
 have c4:∀(x:Str) {v:V} {u:Value},Rep X.K H v (.str x)->RelV v u->∃as,Reads s.heap u (.str x) as:=fun x _ _ h r=>by cases h;obtain⟨t,rfl⟩:=r;exact⟨_,.str x t⟩
 have c5:∀{ps:List PV} {ds:List PyData},yO S ps ds->(∀{vs:List V} {us:Vv},Reps X.K H vs ps->Vals vs us->∃as,ReadsAll s.heap us ds as)->∀{v:V} {u:Value},Rep X.K H v (.tup ps)->RelV v u->∃as,Reads s.heap u (.tuple ds) as:=fun _ ih _ _ h r=>by
  cases h with
  |tup h rs=>
   cases r
   obtain⟨its,rv,⟨o,ho,hc,n,hd⟩,hz⟩:=I.tuple h
   obtain⟨as,q⟩:=ih rs rv
   exact⟨as,.tuple ho hc hd (by simpa using q)⟩
 have c6:∀{ps:List PV} {ds:List PyData},yO S ps ds->(∀{vs:List V} {us:Vv},Reps X.K H vs ps->Vals vs us->∃as,ReadsAll s.heap us ds as)->∀{v:V} {u:Value},Rep X.K H v (.cl ps)->RelV v u->∃as,Reads s.heap u (.list ds) as:=fun _ ih _ _ h r=>by
  cases h with
  |cl h rs=>
   cases r
   obtain⟨its,rv,⟨o,n,ho,hc,_,hd⟩,hz⟩:=I.list h.sq
   obtain⟨as,q⟩:=ih rs rv
   exact⟨_,.list ho hc hd (by simpa using q)⟩
 have c7:∀{a:Addr} {ps:List PV} {ds:List PyData},S a=some (.lst ps)->yO S ps ds->(∀{vs:List V} {us:Vv},Reps X.K H vs ps->Vals vs us->∃as,ReadsAll s.heap us ds as)->∀{v:V} {u:Value},Rep X.K H v (.ref a)->RelV v u->∃as,Reads s.heap u (.list ds) as:=fun e _ ih _ _ h r=>by
  cases h
  cases r
  obtain⟨vs,hv,rs⟩:=rS _ _ e
  obtain⟨its,rv,⟨o,n,ho,hc,_,hd⟩,hz⟩:=I.list (SqL.of hv)
  obtain⟨as,q⟩:=ih rs rv
  exact⟨_,.list ho hc hd (by simpa using q)⟩
 have c8:∀{vs:List V} {us:Vv},Reps X.K H vs []->Vals vs us->∃as,ReadsAll s.heap us [] as:=fun h r=>by cases h;cases r;exact⟨_,.nil⟩
 have c9:∀{p:PV} {d:PyData} {ps:List PV} {ds:List PyData},Dat S p d->yO S ps ds->(∀{v:V} {u:Value},Rep X.K H v p->RelV v u->∃as,Reads s.heap u d as)->(∀{vs:List V} {us:Vv},Reps X.K H vs ps->Vals vs us->∃as,ReadsAll s.heap us ds as)->∀{vs:List V} {us:Vv},Reps X.K H vs (p::ps)->Vals vs us->∃as,ReadsAll s.heap us (d::ds) as:=fun _ _ i1 i2 _ _ h r=>by
  cases h with
  |cons a rs=>
   cases r with
   |cons r1 r2=>
    obtain⟨as,q⟩:=i1 a r1
    obtain⟨bs,q2⟩:=i2 rs r2
    exact⟨_,.cons q q2⟩
 exact⟨fun h=>one c1 c2 c3 c4 c5 c6 c7 c8 c9 h,fun h=>two c1 c2 c3 c4 c5 c6 c7 c8 c9 h⟩
def Dat.reads(I:Inv X pins σ H s)(rS:RepS X.K H S){p:PV}{d:PyData}{v:V}{u:Value}(h:Dat S p d)(r:Rep X.K H v p)(r2:RelV v u):∃as,Reads s.heap u d as:=(kE I rS).1 h r r2
end
section
variable {X:Cx}
def bR(neg:Bool):R3:=fun x y S Q=>match x,y with
 | .int i,.int j=>Q (.bl (neg != decide (i=j))) S
 | .str i,.str j=>Q (.bl (neg != decide (i=j))) S
 | .bl i,.bl j=>Q (.bl (neg != decide (i=j))) S
 |x,y=>∃d d',Dat S x d/\Dat S y d'/\d.canLay0=true/\d'.canLay0=true/\min d.depth d'.depth<=150/\Q (.bl (neg != PyData.eqv d d')) S
def qF(hu:X.A.units+150 < cLine):fR X (compareOp .Eq) (bR false):=⟨fun pins s σ H x y v u Q I rx ry ⟨px,py,S,Q3,r1,r2,rS,q,k⟩=>by
 unfold bR at q
 split at q
 ·cases r1;cases r2
  exact mI pins s σ H _ _ v u Q I rx ry ⟨rfl,k _ S _ H (by simpa using q) (.bl _) rS .refl⟩
 ·cases r1;cases r2
  exact mI pins s σ H _ _ v u Q I rx ry ⟨rfl,k _ S _ H (by simpa using q) (.bl _) rS .refl⟩
 ·cases r1;cases r2
  exact mI pins s σ H _ _ v u Q I rx ry ⟨rfl,k _ S _ H (by simpa using q) (.bl _) rS .refl⟩
 ·obtain⟨d,d',h1,h2,c1,c2,hd,q⟩:=q
  obtain⟨as,a1⟩:=h1.reads I rS r1 rx
  obtain⟨bs,a2⟩:=h2.reads I rS r2 ry
  exact SeqAt.compareEq_reads a1 a2 c1 c2 (by omega) ⟨.bl _,H,I,rfl,k _ S _ H (by simpa using q) (.bl _) rS .refl⟩⟩
def uU(hu:X.A.units+150 < cLine):fR X (compareOp .NotEq) (bR true):=⟨fun pins s σ H x y v u Q I rx ry ⟨px,py,S,Q3,r1,r2,rS,q,k⟩=>by
 unfold bR at q
 split at q
 ·cases r1;cases r2
  exact mJ pins s σ H _ _ v u Q I rx ry ⟨rfl,k _ S _ H (by simpa using q) (.bl _) rS .refl⟩
 ·cases r1;cases r2
  exact mJ pins s σ H _ _ v u Q I rx ry ⟨rfl,k _ S _ H (by simpa using q) (.bl _) rS .refl⟩
 ·cases r1;cases r2
  exact mJ pins s σ H _ _ v u Q I rx ry ⟨rfl,k _ S _ H (by simpa using q) (.bl _) rS .refl⟩
 ·obtain⟨d,d',h1,h2,c1,c2,hd,q⟩:=q
  obtain⟨as,a1⟩:=h1.reads I rS r1 rx
  obtain⟨bs,a2⟩:=h2.reads I rS r2 ry
  exact SeqAt.compareNe_reads a1 a2 c1 c2 (by omega) ⟨.bl _,H,I,rfl,k _ S _ H (by simpa using q) (.bl _) rS .refl⟩⟩
noncomputable def eY(S:aq):PV->Option (List PV)
 | .tup xs=>some xs
 | .cl xs=>some xs
 | .ref a=>match S a with|some (.lst xs)=>some xs|_=>none
 |_=>none
def nF{H:Hp}{S:aq}{v:V}{p:PV}{xs:List PV}(rS:RepS X.K H S)(r:Rep X.K H v p)(h:eY S p=some xs):∃a vs,v = .ref a/\(SqL X.K H a vs\/SqT X.K H a vs)/\Reps X.K H vs xs:=by
 unfold eY at h
 split at h
 ·cases h;cases r with|tup h1 rs=>exact⟨_,_,rfl,.inr h1,rs⟩
 ·cases h;cases r with|cl h1 rs=>exact⟨_,_,rfl,.inl h1.sq,rs⟩
 ·cases r
  split at h
  ·rename_i e
   cases h
   obtain⟨vs,hv,rs⟩:=rS _ _ e
   exact⟨_,vs,rfl,.inl (SqL.of hv),rs⟩
  ·cases h
 ·cases h
noncomputable def fS(x:PyData)(xs:List PyData):Bool:=xs.any fun y=>PyData.eqv y x
def jM(neg:Bool):R3:=fun x y S Q=>match x,y with
 | .str i,.str j=>Q (.bl (neg != !(Builtin.Str.occurrences j i 0 j.length 1).isEmpty)) S
 |x,y=>match y with
  | .ref a=>match S a with
   |some (.lst xs)=>∃d ds,Dat S x d/\yO S xs ds/\d.canLay0=true/\PyData.canLayAll0 ds=true/\d.depth<=150/\Q (.bl (neg != fS d ds)) S
   |some (.dct kvs)=>match x with
    | .str z=>Q (.bl (neg != (kvs.any fun kv=>decide (kv.1=Sum.inr z)))) S
    | .int z=>Q (.bl (neg != (kvs.any fun kv=>decide (kv.1=Sum.inl z)))) S
    |_=>False
   |_=>False
  | .tup xs=>∃d ds,Dat S x d/\yO S xs ds/\d.canLay0=true/\PyData.canLayAll0 ds=true/\d.depth<=150/\Q (.bl (neg != fS d ds)) S
  |_=>False
theorem xK.any{K:Vo}{H:Hp}{κ:Type} [DecidableEq κ](k:κ):∀{vs:List (κ×V)} {ps:List (κ×PV)},xK K H vs ps->(d3 vs k).isSome=ps.any fun kv=>decide (kv.1=k)
 |_,_,.nil=>rfl
 |_,_,.cons (k:=k') a r=>by
  rw[HP,<-xK.any k r]
  by_cases e:k'=k
  ·rw[yv e];simp[e]
  ·rw[ya e];simp[e]
def lq(hu:X.A.units+160 < cLine):fR X (compareOp .In) (jM false):=⟨fun pins s σ H x y v u Q I rx ry ⟨px,py,S,Q3,r1,r2,rS,q,k⟩=>by
 unfold jM at q
 split at q
 ·cases r1;cases r2
  exact lN pins s σ H _ _ v u Q I rx ry ⟨_,_,rfl,rfl,k _ S _ H (by simpa using q) (.bl _) rS .refl⟩
 ·split at q
  ·cases r2
   cases ry
   split at q
   ·rename_i xs e
    obtain⟨d,ds,h1,h2,c1,c2,hd,q⟩:=q
    obtain⟨as,a1⟩:=h1.reads I rS r1 rx
    obtain⟨bs,a2⟩:=(Dat.ref e h2).reads I rS (.ref _) (rfl:RelV (.ref _) (.ref _))
    exact SeqAt.in_list_reads a2 a1 c2 c1 (by omega) ⟨.bl _,H,I,rfl,k _ S _ H (by simpa [fS]using q) (.bl _) rS .refl⟩
   ·rename_i kvs e
    obtain⟨kv,hv,rk⟩:=rS _ _ e
    split at q
    ·cases r1
     exact uF (by omega) I (DGet.k (k:=Sum.inr _) hv) rx fun s3 I3=>⟨.bl _,H,I3,rfl,k _ S _ H (by rw[rk.any];simpa using q) (.bl _) rS .refl⟩
    ·cases r1
     exact uF (by omega) I (DGet.k (k:=Sum.inl _) hv) rx fun s3 I3=>⟨.bl _,H,I3,rfl,k _ S _ H (by rw[rk.any];simpa using q) (.bl _) rS .refl⟩
    ·exact q.elim
   ·exact q.elim
  ·rename_i xs
   obtain⟨d,ds,h1,h2,c1,c2,hd,q⟩:=q
   obtain⟨as,a1⟩:=h1.reads I rS r1 rx
   obtain⟨bs,a2⟩:=(Dat.tup h2).reads I rS r2 ry
   exact SeqAt.in_tuple_reads a2 a1 c2 c1 (by omega) ⟨.bl _,H,I,rfl,k _ S _ H (by simpa [fS]using q) (.bl _) rS .refl⟩
  ·exact q.elim⟩
def gD(hu:X.A.units+160 < cLine):fR X (compareOp .NotIn) (jM true):=⟨fun pins s σ H x y v u Q I rx ry ⟨px,py,S,Q3,r1,r2,rS,q,k⟩=>by
 unfold jM at q
 split at q
 ·cases r1;cases r2
  exact iW pins s σ H _ _ v u Q I rx ry ⟨_,_,rfl,rfl,k _ S _ H (by simpa using q) (.bl _) rS .refl⟩
 ·split at q
  ·cases r2
   cases ry
   split at q
   ·rename_i xs e
    obtain⟨d,ds,h1,h2,c1,c2,hd,q⟩:=q
    obtain⟨as,a1⟩:=h1.reads I rS r1 rx
    obtain⟨bs,a2⟩:=(Dat.ref e h2).reads I rS (.ref _) (rfl:RelV (.ref _) (.ref _))
    exact SeqAt.notIn_list_reads a2 a1 c2 c1 (by omega) ⟨.bl _,H,I,rfl,k _ S _ H (by simpa [fS]using q) (.bl _) rS .refl⟩
   ·rename_i kvs e
    obtain⟨kv,hv,rk⟩:=rS _ _ e
    split at q
    ·cases r1
     exact lg (by omega) I (DGet.k (k:=Sum.inr _) hv) rx fun s3 I3=>⟨.bl _,H,I3,rfl,k _ S _ H (by rw[rk.any];simpa using q) (.bl _) rS .refl⟩
    ·cases r1
     exact lg (by omega) I (DGet.k (k:=Sum.inl _) hv) rx fun s3 I3=>⟨.bl _,H,I3,rfl,k _ S _ H (by rw[rk.any];simpa using q) (.bl _) rS .refl⟩
    ·exact q.elim
   ·exact q.elim
  ·rename_i xs
   obtain⟨d,ds,h1,h2,c1,c2,hd,q⟩:=q
   obtain⟨as,a1⟩:=h1.reads I rS r1 rx
   obtain⟨bs,a2⟩:=(Dat.tup h2).reads I rS r2 ry
   exact SeqAt.notIn_tuple_reads a2 a1 c2 c1 (by omega) ⟨.bl _,H,I,rfl,k _ S _ H (by simpa [fS]using q) (.bl _) rS .refl⟩
  ·exact q.elim⟩
end
end L3
namespace HT
open PySem PySem.Spec PyProof.Rows
section
variable {prog:Program} {w:World} {A:Around} {E:Vq} {s:Shared}
def eZ{t sl:Addr}{items:Vw}{vl vu:Value}{lo hi:Option Int}{Q:Vq}(ht:IsTup s.heap t items)(hs:s.heap.IsSliceOf sl vl vu .none)(pl:IsPart vl lo)(pu:IsPart vu hi)
  (hw:xO items.size 0 lo=0/\xO items.size items.size hi=items.size)
  (h:Q (.ref t) s):wpAny (model prog w) A (getItem (.ref t) (.ref sl)) Q E s:=by
 obtain⟨os,hos,hcs,hds⟩:=id hs
 have BV:s.TypeIs (.ref sl) "slice":=⟨os,hos,hcs⟩
 unfold getItem
 try with_reducible refine FI ?_
 first|refine EE (EI ?_)|skip
 refine EE (wpAny_sequenceKey ht.typeIs (by decide) ?_)
 refine EE (Fg (name:=Str.ofString "__getitem__") ht.typeIs Fc
  (F0 Fc ht.typeIs entry_tuple_getitem ?_ (args_tuple_getitem _ _)))
 show wpAny _ _ (Builtin.Tuple.tupleItemsOf (.ref t) >>= _) _ _ s
 refine EE (tupleItemsOf_ ht ?_)
 refine EE (GD BV ?_)
 rw[if_pos (by decide)]
 refine EE (cx hs pl pu ?_)
 have hyes:(((xO items.size 0 lo:Nat):Int) == 0&&(1:Int) == 1&&(xO items.size items.size hi - xO items.size 0 lo) == items.size)=true:=by
  rw[hw.1,hw.2];simp
 show wpAny _ _ (if (((xO items.size 0 lo:Nat):Int) == 0&&(1:Int) == 1&&(xO items.size items.size hi - xO items.size 0 lo) == items.size)=true then _ else _) _ _ s
 rw[if_pos hyes]
 unfold Builtin.Tuple.tupleIsExact
 refine EE (EE (GD ht.typeIs (EI ?_)))
 rw[if_pos (by decide)]
 first
  |exact EE (GQ (EI ⟨_,rfl,EI h⟩))
  |exact EE (GQ (EE (EI (EI ⟨_,rfl,EI h⟩))))
  |exact EE (GQ (EE (EI ⟨_,rfl,EI h⟩)))
end
end HT
namespace L2
open PySem PySem.Spec PyProof.Rows
section
variable {X:Cx}
noncomputable def uV(K:Vo):V->Option Int->Option Int->Hp->VK->Prop:=fun x lo hi H Q=>∃a xs,x = .ref a/\SqT K H a xs/\∀r H',(∀c o,H c=some o->H' c=some o)->SqT K H' r (gv xs lo hi)->Q (.ref r) H'
def pP:tM X (uV X.K):=by
 intro pins s σ H x v vl vu lo hi sl Q I rx hs pl pu h
 obtain⟨a,xs,rfl,hx,q⟩:=h
 by_cases hw:HT.xO xs.length 0 lo=0/\HT.xO xs.length xs.length hi=xs.length
 ·cases rx
  obtain⟨its,r,ht,hz⟩:=I.tuple hx
  have hlen:its.toArray.size=xs.length:=by rw[EH];exact r.length.symm
  refine⟨"tuple",_,Fc.lookup,ht.typeIs,HT.eZ ht hs pl pu (by rw[hlen];exact hw) ⟨.ref a,H,I,rfl,q a H (fun _ _ e=>e) ?_⟩⟩
  have e:gv xs lo hi=xs:=by unfold gv;rw[hw.1,hw.2];simp
  rw[e];exact hx
 ·exact rJ pins s σ H _ v vl vu lo hi sl Q I rx hs pl pu ⟨a,xs,rfl,hx,hw,fun p hp=>q p _ (fun c o e=>by rw[ak (au e hp)];exact e) (SqT.of am)⟩
def pQ(hu:X.A.units+1 < cLine):tN X (fun x y H Q=>∃a v,x = .ref a/\DGet H a y (some v)/\Q v H):=by
 intro value slice pins s σ H x y v u Q I rx ry h hs
 obtain⟨a,z,rfl,g,q⟩:=h
 cases rx
 exact tail_any (jE I g) PySem.F.slot_dict_getitem.lookup (lS hu I g ry fun w' s3 I3 rw'=>⟨z,H,I3,rw',q⟩) hs
def nG(hu:X.A.units+1 < cLine):oU X (fun o i v H Q=>∃a H',o = .ref a/\Af H a i v H'/\Q H'):=by
 intro pins s σ H o i v ov iv u Q I ro ri rv h
 obtain⟨a,H',rfl,g,q⟩:=h
 cases ro
 exact lT hu I g ri rv fun s' I'=>⟨H',I',q⟩
end
end L2
namespace L3
open PySem L2
theorem Reps.yt{K:Vo}{H:Hp}{vs:List V}{ps:List PV}{i:Int}{p:PV}(r:Reps K H vs ps)(h:L2.yt ps i=some p):∃v,L2.yt vs i=some v/\Rep K H v p:=by
 unfold L2.yt at h ⊢
 rw[r.length]
 cases e:mx ps.length i with
 |none=>rw[e]at h;cases h
 |some j=>
  rw[e]at h
  obtain⟨v,h1,h2⟩:=r.get h
  exact⟨v,h1,h2⟩
noncomputable def fB:PV->Option aK
 | .int i=>some (.inl i)
 | .str x=>some (.inr x)
 |_=>none
def bw{K:Vo}{H:Hp}{v:V}{p:PV}{k:aK}(r:Rep K H v p)(h:fB p=some k):v=kV k:=by
 cases p with
 |int i=>cases h;cases r;rfl
 |str i=>cases h;cases r;rfl
 |_=>cases h
noncomputable def dr{κ:Type} [DecidableEq κ]:List (κ×PV)->κ->Option PV
 |[],_=>none
 |(k',v)::r,k=>if k'=k then some v else dr r k
theorem xK.val{K:Vo}{H:Hp}{κ:Type} [DecidableEq κ]{k:κ}{p:PV}:∀{vs:List (κ×V)} {ps:List (κ×PV)},xK K H vs ps->dr ps k=some p->∃v,d3 vs k=some v/\Rep K H v p
 |_,_,.nil,h=>by cases h
 |_,_,.cons (k:=k') a r,h=>by
  unfold dr at h
  split at h
  ·rename_i e;cases h;exact⟨_,yv e,a⟩
  ·rename_i e;rw[ya e];exact xK.val r h
theorem xK.valN{K:Vo}{H:Hp}{κ:Type} [DecidableEq κ]{k:κ}:∀{vs:List (κ×V)} {ps:List (κ×PV)},xK K H vs ps->dr ps k=none->d3 vs k=none
 |_,_,.nil,_=>rfl
 |_,_,.cons (k:=k') a r,h=>by
  unfold dr at h
  split at h
  ·cases h
  ·rename_i e;rw[ya e];exact xK.valN r h
section
variable {X:Cx} {a b e lo hi:Expr} {ta tb te:aM} {pos p2:Pos}
structure wX (X:Cx) (r:R3):Prop where
 ok:tN X (LR X r)
def uW{r:R3}(hr:wX X r)(ha:aX X a ta)(hb:aX X b tb)(hs:gg b):aX X (.Subscript a b pos) (aj r ta tb):=⟨aI (uB hr.ok ha.ok hb.ok hs) fun _ _ _=>gj⟩
def al:R3:=fun x y S Q=>match x with
 | .tup xs=>match y with | .int i=>(match yt xs i with|some v=>Q v S|none=>False)|_=>False
 | .cl xs=>match y with | .int i=>(match yt xs i with|some v=>Q v S|none=>False)|_=>False
 | .str z=>match y with | .int i=>z.length<=sizeLine/\(match yt z.cps.toList i with|some c=>Q (.str ⟨#[c]⟩) S|none=>False)|_=>False
 | .ref a=>match S a with
  |some (.lst xs)=>(match y with | .int i=>(match yt xs i with|some v=>Q v S|none=>False)|_=>False)
  |some (.dct kvs)=>(match fB y with|some k=>(match dr kvs k with|some v=>Q v S|none=>False)|none=>False)
  |_=>False
 |_=>False
def wY(hu:X.A.units+1 < cLine):wX X al:=⟨fun value slice pins s σ H x y v u Q I rx ry ⟨px,py,S,Q3,r1,r2,rS,q,k⟩ hs=>by
 unfold al at q
 split at q
 ·split at q
  ·split at q
   ·rename_i e
    cases r2
    cases r1 with
    |tup h1 rs=>
     obtain⟨w,hw,rw'⟩:=rs.yt e
     exact rK value slice pins s σ H _ _ v u Q I rx ry ⟨_,_,_,w,rfl,rfl,h1,hw,k _ S _ H q rw' rS .refl⟩ hs
   ·exact q.elim
  ·exact q.elim
 ·split at q
  ·split at q
   ·rename_i e
    cases r2
    cases r1 with
    |cl h1 rs=>
     obtain⟨w,hw,rw'⟩:=rs.yt e
     exact k_ value slice pins s σ H _ _ v u Q I rx ry ⟨_,_,_,w,rfl,rfl,h1.sq,hw,k _ S _ H q rw' rS .refl⟩ hs
   ·exact q.elim
  ·exact q.elim
 ·split at q
  ·obtain⟨hz,q⟩:=q
   split at q
   ·rename_i e
    cases r1;cases r2
    exact rL value slice pins s σ H _ _ v u Q I rx ry ⟨_,_,_,rfl,rfl,hz,e,k _ S _ H q (.str _) rS .refl⟩ hs
   ·exact q.elim
  ·exact q.elim
 ·split at q
  ·rename_i e0
   split at q
   ·split at q
    ·rename_i e
     cases r1;cases r2
     obtain⟨vs,hv,rs⟩:=rS _ _ e0
     obtain⟨w,hw,rw'⟩:=rs.yt e
     exact k_ value slice pins s σ H _ _ v u Q I rx ry ⟨_,_,_,w,rfl,rfl,SqL.of hv,hw,k _ S _ H q rw' rS .refl⟩ hs
    ·exact q.elim
   ·exact q.elim
  ·rename_i e0
   split at q
   ·rename_i ek
    split at q
    ·rename_i ev
     cases r1
     have e1:=bw r2 ek
     subst e1
     obtain⟨kv,hv,rk⟩:=rS _ _ e0
     obtain⟨w,hw,rw'⟩:=rk.val ev
     refine pQ hu value slice pins s σ H _ _ v u Q I rx ry ⟨_,w,rfl,?_,k _ S _ H q rw' rS .refl⟩ hs
     rw[<-hw]
     exact DGet.k hv
    ·exact q.elim
   ·exact q.elim
  ·exact q.elim
 ·exact q.elim⟩
abbrev tQ:=bv->aq->(Option Int->aq->Prop)->de->Prop
inductive LO (X:Cx) (t:tQ) (σ:L2.St) (H:Hp) (Q:Option Int->Hp->Prop):Prop
 |mk (σ3 S Q3 E3) (rσ:RepSt X.K H σ σ3) (rS:RepS X.K H S) (h:t σ3 S Q3 E3) (xo:Aa X H E3) (k:∀o S' H',Q3 o S'->RepS X.K H' S'->Grow X.K H H'->Q o H'):LO X t σ H Q
structure vG (X:Cx) (e:Option Expr) (t:tQ):Prop where
 ok:PO X e (LO X t)
noncomputable def jN:tQ:=fun _ S Q _=>Q none S
noncomputable def jb(t:aM):tQ:=fun σ S Q E=>t σ S (fun v S'=>match v with | .int i=>Q (some i) S'|_=>False) E
def nH{e:Option Expr}{t t':TO}(h:PO X e t)(k:∀σ H Q,t' σ H Q->t σ H Q):PO X e t':=fun pins s σ H Q I q=>h pins s σ H Q I (k σ H Q q)
def du:vG X none jN:=⟨nH pd fun σ H Q ⟨σ3,S,Q3,E3,rσ,rS,h,xo,k⟩=>k none S H h rS .refl⟩
def cr(h:aX X e te):vG X (some e) (jb te):=⟨nH (pe h.ok) fun σ H Q ⟨σ3,S,Q3,E3,rσ,rS,h,xo,k⟩=>⟨σ3,S,_,E3,rσ,rS,h,xo,fun p S' v H' h1 rv yK g=>by
 cases p with
 |int i=>cases rv;exact⟨i,rfl,k _ S' H' h1 yK g⟩
 |_=>exact h1.elim⟩⟩
noncomputable def dg{α:Type}(xs:List α)(lo hi:Option Int):List α:=(xs.drop (HT.xO xs.length 0 lo)).take (HT.xO xs.length xs.length hi - HT.xO xs.length 0 lo)
def Reps.cut{K:Vo}{H:Hp}{vs:List V}{ps:List PV}(r:Reps K H vs ps)(lo hi:Option Int):Reps K H (gv vs lo hi) (dg ps lo hi):=by
 unfold gv dg
 rw[r.length]
 exact(r.drop _).take _
def hZ(x:PV)(lo hi:Option Int)(S:aq)(Q:bY):Prop:=match x with
 | .tup xs=>Q (.tup (dg xs lo hi)) S
 | .cl xs=>∀p,S p=none->Q (.ref p) (xF S p (.lst (dg xs lo hi)))
 | .str z=>z.length<=sizeLine/\Q (.str (Txt.slice z lo hi)) S
 | .ref a=>match S a with|some (.lst xs)=>∀p,S p=none->Q (.ref p) (xF S p (.lst (dg xs lo hi)))|_=>False
 |_=>False
noncomputable def xp(X:Cx):V->Option Int->Option Int->Hp->VK->Prop:=fun x lo hi H Q=>∃px S Q3,Rep X.K H x px/\RepS X.K H S/\hZ px lo hi S Q3/\Ret X.K H Q3 Q
def xq:tM X (xp X):=by
 intro pins s σ H x v vl vu lo hi sl Q I rx hs pl pu ⟨px,S,Q3,r1,rS,q,k⟩
 unfold hZ at q
 split at q
 ·cases r1 with
  |tup h1 rs=>exact pP pins s σ H _ v vl vu lo hi sl Q I rx hs pl pu ⟨_,_,rfl,h1,fun r H' hh hr=>k _ S _ H' q (.tup hr ((rs.cut lo hi).mono (.same hh))) (rS.grow hh) (.same hh)⟩
 ·cases r1 with
  |cl h1 rs=>exact ld pins s σ H _ v vl vu lo hi sl Q I rx hs pl pu ⟨_,_,rfl,h1.sq,fun p hp=>k _ _ _ _ (q p (rS.free hp)) (.ref p) (rS.new hp ⟨_,am,(rs.cut lo hi).mono (.new hp)⟩) (.new hp)⟩
 ·cases r1
  exact rZ pins s σ H _ v vl vu lo hi sl Q I rx hs pl pu ⟨_,rfl,q.1,k _ S _ H q.2 (.str _) rS .refl⟩
 ·split at q
  ·rename_i e
   cases r1
   obtain⟨vs,hv,rs⟩:=rS _ _ e
   exact ld pins s σ H _ v vl vu lo hi sl Q I rx hs pl pu ⟨_,_,rfl,SqL.of hv,fun p hp=>k _ _ _ _ (q p (rS.free hp)) (.ref p) (rS.new hp ⟨_,am,(rs.cut lo hi).mono (.new hp)⟩) (.new hp)⟩
  ·exact q.elim
 ·exact q.elim
def a9(te:aM)(tl th:tQ):aM:=fun σ S Q E=>te σ S (fun x S1=>tl σ S1 (fun l S2=>th σ S2 (fun u S3=>hZ x l u S3 Q) E) E) E
def bL{lo hi:Option Expr}{tl th:tQ}(he:aX X e te)(hl:vG X lo tl)(hu:vG X hi th):aX X (.Subscript e (.Slice lo hi none p2) pos) (a9 te tl th):=
 ⟨aI (mN xq he.ok hl.ok hu.ok) fun σ H Q ⟨σ3,S,Q3,E3,rσ,rS,h,xo,k⟩=>⟨σ3,S,_,E3,rσ,rS,h,xo,fun x S1 v H1 h1 rx xS g1=>⟨σ3,S1,_,E3,rσ.mono g1,xS,h1,xo.mono g1,fun l S2 H2 h2 yN g2=>
  ⟨σ3,S2,_,E3,rσ.mono (g1.trans g2),yN,h2,xo.mono (g1.trans g2),fun u S3 H3 h3 Ap g3=>⟨x,S3,Q3,rx.mono (g2.trans g3),Ap,h3,k.mono (g1.trans (g2.trans g3))⟩⟩⟩⟩⟩
def pR:ft X (binaryOp .Mult) (rI IntMulOk fun i j=>.int (i * j)):=vz fun _ _ _ _ _ _ _ hc q=>PyProof.Rows.mul_int q hc
def f_:R3:=fun x y S Q=>match x,y with
 | .int i,.int j=>IntMulOk i j/\Q (.int (i * j)) S
 | .ref a,.int j=>(match S a with|some (.lst xs)=>-(2 ^ 63)<=j/\j < 2 ^ 63/\xs.length * j.toNat<=sizeLine/\∀p,S p=none->Q (.ref p) (xF S p (.lst (List.replicate j.toNat xs).flatten))|_=>False)
 |_,_=>False
theorem Reps.rep{K:Vo}{H:Hp}{vs:List V}{ps:List PV}(r:Reps K H vs ps):∀n:Nat,Reps K H (List.replicate n vs).flatten (List.replicate n ps).flatten
 |0=>.nil
 |n+1=>by
  rw[FU,FU,Gu,Gu]
  exact r.append (Reps.rep r n)
def eG:fR X (binaryOp .Mult) f_:=⟨fun pins s σ H x y v u Q I rx ry ⟨px,py,S,Q3,r1,r2,rS,q,k⟩=>by
 unfold f_ at q
 split at q
 ·cases r1;cases r2
  exact pR pins s σ H _ _ v u Q I rx ry ⟨_,_,rfl,rfl,q.1,k _ S _ H q.2 (.int _) rS .refl⟩
 ·split at q
  ·rename_i e
   cases r1;cases r2
   obtain⟨vs,hv,rs⟩:=rS _ _ e
   exact rQ pins s σ H _ _ v u Q I rx ry ⟨_,_,_,rfl,rfl,hv,q.1,q.2.1,by rw[rs.length];exact q.2.2.1,fun p hp=>k _ _ _ _ (q.2.2.2 p (rS.free hp)) (.ref p) (rS.new hp ⟨_,am,(rs.rep _).mono (.new hp)⟩) (.new hp)⟩
  ·exact q.elim
 ·exact q.elim⟩
end
end L3
namespace L2
open PySem PySem.Spec PyProof.Rows
end L2
namespace L3
open PySem L2
abbrev lr:=List PV->aq->bY->Prop
section
variable {X:Cx} {e o:Expr} {es:List Expr} {te to:aM} {ts:List aM} {x:Str} {p pos apos cpos:Pos}
inductive LC (X:Cx) (r:lr) (xs:List V) (H:Hp) (Q:VK):Prop
 |mk (ps S Q3) (rx:Reps X.K H xs ps) (rS:RepS X.K H S) (h:r ps S Q3) (k:Ret X.K H Q3 Q):LC X r xs H Q
structure eh (X:Cx) (f:Value) (r:lr):Prop where
 ok:dh X f (LC X r)
def ag(r:lr)(ts:List aM):aM:=fun σ S Q E=>ap ts σ S (fun ps S1=>r ps S1 Q) E
def ls{r:lr}{σ:L2.St}{H:Hp}{Q:VK}:LE X (ag r ts) σ H Q->vF (ts.map (LE X)) σ H fun vs H1=>LC X r vs H1 Q:=fun⟨σ3,S,Q3,E3,rσ,rS,h,xo,k⟩=>
 bz rσ rS h xo fun ps S' vs H' hl q rv yK g=>⟨ps,S',Q3,rv,yK,q,k.mono g⟩
def pS{id:String}{r:lr}(hc:eh X (.builtin id) r)(hg:Gl X x)(hm:X.mg x=none)(hv:bootBuiltins x=some (.builtin id))(he:starEach (e::es) X.env=(false,eval e X.env)::starEach es X.env)(ha:iC X (e::es) ts)
  (hn:x ≠ "__name__":=by decide) (hdb:(x == ("__debug__":Str))=false:=by decide) (hpl:(backTo pos (starEach es X.env)).any (·.1)=false:=by rfl):aX X (.Call (.Name x p) (e::es) [] pos) (ag r ts):=
 ⟨aI (mK hc.ok hg hm hv ha.ok hn hdb he hpl) fun _ _ _=>ls⟩
def pU{id:String}{r:lr}(hc:eh X (.type id) r)(hg:Gl X x)(hm:X.mg x=none)(hv:bootBuiltins x=some (.type id))(he:starEach (e::es) X.env=(false,eval e X.env)::starEach es X.env)(ha:iC X (e::es) ts)
  (hn:x ≠ "__name__":=by decide) (hdb:(x == ("__debug__":Str))=false:=by decide) (hpl:(backTo pos (starEach es X.env)).any (·.1)=false:=by rfl):aX X (.Call (.Name x p) (e::es) [] pos) (ag r ts):=
 ⟨aI (lQ hc.ok hg hm hv ha.ok hn hdb he hpl) fun _ _ _=>ls⟩
def bj:lr:=fun ps S Q=>match ps with
 |[.tup xs]=>Q (.int xs.length) S
 |[.cl xs]=>Q (.int xs.length) S
 |[.str z]=>z.length<=sizeLine/\Q (.int z.length) S
 |[.ref a]=>(match S a with|some (.lst xs)=>Q (.int xs.length) S|some (.dct kvs)=>Q (.int kvs.length) S|_=>False)
 |_=>False
def bS:eh X (.builtin "len") bj:=⟨fun pins s σ H xs us Q I r ⟨ps,S,Q3,rp,rS,q,k⟩=>by
 unfold bj at q
 split at q
 ·cases rp with|cons a rr=>cases rr;cases a with|tup h rs=>exact cF pins s σ H _ us Q I r ⟨_,_,rfl,.inr h,by rw[rs.length];exact k _ S _ H q (.int _) rS .refl⟩
 ·cases rp with|cons a rr=>cases rr;cases a with|cl h rs=>exact cF pins s σ H _ us Q I r ⟨_,_,rfl,.inl h.sq,by rw[rs.length];exact k _ S _ H q (.int _) rS .refl⟩
 ·cases rp with|cons a rr=>cases rr;cases a;exact iX pins s σ H _ us Q I r ⟨_,rfl,q.1,k _ S _ H q.2 (.int _) rS .refl⟩
 ·cases rp with
  |cons a rr=>
   cases rr;cases a
   split at q
   ·rename_i e
    obtain⟨vs,hv,rs⟩:=rS _ _ e
    exact cF pins s σ H _ us Q I r ⟨_,_,rfl,.inl (SqL.of hv),by rw[rs.length];exact k _ S _ H q (.int _) rS .refl⟩
   ·rename_i e
    obtain⟨vs,hv,rs⟩:=rS _ _ e
    exact lW pins s σ H _ us Q I r ⟨_,_,rfl,hv,by rw[rs.length];exact k _ S _ H q (.int _) rS .refl⟩
   ·exact q.elim
 ·exact q.elim⟩
def gE:lr:=fun ps S Q=>match ps with|[.int i,.int j]=>Q (.int (if j > i then j else i)) S|_=>False
def nI(hc:X.calm=true):eh X (.builtin "max") gE:=⟨fun pins s σ H xs us Q I r ⟨ps,S,Q3,rp,rS,q,k⟩=>by
 unfold gE at q
 split at q
 ·cases rp with|cons a rr=>cases rr with|cons b r3=>cases r3;cases a;cases b;exact lO hc pins s σ H _ us Q I r ⟨_,_,rfl,k _ S _ H q (.int _) rS .refl⟩
 ·exact q.elim⟩
def eI:lr:=fun ps S Q=>match ps with
 |[.str z]=>z.length<=sizeLine/\∀p,S p=none->Q (.ref p) (xF S p (.lst (z.cps.toList.map fun c=>.str (fy c))))
 |[v]=>(match eY S v with|some xs=>∀p,S p=none->Q (.ref p) (xF S p (.lst xs))|none=>False)
 |_=>False
theorem gF{K:Vo}{H:Hp}:∀cs:List Nat,Reps K H (cs.map fun c=>V.str (fy c)) (cs.map fun c=>PV.str (fy c))
 |[]=>.nil
 |c::r=>.cons (.str _) (gF r)
def nJ(hc:X.calm=true):eh X (.type "list") eI:=⟨fun pins s σ H xs us Q I r ⟨ps,S,Q3,rp,rS,q,k⟩=>by
 unfold eI at q
 split at q
 ·cases rp with|cons a rr=>cases rr;cases a;exact fz hc pins s σ H _ us Q I r ⟨_,rfl,q.1,fun p hp=>k _ _ _ _ (q.2 p (rS.free hp)) (.ref p) (rS.new hp ⟨_,am,(gF _)⟩) (.new hp)⟩
 ·cases rp with
  |cons a rr=>
   cases rr
   split at q
   ·rename_i e
    obtain⟨b,vs,rfl,hs,rs⟩:=nF rS a e
    exact iY pins s σ H _ us Q I r ⟨_,_,rfl,hs,fun p hp=>k _ _ _ _ (q p (rS.free hp)) (.ref p) (rS.new hp ⟨_,am,rs.mono (.new hp)⟩) (.new hp)⟩
   ·exact q.elim
 ·exact q.elim⟩
def aG:lr:=fun ps S Q=>match ps with
 |[v]=>(match eY S v with|some xs=>Q (.tup xs) S|none=>False)
 |_=>False
def bM:eh X (.type "tuple") aG:=⟨fun pins s σ H xs us Q I r ⟨ps,S,Q3,rp,rS,q,k⟩=>by
 unfold aG at q
 split at q
 ·cases rp with
  |cons a rr=>
   cases rr
   split at q
   ·rename_i e
    obtain⟨b,vs,rfl,hs,rs⟩:=nF rS a e
    rcases hs with hs|hs
    ·exact ee pins s σ H _ us Q I r ⟨_,_,rfl,.inl ⟨hs,fun p hp=>k _ S _ _ q (.tup (SqT.of am) (rs.mono (.new hp))) (rS.other hp) (.new hp)⟩⟩
    ·exact ee pins s σ H _ us Q I r ⟨_,_,rfl,.inr ⟨hs,k _ S _ _ q (.tup hs rs) rS .refl⟩⟩
   ·exact q.elim
 ·exact q.elim⟩
def bZ:lr:=fun ps S Q=>match ps with
 |[.int _]=>False
 |[.str _]=>False
 |[.bl _]=>False
 |[.non]=>False
 |[.ty _]=>False
 |[v]=>∃d,Dat S v d/\d.showable=true/\d.hasDict=false/\d.depth<=100/\d.shown.length<=sizeLine/\Q (.str d.shown) S
 |_=>False
def cH(hu:X.A.units+150 < cLine)(hg:X.A.guards=some []):eh X (.builtin "repr") bZ:=⟨fun pins s σ H xs us Q I r ⟨ps,S,Q3,rp,rS,q,k⟩=>by
 unfold bZ at q
 have main:∀{v:PV} {x:V} {u:Value} {a:Addr},u = .ref a->Rep X.K H x v->RelV x u->(∃d,Dat S v d/\d.showable=true/\d.hasDict=false/\d.depth<=100/\d.shown.length<=sizeLine/\Q3 (.str d.shown) S)->wpAny (model X.prog X.w) X.A (call (.builtin "repr") [u]) (EP X pins σ Q) X.xe s:=by
  rintro v x u a rfl rv rx ⟨d,hd,h1,h2,h3,h4,q⟩
  obtain⟨as,R⟩:=hd.reads I rS rv rx
  exact repr_of_reads' R h1 (PyData.noDict_hsm h2) hg (by omega) (fun _ _ e=>e) (fun h' u tk hk=>⟨.str _,H,I.kept hk,⟨u,rfl⟩,k _ S _ H q (.str _) rS .refl⟩) h4
 split at q
 ·exact q.elim
 ·exact q.elim
 ·exact q.elim
 ·exact q.elim
 ·exact q.elim
 ·rename_i n1 n2 n3 n4 n5
  cases rp with
  |cons a rr=>
   cases rr
   cases r with
   |cons r1 r2=>
    cases r2
    cases a with
    |non=>exact absurd rfl n4
    |bl b=>exact absurd rfl (n3 b)
    |int i=>exact absurd rfl (n1 i)
    |str i=>exact absurd rfl (n2 i)
    |ty i=>exact absurd rfl (n5 i)
    |ref b=>cases r1;exact main rfl (.ref b) rfl q
    |tup h rs=>cases r1;exact main rfl (.tup h rs) rfl q
    |cl h rs=>cases r1;exact main rfl (.cl h rs) rfl q
    |exc h1 h2 rs=>cases r1;exact main rfl (.exc h1 h2 rs) rfl q
    |cls h=>cases r1;exact main rfl (.cls h) rfl q
    |clo h rr=>cases r1;exact main rfl (.clo h rr) rfl q
 ·exact q.elim⟩
end
abbrev nK:=PV->List PV->aq->bY->Prop
section
variable {X:Cx} {e o:Expr} {es:List Expr} {te to:aM} {ts:List aM} {name:Str} {p pos apos cpos:Pos} {T id:String}
inductive LM (X:Cx) (r:nK) (x:V) (xs:List V) (H:Hp) (Q:VK):Prop
 |mk (px ps S Q3) (rx:Rep X.K H x px) (rs:Reps X.K H xs ps) (rS:RepS X.K H S) (h:r px ps S Q3) (k:Ret X.K H Q3 Q):LM X r x xs H Q
structure pV (X:Cx) (id:String) (r:nK):Prop where
 ok:uA X id (LM X r)
def sy(T:String)(x:PV)(S:aq):Prop:=match x with
 | .str _=>T = "str"
 | .ref a=>(match S a with|some (.lst _)=>T = "list" | some (.dct _)=>T = "dict" | _=>False)
 | .cl _=>T = "list"
 |_=>False
def nL{H:Hp}{S:aq}{v:V}{p:PV}(rS:RepS X.K H S)(r:Rep X.K H v p)(h:sy T p S):vA X.K T v H:=by
 cases r with
 |str x=>exact h
 |ref a=>
  unfold sy at h
  simp only at h
  split at h
  ·rename_i e
   obtain⟨vs,hv,_⟩:=rS _ _ e
   exact .inl ⟨h,_,SqL.of hv⟩
  ·rename_i e
   obtain⟨vs,hv,_⟩:=rS _ _ e
   exact .inr (.inr (.inl ⟨h,.inl ⟨_,hv⟩⟩))
  ·exact h.elim
 |cl h1 _=>exact .inl ⟨h,_,h1.sq⟩
 |_=>exact h.elim
def iD(T:String)(r:nK)(to:aM)(ts:List aM):aM:=fun σ S Q E=>to σ S (fun x S1=>sy T x S1/\ap ts σ S1 (fun ps S2=>r x ps S2 Q) E) E
def wq{r:nK}(pa:PlainAttrs T)(slot:Slot T name id)(hty:typeOf (.builtin id)=pure (.type "method_descriptor"))(hm:pV X id r)(hs:starEach (e::es) X.env=(false,eval e X.env)::starEach es X.env)(ho:aX X o to)(ha:iC X (e::es) ts)
  (hbase:attributeBase o name X.env (eval o X.env)=eval o X.env:=by rfl)
  (hfew:((backTo cpos (starEach (e::es) X.env)).all (fun x=>!x.1)&&(backToKw cpos (keywordEach [] X.env)).all (fun x=>x.1.isSome)
   && decide ((e::es).length+([]:List Keyword).length+(if ([]:List Keyword).isEmpty then 0 else 1) < 30))=true:=by rfl)
  (hline:(apos.endLine == cpos.line)=true:=by rfl) (hplain:(backTo cpos (starEach es X.env)).any (·.1)=false:=by rfl):aX X (.Call (.Attribute o name apos) (e::es) [] cpos) (iD T r to ts):=
 ⟨aI (uD pa slot hty hm.ok ho.ok ha.ok hbase hfew hline hs hplain) fun σ H Q ⟨σ3,S,Q3,E3,rσ,rS,h,xo,k⟩=>⟨σ3,S,_,E3,rσ,rS,h,xo,fun x S1 v H1 h1 rx xS g1=>
  ⟨nL xS rx h1.1,bz (rσ.mono g1) xS h1.2 (xo.mono g1) fun ps S2 vs H2 hl q rv yN g2=>⟨x,ps,S2,Q3,rx.mono g2,rv,yN,q,k.mono (g1.trans g2)⟩⟩⟩⟩
def uX{r:nK}(pa:PlainAttrs T)(slot:Slot T name id)(hty:typeOf (.builtin id)=pure (.type "method_descriptor"))(hm:pV X id r)(ho:aX X o to)
  (hbase:attributeBase o name X.env (eval o X.env)=eval o X.env:=by rfl) (hline:(apos.endLine == cpos.line)=true:=by rfl):aX X (.Call (.Attribute o name apos) [] [] cpos) (iD T r to []):=
 ⟨aI (rM pa slot hty hm.ok ho.ok hbase hline) fun σ H Q ⟨σ3,S,Q3,E3,rσ,rS,h,xo,k⟩=>⟨σ3,S,_,E3,rσ,rS,h,xo,fun x S1 v H1 h1 rx xS g1=>
  ⟨nL xS rx h1.1,⟨x,[],S1,Q3,rx,.nil,xS,h1.2,k.mono g1⟩⟩⟩⟩
def cI:nK:=fun x ps S Q=>match x,ps with
 | .ref a,[y]=>(match S a with|some (.lst xs)=>xs.length < sizeLine/\Q .non (xF S a (.lst (xs++[y])))|_=>False)
 |_,_=>False
def nM:pV X "list.append" cI:=⟨fun pins s σ H x xs v us Q I rx rs ⟨px,ps,S,Q3,r1,rp,rS,q,k⟩=>by
 unfold cI at q
 split at q
 ·split at q
  ·rename_i e
   cases r1
   cases rp with
   |cons b rr=>
    cases rr
    obtain⟨vs,hv,rl⟩:=rS _ _ e
    exact lR pins s σ H _ _ v us Q I rx rs ⟨_,_,_,rfl,rfl,hv,by rw[rl.length];exact q.1,k _ _ _ _ q.2 .non (rS.put hv trivial ⟨_,am,(rl.append (.cons b .nil)).mono (.mut hv trivial)⟩) (.mut hv trivial)⟩
  ·exact q.elim
 ·exact q.elim⟩
def l7:nK:=fun x ps S Q=>match x,ps with
 | .ref a,[]=>(match S a with|some (.lst xs)=>(match xs[xs.length - 1]? with|some y=>Q y (xF S a (.lst xs.dropLast))|none=>False)|_=>False)
 | .ref a,[.int i]=>(match S a with|some (.lst xs)=>-(2 ^ 63)<=i/\i < 2 ^ 63/\(match seqIndex? i xs.length with|some j=>(match xs[j]? with|some y=>Q y (xF S a (.lst (xs.eraseIdx j)))|none=>False)|none=>False)|_=>False)
 |_,_=>False
def uY:pV X "list.pop" l7:=⟨fun pins s σ H x xs v us Q I rx rs ⟨px,ps,S,Q3,r1,rp,rS,q,k⟩=>by
 unfold l7 at q
 split at q
 ·split at q
  ·rename_i e
   split at q
   ·rename_i ey
    cases r1
    cases rp
    obtain⟨vs,hv,rl⟩:=rS _ _ e
    rw[<-rl.length]at ey
    obtain⟨y',B9,ry⟩:=rl.get ey
    exact rN pins s σ H _ _ v us Q I rx rs ⟨_,_,_,rfl,rfl,hv,B9,k _ _ _ _ q (ry.mono (.mut hv trivial)) (rS.put hv trivial ⟨_,am,rl.dropLast.mono (.mut hv trivial)⟩) (.mut hv trivial)⟩
   ·exact q.elim
  ·exact q.elim
 ·split at q
  ·rename_i e
   obtain⟨h1,h2,q⟩:=q
   split at q
   ·rename_i ej
    split at q
    ·rename_i ey
     cases r1
     cases rp with
     |cons b rr=>
      cases rr;cases b
      obtain⟨vs,hv,rl⟩:=rS _ _ e
      obtain⟨y',B9,ry⟩:=rl.get ey
      rw[<-rl.length]at ej
      exact mR pins s σ H _ _ v us Q I rx rs ⟨_,_,_,_,_,rfl,rfl,hv,h1,h2,ej,B9,k _ _ _ _ q (ry.mono (.mut hv trivial)) (rS.put hv trivial ⟨_,am,(rl.eraseIdx _).mono (.mut hv trivial)⟩) (.mut hv trivial)⟩
    ·exact q.elim
   ·exact q.elim
  ·exact q.elim
 ·exact q.elim⟩
noncomputable def texts:List PV->Option (List Str)
 |[]=>some []
 | .str b::r=>(texts r).map (b::·)
 |_::_=>none
theorem gG{K:Vo}{H:Hp}:∀{vs:List V} {ps:List PV} {bs:Vs},Reps K H vs ps->texts ps=some bs->vs=bs.map V.str
 |_,_,_,.nil,h=>by cases h;rfl
 |_,_,bs,.cons (p:=p) a r,h=>by
  cases p with
  |str b=>
   cases a
   unfold texts at h
   cases e:texts _ with
   |none=>rw[e]at h;cases h
   |some l=>rw[e]at h;cases h;rw[gG r e];rfl
  |_=>cases h
def iE:nK:=fun x ps S Q=>match x,ps with
 | .str z,[.ref a]=>(match S a with|some (.lst xs)=>(match texts xs with|some ys=>(ys.map (·.length)).sum+ys.length * z.length<=1000000/\Q (.str (Txt.join z ys)) S|none=>False)|_=>False)
 |_,_=>False
def nN:pV X "str.join" iE:=⟨fun pins s σ H x xs v us Q I rx rs ⟨px,ps,S,Q3,r1,rp,rS,q,k⟩=>by
 unfold iE at q
 split at q
 ·split at q
  ·rename_i e
   split at q
   ·rename_i et
    cases r1
    cases rp with
    |cons b rr=>
     cases rr;cases b
     obtain⟨vs,hv,rl⟩:=rS _ _ e
     have e2:=gG rl et
     subst e2
     exact pC pins s σ H _ _ v us Q I rx rs ⟨_,_,_,rfl,rfl,SqL.of hv,q.1,k _ S _ H q.2 (.str _) rS .refl⟩
   ·exact q.elim
  ·exact q.elim
 ·exact q.elim⟩
def fD:nK:=fun x ps S Q=>match x,ps with
 | .str a,[.str b]=>(match Builtin.Str.occurrences a b 0 a.length 1 with|i::_=>Q (.int i) S|[]=>False)
 |_,_=>False
def pW:pV X "str.index" fD:=⟨fun pins s σ H x xs v us Q I rx rs ⟨px,ps,S,Q3,r1,rp,rS,q,k⟩=>by
 unfold fD at q
 split at q
 ·split at q
  ·rename_i e
   cases r1
   cases rp with
   |cons b rr=>
    cases rr;cases b
    exact m4 pins s σ H _ _ v us Q I rx rs ⟨_,_,_,_,rfl,rfl,e,k _ S _ H q (.int _) rS .refl⟩
  ·exact q.elim
 ·exact q.elim⟩
end
section
variable {X:Cx} {e c:Expr} {te:aM} {st:Stmt} {rest a b:List Stmt} {t u:bt} {tc:fP} {pos:Pos}
def bd:bt:=fun D σ S=>D.nx σ S
def ah(t u:bt):bt:=fun D σ S=>t { D with nx:=u D } σ S
def aW:fA X [] bd:=⟨lm oQ fun D σ H ⟨σ3,S,D3,rσ,rS,h,xo,n,r,bk,ct⟩=>n σ3 S σ H h rσ rS .refl⟩
def ae(h1:kz X st t)(h2:fA X rest u):fA X (st::rest) (ah t u):=
 ⟨lm (mD h1.ok h2.ok) fun D σ H ⟨σ3,S,D3,rσ,rS,h,xo,n,r,bk,ct⟩=>⟨σ3,S,{ D3 with nx:=u D3 },rσ,rS,h,xo,fun σ4 S' σ' H' h' Ab yK g=>⟨σ4,S',D3,Ab,yK,h',xo.mono g,n.mono g,r.mono g,bk.mono g,ct.mono g⟩,r,bk,ct⟩⟩
def ar(h1:kz X st t):fA X [st] t:=⟨oR h1.ok⟩
def cZ(te:aM):bt:=fun D σ S=>te σ S (fun _ S1=>D.nx σ S1) D.ex
def kF(he:aX X e te)(hs:swapsWith e none pos.line X.env=pure false:=by rfl):kz X (.Expr e pos) (cZ te):=
 ⟨cq (oS he.ok hs) fun D σ H ⟨σ3,S,D3,rσ,rS,h,xo,n,r,bk,ct⟩=>⟨σ3,S,_,D3.ex,rσ,rS,h,xo,fun p S1 v H1 h1 rv xS g1=>n σ3 S1 σ H1 h1 (rσ.mono g1) xS g1⟩⟩
def aN(te:aM):bt:=fun D σ S=>te σ S D.rt D.ex
def aC(he:aX X e te):kz X (.Return (some e) pos) (aN te):=
 ⟨cq (qW he.ok) fun D σ H ⟨σ3,S,D3,rσ,rS,h,xo,n,r,bk,ct⟩=>⟨σ3,S,D3.rt,D3.ex,rσ,rS,h,xo,r⟩⟩
def cw(c:fP)(t u:bt):bt:=fun D σ S=>c σ S (fun b S1=>if b=true then t D σ S1 else u D σ S1) D.ex
def bA(hc:ll X c tc)(ha:fA X a t)(hb:fA X b u):kz X (.If c a b pos) (cw tc t u):=
 ⟨cq (ub hc.ok ha.ok hb.ok) fun D σ H ⟨σ3,S,D3,rσ,rS,h,xo,n,r,bk,ct⟩=>⟨σ3,S,_,D3.ex,rσ,rS,h,xo,fun z S1 H1 h1 xS g1=>by
  cases z with
  |true=>rw[if_pos rfl]at h1 ⊢;exact⟨σ3,S1,D3,rσ.mono g1,xS,h1,xo.mono g1,n.mono g1,r.mono g1,bk.mono g1,ct.mono g1⟩
  |false=>rw[if_neg (by decide)]at h1 ⊢;exact⟨σ3,S1,D3,rσ.mono g1,xS,h1,xo.mono g1,n.mono g1,r.mono g1,bk.mono g1,ct.mono g1⟩⟩⟩
def aw(i:Nat)(te:aM):bt:=fun D σ S=>te σ S (fun v S1=>D.nx (σ.set i (some v)) S1) D.ex
def nO{i:Nat}{D:ki}{σ:L2.St}{H:Hp}:LS X (aw i te) D σ H->oX (LE X te) (jC i) D σ H:=fun⟨σ3,S,D3,rσ,rS,h,xo,n,r,bk,ct⟩=>
 ⟨σ3,S,_,D3.ex,rσ,rS,h,xo,fun p S1 v H1 h1 rv xS g1=>n _ S1 _ H1 h1 ((rσ.mono g1).set rv i) xS g1⟩
def uZ{i:Nat}{x:Str}{pos':Pos}(hN:X.N.Nodup)(hi:X.N[i]?=some x)(hx:oK X.env.scope x)(he:aX X e te)(hs:swapsWith e (some (.Name x pos')) pos.line X.env=pure false:=by rfl)
  (hf:X.fn x=true\/X.env.scope.names.lookup x=some .local:=by first|exact .inl rfl|exact .inr rfl|assumption):kz X (.Assign [.Name x pos'] e pos) (aw i te):=⟨cq (q_ hN hi hx he.ok hs hf) fun _ _ _=>nO⟩
def h_(i j:Nat)(ta tb:aM):bt:=fun D σ S=>ta σ S (fun v S1=>tb σ S1 (fun w S2=>D.nx ((σ.set i (some v)).set j (some w)) S2) D.ex) D.ex
def lv{i j:Nat}{x y:Str}{a b:Expr}{ta tb:aM}{px py pt:Pos}{kt k2 As}(hc:X.calm=true)(hN:X.N.Nodup)(hi:X.N[i]?=some x)(hj:X.N[j]?=some y)(hij:i≠j)
  (hx:X.env.scope.names.lookup x=some .local) (hy:X.env.scope.names.lookup y=some .local) (ha:iC X [a,b] [ta,tb])
  (hw:swappedStores [.Tuple [.Name x px,.Name y py] kt pt] (.Tuple [a,b] k2 As) X.env=pure (some [x,y]):=by rfl)
  (hs:swapsWithSole [.Tuple [.Name x px,.Name y py] kt pt] (.Tuple [a,b] k2 As) pos.line X.env=pure false:=by rfl) :
  kz X (.Assign [.Tuple [.Name x px,.Name y py] kt pt] (.Tuple [a,b] k2 As) pos) (h_ i j ta tb):=
 ⟨cq (re hc hN hi hj hij hx hy ha.ok hw hs) fun D σ H ⟨σ3,S,D3,rσ,rS,h,xo,n,r,bk,ct⟩=>
  ⟨σ3,S,_,D3.ex,rσ,rS,h,xo,fun v S1 v' H1 h1 rv xS g1=>⟨σ3,S1,_,D3.ex,rσ.mono g1,xS,h1,xo.mono g1,fun w S2 w' H2 h2 rw' yN g2=>
   ⟨v',w',rfl,n _ S2 _ H2 h2 (((rσ.mono (g1.trans g2)).set (rv.mono g2) i).set rw' j) yN (g1.trans g2)⟩⟩⟩⟩
def gH(i j k:Nat)(te:aM):bt:=fun D σ S=>te σ S (fun p S1=>match p with | .tup [v,w,u]=>D.nx (((σ.set k (some u)).set j (some w)).set i (some v)) S1|_=>False) D.ex
def pX{i j k:Nat}{x y z:Str}{px py pz pt:Pos}{kt:Nat}(hc:X.calm=true)(hN:X.N.Nodup)(hi:X.N[i]?=some x)(hj:X.N[j]?=some y)(hk:X.N[k]?=some z)
  (hx:X.env.scope.names.lookup x=some .local) (hy:X.env.scope.names.lookup y=some .local) (hz:X.env.scope.names.lookup z=some .local) (he:aX X e te)
  (hw:swappedStores [.Tuple [.Name x px,.Name y py,.Name z pz] kt pt] e X.env=pure (some [x,y,z]):=by rfl)
  (hs:swapsWithSole [.Tuple [.Name x px,.Name y py,.Name z pz] kt pt] e pos.line X.env=pure false:=by rfl):kz X (.Assign [.Tuple [.Name x px,.Name y py,.Name z pz] kt pt] e pos) (gH i j k te):=
 ⟨cq (m5 hc hN hi hj hk hx hy hz he.ok hw hs) fun D σ H ⟨σ3,S,D3,rσ,rS,h,xo,n,r,bk,ct⟩=>⟨σ3,S,_,D3.ex,rσ,rS,h,xo,fun p S1 v H1 h1 rv xS g1=>by
  try dsimp only at h1
  split at h1
  ·cases rv with
   |tup hq rs=>
    cases rs with
    |cons r1 rs=>
     cases rs with
     |cons r2 rs=>
      cases rs with
      |cons r3 rs=>
       cases rs
       exact⟨_,_,_,_,rfl,hq,n _ S1 _ H1 h1 ((((rσ.mono g1).set r3 k).set r2 j).set r1 i) xS g1⟩
  ·exact h1.elim⟩⟩
inductive Tg where
 |n (i:Nat)|tp (l:Tg)|nil|cons (a r:Tg)
mutual
noncomputable def Tg.put:Tg->PV->bv->Option bv
 | .n i,p,σ=>some (σ.set i (some p))
 | .tp l,.tup xs,σ=>l.yE xs σ
 |_,_,_=>none
noncomputable def Tg.yE:Tg->List PV->bv->Option bv
 | .nil,[],σ=>some σ
 | .cons a r,x::xs,σ=>(match a.put x σ with|some σ'=>r.yE xs σ'|none=>none)
 |_,_,_=>none
end
noncomputable def Tg.len:Tg->Nat
 | .cons _ r=>r.len+1
 |_=>0
mutual
noncomputable def Tg.g2(K:Vo):Tg->TG
 | .n i=>jC i
 | .tp l=>ue K l.len (l.AI K)
 |_=>fun _ _ _ _=>False
noncomputable def Tg.AI(K:Vo):Tg->qv
 | .nil=>ud
 | .cons a r=>qx (a.g2 K) (r.AI K)
 |_=>fun _ _ _ _=>False
end
noncomputable def Tg.under(own:Nat):Tg->Bool
 | .n i=>decide (i < own)
 | .tp l=>l.under own
 | .nil=>true
 | .cons a r=>a.under own&&r.under own
theorem Tg.zE:∀(g:Tg) {ps:List PV} {σ3 σ4:bv},g.yE ps σ3=some σ4->ps.length=g.len
 | .nil,ps,σ3,σ4,h=>by
  cases ps with
  |nil=>rfl
  |cons _ _=>unfold Tg.yE at h;cases h
 | .cons a r,ps,σ3,σ4,h=>by
  cases ps with
  |nil=>unfold Tg.yE at h;cases h
  |cons x xs=>
   unfold Tg.yE at h
   split at h
   ·rw[EU,Tg.zE r h];rfl
   ·cases h
 | .n _,ps,σ3,σ4,h=>by unfold Tg.yE at h;cases h
 | .tp _,ps,σ3,σ4,h=>by unfold Tg.yE at h;cases h
mutual
theorem Tg.zM{K:Vo}{H:Hp}{own:Nat}:∀(g:Tg) {v:V} {p:PV} {σ:L2.St} {σ3 σ4:bv} {Q:L2.St->Hp->Prop},Rep K H v p->RepSt K H σ σ3->g.put p σ3=some σ4->(∀σ',RepSt K H σ' σ4->(g.under own=true->σ'.drop own=σ.drop own)->Q σ' H)->g.g2 K v σ H Q
 | .n i,v,p,σ,σ3,σ4,Q,r,rσ,h,k=>by
  unfold Tg.put at h
  cases h
  unfold Tg.g2
  refine k _ (rσ.set r i) fun hb=>?_
  have hi:i < own:=GP hb
  rw[List.drop_set]
  rw[if_pos hi]
 | .tp l,v,p,σ,σ3,σ4,Q,r,rσ,h,k=>by
  cases p with
  |tup xs=>
   unfold Tg.put at h
   cases r with
   |tup hq rs=>
    have hg:=Tg.zU (own:=own) l rs rσ h k
    unfold Tg.g2
    exact⟨_,_,rfl,hq,rs.length.trans (Tg.zE l h),hg⟩
  |_=>unfold Tg.put at h;cases h
 | .nil,v,p,σ,σ3,σ4,Q,r,rσ,h,k=>by unfold Tg.put at h;cases h
 | .cons _ _,v,p,σ,σ3,σ4,Q,r,rσ,h,k=>by unfold Tg.put at h;cases h
theorem Tg.zU{K:Vo}{H:Hp}{own:Nat}:∀(g:Tg) {vs:List V} {ps:List PV} {σ:L2.St} {σ3 σ4:bv} {Q:L2.St->Hp->Prop},Reps K H vs ps->RepSt K H σ σ3->g.yE ps σ3=some σ4->(∀σ',RepSt K H σ' σ4->(g.under own=true->σ'.drop own=σ.drop own)->Q σ' H)->g.AI K vs σ H Q
 | .nil,vs,ps,σ,σ3,σ4,Q,r,rσ,h,k=>by
  cases ps with
  |nil=>
   unfold Tg.yE at h
   cases h
   cases r
   unfold Tg.AI
   exact⟨rfl,k _ rσ fun _=>rfl⟩
  |cons _ _=>unfold Tg.yE at h;cases h
 | .cons a r',vs,ps,σ,σ3,σ4,Q,r,rσ,h,k=>by
  cases ps with
  |nil=>unfold Tg.yE at h;cases h
  |cons x xs=>
   unfold Tg.yE at h
   split at h
   ·rename_i σ5 e5
    cases r with
    |cons r1 r2=>
     unfold Tg.AI
     refine⟨_,_,rfl,Tg.zM (own:=own) a r1 rσ e5 fun σ' Ab d1=>Tg.zU (own:=own) r' r2 Ab h fun DX B_ d2=>k DX B_ fun hb=>?_⟩
     have hb':a.under own=true/\r'.under own=true:=by simpa [Tg.under]using hb
     rw[d2 hb'.2,d1 hb'.1]
   ·cases h
 | .n _,vs,ps,σ,σ3,σ4,Q,r,rσ,h,k=>by unfold Tg.yE at h;cases h
 | .tp _,vs,ps,σ,σ3,σ4,Q,r,rσ,h,k=>by unfold Tg.yE at h;cases h
end
structure pY (X:Cx) (e:Expr) (g:Tg):Prop where
 ok:PG X e (g.g2 X.K)
structure pZ (X:Cx) (es:List Expr) (g:Tg):Prop where
 ok:uc X es (g.AI X.K)
 len:(assignEach es X.env).length=g.len
def xt(i:Nat){x:Str}(hN:X.N.Nodup)(hi:X.N[i]?=some x)(hx:oK X.env.scope x)(hf:X.fn x=true\/X.env.scope.names.lookup x=some .local:=by first|exact .inl rfl|exact .inr rfl|assumption):pY X (.Name x pos) (.n i):=⟨by
 have h:=oV (pos:=pos) hN hi hx hf
 unfold Tg.g2
 exact h⟩
def lw:pZ X [] .nil:=⟨by unfold Tg.AI;exact oW,rfl⟩
def dv{es:List Expr}{a r:Tg}(h1:pY X e a)(h2:pZ X es r)(hs:(assignEach (e::es) X.env).map (·.2)=assign e X.env::(assignEach es X.env).map (·.2):=by rfl)(hl:(assignEach (e::es) X.env).length=(assignEach es X.env).length+1:=by rfl):pZ X (e::es) (.cons a r):=
 ⟨by unfold Tg.AI;exact mE h1.ok h2.ok hs,by rw[hl,h2.len];rfl⟩
def vH{es:List Expr}{k:Nat}{l:Tg}(hc:X.calm=true)(h:pZ X es l)(hst:(assignEach es X.env).findIdx? (·.1)=none:=by rfl):pY X (.Tuple es k pos) (.tp l):=⟨by
 have h:=qY (pos:=pos) (k:=k) hc h.ok h.len hst
 unfold Tg.g2
 exact h⟩
end
noncomputable def gJ{κ:Type} [DecidableEq κ](kvs:List (κ×PV))(k:κ)(v:PV):List (κ×PV):=
 if (kvs.any fun kv=>decide (kv.1=k))=true then kvs.map (fun kv=>if kv.1=k then (kv.1,v) else kv) else kvs++[(k,v)]
theorem xK.append{K:Vo}{H:Hp}{κ:Type}:∀{vs us:List (κ×V)} {ps qs:List (κ×PV)},xK K H vs ps->xK K H us qs->xK K H (vs++us) (ps++qs)
 |_,_,_,_,.nil,s=>s
 |_,_,_,_,.cons a r,s=>.cons a (xK.append r s)
def xK.put{K:Vo}{H:Hp}{κ:Type} [DecidableEq κ]{k:κ}{v:V}{p:PV}(q:Rep K H v p){vs:List (κ×V)}{ps:List (κ×PV)}(r:xK K H vs ps):xK K H (di vs k v) (gJ ps k p):=by
 have e:(vs.any fun kv=>decide (kv.1=k))=(ps.any fun kv=>decide (kv.1=k)):=by rw[gw,r.any]
 unfold di gJ
 rw[e]
 split
 ·clear e
  rename_i h
  clear h
  induction r with
  |nil=>exact .nil
  |@cons k' v' p' vs' ps' a r ih=>
   rw[EO,EO]
   by_cases z:k'=k
   ·rw[if_pos z,if_pos z];exact .cons q ih
   ·rw[if_neg z,if_neg z];exact .cons a ih
 ·exact r.append (.cons q .nil)
def fE(o i v:PV)(S:aq)(Q:aq->Prop):Prop:=match o with
 | .ref a=>(match S a with
  |some (.lst xs)=>(match i with | .int k=>(match mx xs.length k with|some j=>Q (xF S a (.lst (xs.set j v)))|none=>False)|_=>False)
  |some (.dct kvs)=>(match fB i with|some k=>kvs.length < sizeLine/\Q (xF S a (.dct (gJ kvs k v)))|none=>False)
  |_=>False)
 |_=>False
section
variable {X:Cx} {e o i:Expr} {te to ti:aM} {pos pos':Pos}
noncomputable def wt(X:Cx):V->V->V->Hp->(Hp->Prop)->Prop:=fun o i v H Q=>∃po pi pv S Q3,Rep X.K H o po/\Rep X.K H i pi/\Rep X.K H v pv/\RepS X.K H S/\fE po pi pv S Q3/\∀S' H',Q3 S'->RepS X.K H' S'->Grow X.K H H'->Q H'
def sA(hu:X.A.units+1 < cLine):oU X (wt X):=by
 intro pins s σ H o i v ov iv u Q I ro ri rv ⟨po,pi,pv,S,Q3,r1,r2,r3,rS,q,k⟩
 unfold fE at q
 split at q
 ·split at q
  ·rename_i e
   split at q
   ·split at q
    ·rename_i ej
     cases r1;cases r2
     obtain⟨vs,hv,rl⟩:=rS _ _ e
     rw[<-rl.length]at ej
     exact mO pins s σ H _ _ _ ov iv u Q I ro ri rv ⟨_,_,_,_,rfl,rfl,hv,ej,k _ _ q (rS.put hv trivial ⟨_,am,((rl.set r3 _).mono (.mut hv trivial))⟩) (.mut hv trivial)⟩
    ·exact q.elim
   ·exact q.elim
  ·rename_i e
   split at q
   ·rename_i ek
    cases r1
    have e1:=bw r2 ek
    subst e1
    obtain⟨kv,hv,rk⟩:=rS _ _ e
    exact nG hu pins s σ H _ _ _ ov iv u Q I ro ri rv ⟨_,_,rfl,Af.k hv (by rw[rk.length];exact q.1),k _ _ q.2 (rS.put hv trivial ⟨_,am,(rk.put r3).mono (.mut hv trivial)⟩) (.mut hv trivial)⟩
   ·exact q.elim
  ·exact q.elim
 ·exact q.elim
def jc(te to ti:aM):bt:=fun D σ S=>te σ S (fun v S1=>to σ S1 (fun o S2=>ti σ S2 (fun i S3=>fE o i v S3 (fun S4=>D.nx σ S4)) D.ex) D.ex) D.ex
def jO(hu:X.A.units+1 < cLine)(he:aX X e te)(ho:aX X o to)(hi:aX X i ti)
  (ha:∀v,assign (.Subscript o i pos') X.env v=(do
   let ov <-holding [v] (eval o X.env)
   let iv <-holding [v,ov] (eval i X.env)
   standAt pos'
   holding [v,ov,iv] (setItem ov iv v)
   release [v,ov,iv] []):=by intro _;rfl)
  (hs:swapsWithSole [.Subscript o i pos'] e pos.line X.env=pure false:=by rfl) (hw:swappedStores [.Subscript o i pos'] e X.env=pure none:=by rfl)
  (h1:(assignEach [.Subscript o i pos'] X.env).map (·.2)=[assign (.Subscript o i pos') X.env]:=by rfl):kz X (.Assign [.Subscript o i pos'] e pos) (jc te to ti):=
 ⟨cq (q9 he.ok (qZ ho.ok hi.ok (sA hu) ha) hs hw h1) fun D σ H ⟨σ3,S,D3,rσ,rS,h,xo,n,r,bk,ct⟩=>⟨σ3,S,_,D3.ex,rσ,rS,h,xo,fun v S1 v' H1 h1 rv xS g1=>
  ⟨σ3,S1,_,D3.ex,rσ.mono g1,xS,h1,xo.mono g1,fun o S2 o' H2 h2 ro yN g2=>⟨σ3,S2,_,D3.ex,rσ.mono (g1.trans g2),yN,h2,xo.mono (g1.trans g2),fun i S3 i' H3 h3 ri Ap g3=>
   ⟨o,i,v,S3,_,ro.mono g3,ri,rv.mono (g2.trans g3),Ap,h3,fun S4 H4 h4 DY g4=>n _ S4 _ H4 h4 (rσ.mono (g1.trans (g2.trans (g3.trans g4)))) DY (g1.trans (g2.trans (g3.trans g4)))⟩⟩⟩⟩⟩
end
end L3
namespace L2
open PySem PySem.Spec PyProof.Rows
section
variable {X:Cx} {tg:Expr}
def wu(K:Vo)(tl:TE):TI:=fun σ H R=>tl σ H fun x H1=>(∃a,x = .ref a/\(∃xs,SqL K H1 a xs)/\R (vv K a) H1)\/(∃a,x = .ref a/\(∃xs,SqT K H1 a xs)/\R (vW K a) H1)\/∃z,x = .str z/\R (wj z) H1
def sB{l:Expr}{tl:TE}(hl:PE X l tl):PI X tg l (wu X.K tl):=by
 intro pins s σ H R I h
 refine xI (hl pins s σ H _ I h) fun v s1 ⟨x,H1,I1,r1,q1⟩=>?_
 rcases q1 with⟨a,e,⟨xs,hq⟩,q⟩|⟨a,e,⟨xs,hq⟩,q⟩|⟨z,e,q⟩
 ·subst e
  cases r1
  obtain⟨its,rv,p,hz⟩:=I1.list hq
  refine GO p.isList ?_
  refine⟨s1.heap.objs.size,[s1.heap.objs.size],_,_,H1,rfl,I1.kept (t':=s1.toks) fun b o e=>EF _ e,lK a _,⟨_,EL _ rfl,rfl,rfl⟩,fun b hb=>?_,q⟩
  have e:b=s1.heap.objs.size:=by simpa using hb
  subst e
  exact I1.zC (EJ _) (I1.hok.fresh (EJ _))
 ·subst e
  cases r1
  obtain⟨its,rv,p,hz⟩:=I1.tuple hq
  refine Gh (show s1.heap.IsTuple a its.toArray from p) ?_
  refine⟨s1.heap.objs.size,[s1.heap.objs.size],_,_,H1,rfl,I1.kept (t':=s1.toks) fun b o e=>EF _ e,kj a _,⟨_,EL _ rfl,rfl,rfl⟩,fun b hb=>?_,q⟩
  have e:b=s1.heap.objs.size:=by simpa using hb
  subst e
  exact I1.zC (EJ _) (I1.hok.fresh (EJ _))
 ·subst e
  obtain⟨t,rfl⟩:=r1
  have fin:∀ty,(ty = "str_ascii_iterator" \/ ty = "str_iterator")->vV X pins σ tg R (.ref s1.heap.objs.size) { s1 with heap:=s1.heap.push { cls:=.type ty,data:=.fields #[.str z t,.int 0 0] } }:=fun ty hty=>by
   refine⟨s1.heap.objs.size,[s1.heap.objs.size],_,_,H1,rfl,I1.kept (t':=s1.toks) fun b o e=>EF _ e,mZ hty _ z t,⟨Fp _,_,EL _ rfl,rfl,rfl⟩,fun b hb=>?_,q⟩
   have e:b=s1.heap.objs.size:=by simpa using hb
   subst e
   exact I1.zC (EJ _) (I1.hok.fresh (EJ _))
  cases ha:z.cps.all (· < 128)
  ·exact wpAny_pyIter_wide ha (fin _ (.inr rfl))
  ·exact wpAny_pyIter_ascii ha (fin _ (.inl rfl))
end
end L2
namespace L3
open PySem L2
structure wv where
 items:List PV
 keep:aq->Prop
def iF(K:Vo)(H0:Hp)(J:It)(src:wv):Prop:=∀(i:Nat) (S:aq) (H:Hp),Grow K H0 H->RepS K H S->src.keep S->
 (∀p,src.items[i]?=some p->J.go i H/\∀x H',J.Bw i H x H'->Rep K H' x p/\RepS K H' S/\Grow K H H')/\(i=src.items.length->J.stop i H)
abbrev p4:=bv->aq->(wv->aq->Prop)->de->Prop
inductive LI (X:Cx) (t:p4) (σ:L2.St) (H:Hp) (R:It->Hp->Prop):Prop
 |mk (σ3 S R3 E3) (rσ:RepSt X.K H σ σ3) (rS:RepS X.K H S) (h:t σ3 S R3 E3) (xo:Aa X H E3) (k:∀src S' J H',R3 src S'->iF X.K H' J src->RepS X.K H' S'->Grow X.K H H'->R J H'):LI X t σ H R
structure sC (X:Cx) (tg iter:Expr) (t:p4):Prop where
 ok:PI X tg iter (LI X t)
def nQ{X:Cx}{tg iter:Expr}{t t':TI}(h:PI X tg iter t)(k:∀σ H R,t' σ H R->t σ H R):PI X tg iter t':=fun pins s σ H R I q=>h pins s σ H R I (k σ H R q)
section
variable {X:Cx} {e tg:Expr} {es:List Expr} {te:aM} {ts:List aM} {p pos:Pos}
noncomputable def bJ(S:aq):PV->Option wv
 | .tup xs=>some ⟨xs,fun _=>True⟩
 | .cl xs=>some ⟨xs,fun _=>True⟩
 | .str z=>some ⟨z.cps.toList.map fun c=>.str (fy c),fun _=>True⟩
 | .ref a=>(match S a with|some (.lst xs)=>some ⟨xs,fun S'=>S' a=some (.lst xs)⟩|_=>none)
 |_=>none
def aS(te:aM):p4:=fun σ S R E=>te σ S (fun v S1=>match bJ S1 v with|some src=>R src S1|none=>False) E
end
section
variable {X:Cx} {e tg a b:Expr} {es:List Expr} {te ta tb:aM} {ts:List aM} {p pos:Pos}
def nR{K:Vo}{H0:Hp}{a:Addr}{xs:List PV}:iF K H0 (vv K a) ⟨xs,fun S'=>S' a=some (.lst xs)⟩:=by
 intro i S H g rS hk
 obtain⟨vs,hv,rs⟩:=rS a _ hk
 refine⟨fun p hp=>?_,fun hi=>⟨vs,SqL.of hv,by rw[rs.length,hi];exact EJ _⟩⟩
 obtain⟨v,hx,rv⟩:=rs.get hp
 refine⟨⟨vs,v,SqL.of hv,hx⟩,fun x H' ⟨e,h⟩=>?_⟩
 subst e
 have:=h vs (SqL.of hv)
 rw[hx]at this
 cases this
 exact⟨rv,rS,.refl⟩
def p7{K:Vo}{H0:Hp}{a:Addr}{vs:List V}{xs:List PV}(h:SqT K H0 a vs)(rs:Reps K H0 vs xs):iF K H0 (vW K a) ⟨xs,fun _=>True⟩:=by
 intro i S H g rS _
 have hv:=g.t _ _ h
 refine⟨fun p hp=>?_,fun hi=>⟨vs,hv,by rw[rs.length,hi];exact EJ _⟩⟩
 obtain⟨v,hx,rv⟩:=rs.get hp
 refine⟨⟨vs,v,hv,hx⟩,fun x H' ⟨e,h⟩=>?_⟩
 subst e
 have:=h vs hv
 rw[hx]at this
 cases this
 exact⟨rv.mono g,rS,.refl⟩
def sD{K:Vo}{H0:Hp}{a:Addr}{vs:List V}{xs:List PV}(h:A9 K H0 a vs)(rs:Reps K H0 vs xs):iF K H0 (vv K a) ⟨xs,fun _=>True⟩:=by
 intro i S H g rS _
 have hv:=(g.c _ _ h).sq
 refine⟨fun p hp=>?_,fun hi=>⟨vs,hv,by rw[rs.length,hi];exact EJ _⟩⟩
 obtain⟨v,hx,rv⟩:=rs.get hp
 refine⟨⟨vs,v,hv,hx⟩,fun x H' ⟨e,h⟩=>?_⟩
 subst e
 have:=h vs hv
 rw[hx]at this
 cases this
 exact⟨rv.mono g,rS,.refl⟩
def p8{K:Vo}{H0:Hp}{z:Str}:iF K H0 (wj z) ⟨z.cps.toList.map fun c=>.str (fy c),fun _=>True⟩:=by
 intro i S H g rS _
 refine⟨fun p hp=>?_,fun hi=>by show z.cps.size<=i;rw[hi,EG,GW];exact EJ _⟩
 rw[E1]at hp
 cases hc:z.cps.toList[i]? with
 |none=>rw[hc]at hp;cases hp
 |some c=>
  rw[hc]at hp
  cases hp
  have hc':z.cps[i]?=some c:=by simpa using hc
  refine⟨?_,fun x H' ⟨e,c',h1,h2⟩=>?_⟩
  ·show i < z.cps.size
   by_cases hi:i < z.cps.size
   ·exact hi
   ·rw[Gd (by omega)]at hc';cases hc'
  ·subst e
   rw[hc']at h1
   cases h1
   subst h2
   exact⟨.str _,rS,.refl⟩
def b7(he:aX X e te):sC X tg e (aS te):=⟨nQ (sB he.ok) fun σ H R ⟨σ3,S,R3,E3,rσ,rS,h,xo,k⟩=>⟨σ3,S,_,E3,rσ,rS,h,xo,fun v S1 v' H1 h1 rv xS g1=>by
 split at h1
 ·rename_i src hs
  unfold bJ at hs
  split at hs
  ·cases hs
   cases rv with
   |tup hq rs=>exact .inr (.inl ⟨_,rfl,⟨_,hq⟩,k _ S1 _ H1 h1 (p7 hq rs) xS g1⟩)
  ·cases hs
   cases rv with
   |cl hq rs=>exact .inl ⟨_,rfl,⟨_,hq.sq⟩,k _ S1 _ H1 h1 (sD hq rs) xS g1⟩
  ·cases hs
   cases rv
   exact .inr (.inr ⟨_,rfl,k _ S1 _ H1 h1 p8 xS g1⟩)
  ·cases rv
   split at hs
   ·rename_i ea
    cases hs
    obtain⟨vs,hv,rs⟩:=xS _ _ ea
    exact .inl ⟨_,rfl,⟨_,SqL.of hv⟩,k _ S1 _ H1 h1 nR xS g1⟩
   ·cases hs
  ·cases hs
 ·exact h1.elim⟩⟩
noncomputable def be(lo:Int)(n:Nat):List PV:=(List.range n).map fun(i:Nat)=>PV.int (lo+i)
def l8{K:Vo}{H0:Hp}{lo:Int}{n:Nat}:iF K H0 (vx lo n) ⟨be lo n,fun _=>True⟩:=by
 intro i S H g rS _
 refine⟨fun p hp=>?_,fun hi=>by show n<=i;rw[hi];simp[be]⟩
 unfold be at hp
 rw[E1]at hp
 by_cases hi:i < n
 ·rw[GX hi]at hp
  cases hp
  refine⟨hi,fun x H' ⟨e,h⟩=>?_⟩
  subst e h
  exact⟨.int _,rS,.refl⟩
 ·rw[Gk (by simpa using hi)]at hp
  cases hp
def gK(ta:aM):p4:=fun σ S R E=>ta σ S (fun v S1=>match v with | .int j=>-(2 ^ 62)<=j/\j < 2 ^ 62/\R ⟨be 0 j.toNat,fun _=>True⟩ S1|_=>False) E
def dy(hs:starEach [a] X.env=[(false,eval a X.env)])(hg:Gl X "range")(hm:X.mg "range" = none)(ha:iC X [a] [ta]):sC X tg (.Call (.Name "range" p) [a] [] pos) (gK ta):=
 ⟨nQ (lL hg hm ha.ok hs) fun σ H R ⟨σ3,S,R3,E3,rσ,rS,h,xo,k⟩=>⟨σ3,S,_,E3,rσ,rS,h,xo,fun v S1 v' H1 h1 rv xS g1=>by
  split at h1
  ·cases rv
   exact⟨_,rfl,h1.1,h1.2.1,k _ S1 _ H1 h1.2.2 l8 xS g1⟩
  ·exact h1.elim⟩⟩
noncomputable def cJ(xs ys:List PV):List PV:=(xs.zip ys).map fun z=>.tup [z.1,z.2]
end
section
variable {X:Cx} {iter tg c:Expr} {body:List Stmt} {ti:p4} {g:Tg} {tb:bt} {tc:fP} {pos:Pos}
noncomputable def fF(g:Tg)(tb:bt)(D:dm)(keep:aq->Prop):List PV->bv->aq->Prop
 |[],σ,S=>keep S/\D.nx σ S
 |x::r,σ,S=>keep S/\match g.put x σ with|some σ'=>tb { D with nx:=fF g tb D keep r,ct:=fF g tb D keep r,bk:=D.nx } σ' S|none=>False
def fG(ti:p4)(g:Tg)(tb:bt):bt:=fun D σ S=>ti σ S (fun src S1=>fF g tb D src.keep src.items σ S1) D.ex
def jP(hp:PassesOwn (model X.prog X.w) X.A X.env X.xe)(hc:X.calm=true)(hi:sC X tg iter ti)(hg:pY X tg g)(hb:fA X body tb)(hs:∀x,foldedSetIterable iter X.env x=pure x:=by intro _;rfl):kz X (.For tg iter body [] pos) (fG ti g tb):=
 ⟨cq (rg hp hc hi.ok hg.ok hb.ok hs) fun D σ H ⟨σ3,S,D3,rσ,rS,h,xo,n,r,bk,ct⟩=>⟨σ3,S,_,D3.ex,rσ,rS,h,xo,fun src S1 J H1 h1 sim xS g1=>by
  refine⟨fun i m σ' H'=>i+m=src.items.length/\∃σ4 S',RepSt X.K H' σ' σ4/\RepS X.K H' S'/\Grow X.K H1 H'/\fF g tb D3 src.keep (src.items.drop i) σ4 S',⟨src.items.length,Nat.zero_add _,σ3,S1,rσ.mono g1,xS,.refl,by simpa using h1⟩,?_⟩
  rintro i m σ' H' ⟨hm,σ4,S',Ab,yK,g',hw⟩
  cases hd:src.items.drop i with
  |nil=>
   rw[hd]at hw
   have hi:i=src.items.length:=by
    have:=Fl List.length hd
    rw[FQ,G3]at this
    omega
   exact .inl ⟨(sim i S' H' g' yK hw.1).2 hi,n _ S' _ H' hw.2 Ab yK (g1.trans g')⟩
  |cons x rest=>
   rw[hd]at hw
   have hx:src.items[i]?=some x:=by
    have:=Fl (fun l=>l[0]?) hd
    simpa using this
   have hrest:src.items.drop (i+1)=rest:=by
    have:=Fl List.tail hd
    simpa [List.tail_drop]using this
   have hlt:i < src.items.length:=by
    by_cases z:i < src.items.length
    ·exact z
    ·rw[Gk (by omega)]at hx;cases hx
   obtain⟨go,yl⟩:=(sim i S' H' g' yK hw.1).1 x hx
   refine .inr ⟨go,fun σ5 H5=>∃σ6 S6,RepSt X.K H5 σ5 σ6/\RepS X.K H5 S6/\Grow X.K H1 H5/\fF g tb D3 src.keep rest σ6 S6,?_,fun v H5 hv=>?_⟩
   ·rintro σ5 H5 ⟨σ6,S6,q1,q2,q3,q4⟩
    exact⟨m - 1,by omega,by omega,σ6,S6,q1,q2,q3,by rw[hrest];exact q4⟩
   ·obtain⟨rv,Ca,g5⟩:=yl v H5 hv
    obtain⟨_,hw⟩:=hw
    split at hw
    ·rename_i σ6 e6
     refine Tg.zM (own:=0) g rv (Ab.mono g5) e6 fun σ7 BC _=>?_
     exact⟨σ6,S',_,BC,Ca,hw,xo.mono (g1.trans (g'.trans g5)),fun σ8 S8 σ9 H9 q1 q2 q3 q4=>⟨σ8,S8,q2,q3,g'.trans (g5.trans q4),q1⟩,r.mono (g1.trans (g'.trans g5)),n.mono (g1.trans (g'.trans g5)),
      fun σ8 S8 σ9 H9 q1 q2 q3 q4=>⟨σ8,S8,q2,q3,g'.trans (g5.trans q4),q1⟩⟩
    ·exact hw.elim⟩⟩
def gL(tc:fP)(tb:bt):bt:=fun D σ S=>∃W:Nat->bv->aq->Prop,(∃m,W m σ S)/\∀m σ S,W m σ S->
 tc σ S (fun b S1=>if b=true then ∃N:bv->aq->Prop,(∀σ' S',N σ' S'->∃m',m' < m/\W m' σ' S')/\tb { D with nx:=N,ct:=N,bk:=D.nx } σ S1 else D.nx σ S1) D.ex
def jd(hp:PassesOwn (model X.prog X.w) X.A X.env X.xe)(hc:ll X c tc)(hb:fA X body tb):kz X (.While c body [] pos) (gL tc tb):=
 ⟨cq (mF hp hc.ok hb.ok) fun D σ H ⟨σ3,S,D3,rσ,rS,⟨W,⟨m0,w0⟩,turn⟩,xo,n,r,bk,ct⟩=>by
  refine⟨fun m σ' H'=>∃σ4 S',RepSt X.K H' σ' σ4/\RepS X.K H' S'/\Grow X.K H H'/\W m σ4 S',⟨m0,σ3,S,rσ,rS,.refl,w0⟩,?_⟩
  rintro m σ' H' ⟨σ4,S',Ab,yK,g',w'⟩
  refine⟨σ4,S',_,D3.ex,Ab,yK,turn m σ4 S' w',xo.mono g',fun b S1 H1 h1 xS g1=>?_⟩
  cases b with
  |true=>
   rw[if_pos rfl]at h1 ⊢
   obtain⟨N,hN,h1⟩:=h1
   refine⟨fun σ5 H5=>∃σ6 S6,RepSt X.K H5 σ5 σ6/\RepS X.K H5 S6/\Grow X.K H H5/\N σ6 S6,?_,?_⟩
   ·rintro σ5 H5 ⟨σ6,S6,q1,q2,q3,q4⟩
    obtain⟨m',hm,w6⟩:=hN σ6 S6 q4
    exact⟨m',hm,σ6,S6,q1,q2,q3,w6⟩
   ·exact⟨σ4,S1,_,Ab.mono g1,xS,h1,xo.mono (g'.trans g1),fun σ8 S8 σ9 H9 q1 q2 q3 q4=>⟨σ8,S8,q2,q3,g'.trans (g1.trans q4),q1⟩,r.mono (g'.trans g1),n.mono (g'.trans g1),
     fun σ8 S8 σ9 H9 q1 q2 q3 q4=>⟨σ8,S8,q2,q3,g'.trans (g1.trans q4),q1⟩⟩
  |false=>
   rw[if_neg (by decide)]at h1 ⊢
   exact n _ S1 _ H1 h1 (Ab.mono g1) xS (g'.trans g1)⟩
end
noncomputable def e7:de:=fun _ _ _=>False
def Aa.no{X:Cx}{H:Hp}:Aa X H e7:=fun _ _ _ _ _ _ _ _ _ _ _ _ _ _ h=>h.elim
section
variable {X:Cx} {elt iter tg c:Expr} {ifs:List Expr} {scope:Scope} {pos:Pos} {ti:p4} {g:Tg} {tc:fP} {te:aM} {fs N:Vs} {own:Nat} {fr:List Nat}
noncomputable def cC(g:Tg)(tc:fP)(te:aM)(σ':bv)(keep:aq->Prop)(fin:List PV->aq->Prop):List PV->List PV->aq->Prop
 |[],ys,S=>keep S/\ys.length<=sizeLine/\fin ys S
 |x::r,ys,S=>keep S/\ys.length<=sizeLine/\match g.put x σ' with
  |some σ2=>tc σ2 S (fun b S3=>if b=true then te σ2 S3 (fun y S4=>cC g tc te σ' keep fin r (ys++[y]) S4) e7 else cC g tc te σ' keep fin r ys S3) e7
  |none=>False
def cK:fP:=fun _ S Q _=>Q true S
structure tR (X:Cx) (ifs:List Expr) (t:fP):Prop where
 ok:PF X ifs (LT X t)
def kG{t t':TT}(h:PF X ifs t)(k:∀σ H Q,t' σ H Q->t σ H Q):PF X ifs t':=fun pins s σ H Q I q=>h pins s σ H Q I (k σ H Q q)
def dC:tR X [] cK:=⟨kG rX fun σ H Q ⟨σ3,S,Q3,E3,rσ,rS,h,xo,k⟩=>k true S H h rS .refl⟩
def nS(h:ll X c tc):tR X [c] tc:=⟨rY h.ok⟩
noncomputable def d8(own:Nat)(fr:List Nat)(σ:bv):bv:=List.replicate own none++fr.map fun j=>lk σ j
def p9{K:Vo}{H:Hp}{σ:L2.St}{σ3:bv}(r:RepSt K H σ σ3)(own:Nat)(fr:List Nat):RepSt K H (cz own fr σ) (d8 own fr σ3):=by
 refine⟨by unfold cz d8;simp,fun i p e=>?_⟩
 unfold d8 at e
 unfold cz
 by_cases hi:i < own
 ·rw[E5 (by simpa using hi),FP,if_pos hi]at e
  cases e
 ·rw[E7 (by simpa using hi),Fq,E1]at e ⊢
  cases hj:fr[i - own]? with
  |none=>rw[hj]at e;cases e
  |some j=>
   rw[hj]at e
   simp only[Option.map_some,Option.some.injEq]at e ⊢
   obtain⟨v,hv,rv⟩:=r.at' j p (i9 e)
   exact⟨v,by rw[hv];rfl,rv⟩
def aO(ti:p4)(g:Tg)(tc:fP)(te:aM)(own:Nat)(fr:List Nat):aM:=fun σ S Q E=>ti σ S (fun src S1=>cC g tc te (d8 own fr σ) src.keep (fun ys S2=>∀p,S2 p=none->Q (.ref p) (xF S2 p (.lst ys))) src.items [] S1) E
def iG{σ:L2.St}{H:Hp}{Q:VK}(Az:g.under own=true)(B0:Bk):LE X (aO ti g tc te own fr) σ H Q->mW (LI X ti) (g.g2 X.K) (fun σ H Q=>∃σ3 S Q3,RepSt X.K H σ σ3/\RepS X.K H S/\tc σ3 S Q3 e7/\∀b S' H',Q3 b S'->RepS X.K H' S'->Grow X.K H H'->Q b H')
  (fun σ H Q=>∃σ3 S Q3,RepSt X.K H σ σ3/\RepS X.K H S/\te σ3 S Q3 e7/\Ret X.K H Q3 Q) own fr σ H Q:=fun⟨σ3,S,Q3,E3,rσ,rS,h,xo,k⟩=>by
 refine⟨σ3,S,_,E3,rσ,rS,h,xo,fun src S1 J H1 h1 sim xS g1=>?_⟩
 refine⟨fun i m ys H'=>i+m=src.items.length/\∃zs S',Reps X.K H' ys zs/\RepS X.K H' S'/\Grow X.K H1 H'/\cC g tc te (d8 own fr σ3) src.keep (fun ys S2=>∀p,S2 p=none->Q3 (.ref p) (xF S2 p (.lst ys))) (src.items.drop i) zs S',⟨src.items.length,Nat.zero_add _,[],S1,.nil,xS,.refl,by simpa using h1⟩,?_⟩
 rintro i m ys H' ⟨hm,zs,S',rz,yK,g',hw⟩
 cases hd:src.items.drop i with
 |nil=>
  rw[hd]at hw
  have hi:i=src.items.length:=by
   have:=Fl List.length hd
   rw[FQ,G3]at this
   omega
  refine .inl ⟨(sim i S' H' g' yK hw.1).2 hi,by rw[rz.length];exact hw.2.1,fun D hD=>?_⟩
  exact k _ _ _ _ (hw.2.2 D (yK.free hD)) (.ref D) (yK.new hD ⟨_,am,rz.mono (.new hD)⟩) (g1.trans (g'.trans (.new hD)))
 |cons x rest=>
  rw[hd]at hw
  have hx:src.items[i]?=some x:=by
   have:=Fl (fun l=>l[0]?) hd
   simpa using this
  have hrest:src.items.drop (i+1)=rest:=by
   have:=Fl List.tail hd
   simpa [List.tail_drop]using this
  have hlt:i < src.items.length:=by
   by_cases z:i < src.items.length
   ·exact z
   ·rw[Gk (by omega)]at hx;cases hx
  obtain⟨go,yl⟩:=(sim i S' H' g' yK hw.1).1 x hx
  refine .inr ⟨go,by rw[rz.length];exact hw.2.1,fun ys' H5=>∃zs' S6,Reps X.K H5 ys' zs'/\RepS X.K H5 S6/\Grow X.K H1 H5/\cC g tc te (d8 own fr σ3) src.keep (fun ys S2=>∀p,S2 p=none->Q3 (.ref p) (xF S2 p (.lst ys))) rest zs' S6,?_,fun v H5 hv=>?_⟩
  ·rintro ys' H5 ⟨zs',S6,q1,q2,q3,q4⟩
   exact⟨m - 1,by omega,by omega,zs',S6,q1,q2,q3,by rw[hrest];exact q4⟩
  ·obtain⟨rv,Ca,g5⟩:=yl v H5 hv
   obtain⟨_,_,hw⟩:=hw
   split at hw
   ·rename_i σ6 e6
    refine Tg.zM (own:=own) g rv ((p9 rσ own fr).mono (g1.trans (g'.trans g5))) e6 fun σ7 BC d7=>⟨d7 Az,?_⟩
    refine⟨σ6,S',_,BC,Ca,hw,fun b S8 H8 h8 C0 g8=>?_⟩
    cases b with
    |true=>
     rw[if_pos rfl]at h8 ⊢
     exact⟨σ6,S8,_,BC.mono g8,C0,h8,fun y S9 y' H9 h9 ry DZ g9=>⟨zs++[y],S9,(rz.mono (g5.trans (g8.trans g9))).append (.cons ry .nil),DZ,g'.trans (g5.trans (g8.trans g9)),h9⟩⟩
    |false=>
     rw[if_neg (by decide)]at h8 ⊢
     exact⟨zs,S8,rz.mono (g5.trans g8),C0,g'.trans (g5.trans g8),h8⟩
   ·exact hw.elim
def sE(fs:Vs)(own:Nat)(fr:List Nat)(N:Vs)(Az:g.under own=true)(hc:X.calm=true)(hclos:closureFor scope X.env=pure (bx X.env fs))(hcell:∀y∈scope.names,y.2 ≠ .cell)(hkind:scope.kind = .function)
  (hnames:∀x∈scope.names,x.2 = .local->scope.names.lookup x.1=some .local) (hcl:br X.env fs) (hhas:i6 (relabel scope X.env).names (bx X.env fs)=true)
  (hlen:N.length=own+fr.length) (hN:(N.drop own).map some=fr.map fun j=>X.N[j]?) (hF:xY X.env scope (bx X.env fs) (N.drop own))
  (hi:sC X tg iter ti) (hg:∀B,pY (X.yJ N scope fs B) tg g) (hf:∀B,tR (X.yJ N scope fs B) ifs tc) (he:∀B,aX (X.yJ N scope fs B) elt te)
  (hs:∀x,foldedSetIterable iter X.env x=pure x:=by intro _;rfl):aX X (.ListComp elt [⟨tg,iter,ifs,0⟩] scope pos) (aO ti g tc te own fr):=
 ⟨aI (pr fs own fr N hc hclos hcell hkind hnames hcl hhas hlen hN hF hi.ok (fun B=>(hg B).ok)
  (fun B=>kG (hf B).ok fun σ H Q ⟨σ3,S,Q3,rσ,rS,h,k⟩=>⟨σ3,S,Q3,e7,rσ,rS,h,.no,k⟩) (fun B=>aI (he B).ok fun σ H Q ⟨σ3,S,Q3,rσ,rS,h,k⟩=>⟨σ3,S,Q3,e7,rσ,rS,h,.no,k⟩) hs) fun _ _ _=>iG Az ⟨0,X.s₀,X.H₀,[],[]⟩⟩
def sF(fs:Vs)(own:Nat)(fr:List Nat)(N:Vs){i:Nat}{y:Str}{py spos:Pos}(hX:X.N.Nodup)(hix:X.N[i]?=some y)(hy:X.env.scope.names.lookup y=some .local)
  (hsw:swapsWith (.ListComp elt [⟨tg,iter,ifs,0⟩] scope pos) (some (.Name y py)) spos.line X.env=pure true)
  (Az:g.under own=true) (hc:X.calm=true) (hclos:closureFor scope X.env=pure (bx X.env fs)) (hcell:∀y∈scope.names,y.2 ≠ .cell) (hkind:scope.kind = .function)
  (hnames:∀x∈scope.names,x.2 = .local->scope.names.lookup x.1=some .local) (hcl:br X.env fs) (hhas:i6 (relabel scope X.env).names (bx X.env fs)=true)
  (hlen:N.length=own+fr.length) (hN:(N.drop own).map some=fr.map fun j=>X.N[j]?) (hF:xY X.env scope (bx X.env fs) (N.drop own))
  (hi:sC X tg iter ti) (hg:∀B,pY (X.yJ N scope fs B) tg g) (hf:∀B,tR (X.yJ N scope fs B) ifs tc) (he:∀B,aX (X.yJ N scope fs B) elt te)
  (hs:∀x,foldedSetIterable iter X.env x=pure x:=by intro _;rfl):kz X (.Assign [.Name y py] (.ListComp elt [⟨tg,iter,ifs,0⟩] scope pos) spos) (aw i (aO ti g tc te own fr)):=
 ⟨cq (pA fs own fr N hX hix hy hsw hc hclos hcell hkind hnames hcl hhas hlen hN hF hi.ok (fun B=>(hg B).ok)
  (fun B=>kG (hf B).ok fun σ H Q ⟨σ3,S,Q3,rσ,rS,h,k⟩=>⟨σ3,S,Q3,e7,rσ,rS,h,.no,k⟩) (fun B=>aI (he B).ok fun σ H Q ⟨σ3,S,Q3,rσ,rS,h,k⟩=>⟨σ3,S,Q3,e7,rσ,rS,h,.no,k⟩) hs)
  fun D σ H ⟨σ3,S,D3,rσ,rS,h,xo,n,r,bk,ct⟩=>iG Az ⟨0,X.s₀,X.H₀,[],[]⟩ ⟨σ3,S,_,D3.ex,rσ,rS,h,xo,fun p S1 v H1 h1 rv xS g1=>n _ S1 _ H1 h1 ((rσ.mono g1).set rv i) xS g1⟩⟩
end
abbrev aQ:=List PV->aq->bY->de->Prop
noncomputable def tS(K:Vo)(n:Nat)(sp:aQ):Sp:=fun vs H Q _=>vs.length=n/\∃ps S Q3 E3,Reps K H vs ps/\RepS K H S/\sp ps S Q3 E3/\Ret K H Q3 Q
structure A2 (P:Program) (w:World) (K:Vo) (mg:Vr) (base:Heap) (k:Nat) (f:Addr) (fd:FuncData) (ps:Vs) (sp:aQ):Prop where
 ok:g_ P w K mg base oM k f fd ps (tS K ps.length sp)
section
variable {X:Cx} {e o:Expr} {es:List Expr} {te to:aM} {ts:List aM} {x:Str} {p pos apos cpos:Pos} {k:Nat} {f:Addr} {fd:FuncData} {ps:Vs} {sp:aQ}
def ad(sp:aQ)(ts:List aM):aM:=fun σ S Q E=>ap ts σ S (fun ps S1=>sp ps S1 Q E) E
def sG(F:A2 X.prog X.w X.K X.mg X.base k f fd ps sp)(hr:Room k X.A)(hg:Gl X x)(hm:X.mg x=some (.ref f))(hk:PySem.W.keepIn X.K (.ref f)=true)(hb:Binds X.K fd ps [])(he:starEach (e::es) X.env=(false,eval e X.env)::starEach es X.env)(ha:iC X (e::es) ts)
  (hl:ts.length=ps.length:=by rfl) (hdb:(x == ("__debug__":Str))=false:=by decide) (hpl:(backTo pos (starEach es X.env)).any (·.1)=false:=by rfl):aX X (.Call (.Name x p) (e::es) [] pos) (ad sp ts):=
 ⟨aI (o8 F.ok hr hg hm hk hb .nil qC ha.ok hdb he hpl) fun σ H Q ⟨σ3,S,Q3,E3,rσ,rS,h,xo,k⟩=>bz rσ rS h xo fun ps' S' vs H' hl' q rv yK g=>by
  rw[Gn]
  exact⟨by rw[rv.length,hl',hl],ps',S',Q3,E3,rv,yK,q,k.mono g⟩⟩
end
noncomputable def aF(n:Nat)(args:List PV):bv:=args.map some++List.replicate (n - args.length) none
def bI(n:Nat)(t:bt):aQ:=fun args S Q _=>t { nx:=fun _ S'=>Q .non S',rt:=Q,ex:=e7 } (aF n args) S
def fH{K:Vo}{H:Hp}{N:Vs}{vs:List V}{ps:List PV}(r:Reps K H vs ps):RepSt K H (L2.bn N vs) (aF N.length ps):=by
 refine⟨by unfold L2.bn aF;simp[r.length],fun i p e=>?_⟩
 unfold aF at e
 unfold L2.bn
 by_cases hi:i < ps.length
 ·rw[E5 (by simpa using hi),E1]at e
  cases hp:ps[i]? with
  |none=>rw[hp]at e;cases e
  |some q=>
   rw[hp]at e
   cases e
   obtain⟨v,hv,rv⟩:=r.get hp
   rw[E5 (by rw[EG,r.length];exact hi),E1,hv]
   exact⟨v,rfl,rv⟩
 ·rw[E7 (by simpa using hi),FP]at e
  split at e
  ·cases e
  ·cases e
section
variable {P:Program} {w:World} {K:Vo} {mg:Vr} {base:Heap}
noncomputable abbrev vI(P:Program)(w:World)(K:Vo)(mg:Vr)(base:Heap)(N:Vs)(qual:Str)(st:Stmt)(f:Addr)(cdv:Value)(A:Around)(outer:List Env)(s:Shared)(H:Hp)(E:XK):Cx:=(iT oM P w K mg base N qual (ay st) f cdv A outer s H E).An
def wZ{x qual:Str}{st:Stmt}{f:Addr}{fd:FuncData}{N ps:Vs}{k:Nat}{t:bt}(F:AG K x qual st f fd)(S:bX N ps (ay st))
  (hbody:∀(cdv:Value) (A:Around) (outer:List Env) (s:Shared) (H:Hp) (E:XK),Room k (A.deeper (PyProof.Rows.envOfC qual (ay st) s.heap.objs.size f cdv))->fA (vI P w K mg base N qual st f cdv A outer s H E) (aY st) t) :
  A2 P w K mg base (k+1) f fd ps (bI N.length t):=
 ⟨F.ok S (fun vs H Q E h=>h.1) fun cdv A outer s H vs Q E hr ⟨hl,ps',S',Q3,E3,rv,rS,q,kk⟩=>⟨_,(hbody cdv A outer s H E hr).ok,aF N.length ps',S',_,fH rv,rS,q,.no,fun σ3 S2 σ2 H2 h2 _ yN g2=>kk _ S2 _ H2 h2 .non yN g2,kk,fun _ _ _ _ h2=>h2.elim,fun _ _ _ _ h2=>h2.elim⟩⟩
end
section
variable {X:Cx} {o e f:Expr} {to te tf:aM} {pos apos cpos:Pos}
noncomputable def fI:List (aM×aM)->bv->aq->(List (PV×PV)->aq->Prop)->de->Prop
 |[],_,S,Q,_=>Q [] S
 |(tk,tv)::r,σ,S,Q,E=>tk σ S (fun x S1=>tv σ S1 (fun y S2=>fI r σ S2 (fun ps S3=>Q ((x,y)::ps) S3) E) E) E
noncomputable def jQ:List (PV×PV)->Option (List (aK×PV))
 |[]=>some []
 |(x,y)::r=>match fB x,jQ r with|some k,some l=>some ((k,y)::l)|_,_=>none
noncomputable def dD(kvs more:List (aK×PV)):List (aK×PV):=more.foldl (fun acc kv=>gJ acc kv.1 kv.2) kvs
structure vJ (X:Cx) (pos:Pos) (keys:List (Option Expr)) (values:List Expr) (zd:List (aM×aM)):Prop where
 ok:uH X pos keys values (zd.map fun t=>(LE X t.1,LE X t.2))
def sH:vJ X pos [] [] []:=⟨pk⟩
def je{k v:Expr}{ks:List (Option Expr)}{vs:List Expr}{tk tv:aM}{zd:List (aM×aM)}(hk:aX X k tk)(hv:aX X v tv)(hr:vJ X pos ks vs zd):vJ X pos (some k::ks) (v::vs) ((tk,tv)::zd):=⟨mT hk.ok hv.ok hr.ok⟩
inductive iH (K:Vo) (H:Hp):List (V×V)->List (PV×PV)->Prop
 |nil:iH K H [] []
 |cons {a b:V} {p q:PV} {vs:List (V×V)} {ps:List (PV×PV)}:Rep K H a p->Rep K H b q->iH K H vs ps->iH K H ((a,b)::vs) ((p,q)::ps)
theorem gM:∀{zd:List (aM×aM)} {σ:L2.St} {H:Hp} {Q:List (V×V)->Hp->Prop} {σ3:bv} {S:aq} {Q3:List (PV×PV)->aq->Prop} {E3:de},RepSt X.K H σ σ3->RepS X.K H S->fI zd σ3 S Q3 E3->Aa X H E3->
  (∀ps S' vs H',ps.length=zd.length->Q3 ps S'->iH X.K H' vs ps->RepS X.K H' S'->Grow X.K H H'->Q vs H')->i3 (zd.map fun t=>(LE X t.1,LE X t.2)) σ H Q
 |[],σ,H,Q,σ3,S,Q3,E3,rσ,rS,h,xo,k=>k [] S [] H rfl h .nil rS .refl
 |(tk,tv)::ts,σ,H,Q,σ3,S,Q3,E3,rσ,rS,h,xo,k=>
  ⟨σ3,S,_,E3,rσ,rS,h,xo,fun p S1 v H1 h1 rv xS g1=>⟨σ3,S1,_,E3,rσ.mono g1,xS,h1,xo.mono g1,fun p2 S2 v2 H2 h2 Cb yN g2=>gM (rσ.mono (g1.trans g2)) yN h2 (xo.mono (g1.trans g2)) fun ps S3 vs H3 hl h3 A_ Ap g3=>
   k ((p,p2)::ps) S3 ((v,v2)::vs) H3 (by rw[EU,EU,hl]) h3 (.cons (rv.mono (g2.trans g3)) (Cb.mono g3) A_) Ap (g1.trans (g2.trans g3))⟩⟩
theorem iI{K:Vo}{H:Hp}:∀{vs:List (V×V)} {ps:List (PV×PV)} {l:List (aK×PV)},iH K H vs ps->jQ ps=some l->∃kvs:List (aK×V),vs=kvs.map (fun kv=>(kV kv.1,kv.2))/\xK K H kvs l
 |_,_,_,.nil,h=>by cases h;exact⟨[],rfl,.nil⟩
 |_,_,l,.cons a b r,h=>by
  unfold jQ at h
  split at h
  ·rename_i k l' ek el
   cases h
   obtain⟨kvs,e,q⟩:=iI r el
   refine⟨(k,_)::kvs,?_,.cons b q⟩
   rw[EO,<-e,bw a ek]
  ·cases h
def xK.merge{K:Vo}{H:Hp}{more:List (aK×V)}{m3:List (aK×PV)}(r:xK K H more m3):∀{kvs:List (aK×V)} {k3:List (aK×PV)},xK K H kvs k3->xK K H (cG kvs more) (dD k3 m3):=by
 induction r with
 |nil=>intro kvs k3 q;exact q
 |cons a r ih=>intro kvs k3 q;exact ih (q.put a)
def jR(zd:List (aM×aM)):aM:=fun σ S Q E=>∀p,S p=none->fI zd σ (xF S p (.dct [])) (fun ps S2=>S2 p=some (.dct [])/\match jQ ps with|some kvs=>Q (.ref p) (xF S2 p (.dct (dD [] kvs)))|none=>False) E
def sI{keys:List (Option Expr)}{values:List Expr}{zd:List (aM×aM)}(h:vJ X pos keys values zd)(hall:keys.all (·.isSome)=true:=by rfl)(hl:keys.length=values.length:=by rfl)(h0:keys≠[]:=by exact List.cons_ne_nil _ _)(BW:keys.length<=15:=by decide)
  (ht:zd.length<=15:=by exact Hr rfl):aX X (.Dict keys values pos) (jR zd):=
 ⟨aI (pp h.ok hall hl h0 BW) fun σ H Q ⟨σ3,S,Q3,E3,rσ,rS,hq,xo,k⟩=>fun p hp=>by
  have g0:Grow X.K H (upd H p (.dK [])):=.new hp
  refine gM (rσ.mono g0) (rS.new hp (o:=.dct []) ⟨[],am,.nil⟩) (hq p (rS.free hp)) (xo.mono g0) fun ps S' vs H' hl' q rv yK g=>?_
  obtain⟨e,q⟩:=q
  obtain⟨kv,hv,rk⟩:=yK _ _ e
  cases rk
  refine⟨hv,?_⟩
  split at q
  ·rename_i kvs ek
   obtain⟨l,el,rl⟩:=iI rv ek
   refine⟨l,el,?_,k _ _ _ _ q (.ref p) (yK.put hv trivial ⟨_,am,(xK.merge rl .nil).mono (.mut hv trivial)⟩) (g0.trans (g.trans (.mut hv trivial)))⟩
   have z1:∀{vs:List (V×V)} {ps:List (PV×PV)},iH X.K H' vs ps->vs.length=ps.length:=by
    intro vs ps r
    induction r with
    |nil=>rfl
    |cons _ _ _ ih=>rw[EU,EU,ih]
   have z2:=Fl List.length el
   rw[EG,z1 rv,hl']at z2
   omega
  ·exact q.elim⟩
def iJ(to te tf:aM):aM:=fun σ S Q E=>to σ S (fun x S1=>match x with
 | .ref a=>(match S1 a with
  |some (.dct _)=>te σ S1 (fun y S2=>tf σ S2 (fun z S3=>match S3 a,fB y with|some (.dct kvs),some k=>Q ((dr kvs k).getD z) S3|_,_=>False) E) E
  |_=>False)
 |_=>False) E
def kH(hu:X.A.units+1 < cLine)(ho:aX X o to)(he:aX X e te)(hf:aX X f tf)(m:M2 X o "get" apos e f cpos):aX X (.Call (.Attribute o "get" apos) [e,f] [] cpos) (iJ to te tf):=
 ⟨aI (mU hu ho.ok he.ok hf.ok m) fun σ H Q ⟨σ3,S,Q3,E3,rσ,rS,h,xo,k⟩=>⟨σ3,S,_,E3,rσ,rS,h,xo,fun x S1 v H1 h1 rx xS g1=>by
  split at h1
  ·cases rx
   split at h1
   ·rename_i ea
    obtain⟨kv,hv,rk⟩:=xS _ _ ea
    refine⟨_,rfl,.inl ⟨_,.inl hv⟩,σ3,S1,_,E3,rσ.mono g1,xS,h1,xo.mono g1,fun y S2 y' H2 h2 ry yN g2=>⟨σ3,S2,_,E3,rσ.mono (g1.trans g2),yN,h2,xo.mono (g1.trans g2),fun z S3 z' H3 h3 rz Ap g3=>?_⟩⟩
    split at h3
    ·rename_i kvs k' eb ek
     obtain⟨kv3,D_,C1⟩:=Ap _ _ eb
     have e1:=bw (ry.mono g3) ek
     subst e1
     refine⟨_,DGet.k D_,k _ S3 _ H3 h3 ?_ Ap (g1.trans (g2.trans g3))⟩
     cases ev:dr kvs k' with
     |none=>rw[C1.valN ev];exact rz
     |some w=>
      obtain⟨w',hw,rw'⟩:=C1.val ev
      rw[hw];exact rw'
    ·exact h3.elim
   ·exact h1.elim
  ·exact h1.elim⟩⟩
def lx(kvs:List (aK×Int))(te tf:aM):aM:=fun σ S Q E=>te σ S (fun y S2=>tf σ S2 (fun z S3=>match fB y with|some k=>Q (((kvs.find? fun kv=>decide (kv.1=k)).map fun kv=>PV.int kv.2).getD z) S3|none=>False) E) E
def sJ{x:Str}{px:Pos}{a:Addr}{kvs:List (aK×Int)}(hu:X.A.units+1 < cLine)(hg:Gl X x)(hm:X.mg x=some (.ref a))(hD:KD X.prog X.w X.K a (kvs.map fun kv=>(kv.1,V.int kv.2)))(he:aX X e te)(hf:aX X f tf)(m:M2 X (.Name x px) "get" apos e f cpos)
  (hd:(x == ("__debug__":Str))=false:=by decide):aX X (.Call (.Attribute (.Name x px) "get" apos) [e,f] [] cpos) (lx kvs te tf):=
 ⟨aI (pE hu hg hm hD he.ok hf.ok m hd) fun σ H Q ⟨σ3,S,Q3,E3,rσ,rS,h,xo,k⟩=>⟨σ3,S,_,E3,rσ,rS,h,xo,fun y S2 y' H2 h2 ry yN g2=>⟨σ3,S2,_,E3,rσ.mono g2,yN,h2,xo.mono g2,fun z S3 z' H3 h3 rz Ap g3=>by
  split at h3
  ·rename_i k' ek
   have e1:=bw (ry.mono g3) ek
   subst e1
   refine⟨_,rfl,k _ S3 _ H3 h3 ?_ Ap (g2.trans g3)⟩
   have:∀l:List (aK×Int),Rep X.K H3 ((d3 (l.map fun kv=>(kv.1,V.int kv.2)) k').getD z') (((l.find? fun kv=>decide (kv.1=k')).map fun kv=>PV.int kv.2).getD z):=by
    intro l
    induction l with
    |nil=>exact rz
    |cons q r ih=>
     rw[EO,List.find?_cons]
     by_cases e:q.1=k'
     ·rw[yv e,GB e];exact .int _
     ·rw[ya e,Fe e];exact ih
   exact this kvs
  ·exact h3.elim⟩⟩⟩
def gN(te:aM):aM:=fun σ S Q E=>te σ S (fun x S1=>match x with
 | .ref a=>(match S1 a with|some (.lst xs)=>∀p,S1 p=none->Q (.ref p) (xF S1 p (.lst xs.reverse))|_=>False)
 |_=>False) E
def nT{p1 p2 q1 q2:Pos}(hs:starEach [e] X.env=[(false,eval e X.env)])(hc:X.calm=true)(he:aX X e te)(AZ:Gl X "list")(hm1:X.mg "list" = none)(Ay:Gl X "reversed")(hm2:X.mg "reversed" = none):aX X (.Call (.Name "list" p1) [.Call (.Name "reversed" p2) [e] [] q2] [] q1) (gN te):=
 ⟨aI (kw hc he.ok AZ hm1 Ay hm2 hs rfl) fun σ H Q ⟨σ3,S,Q3,E3,rσ,rS,h,xo,k⟩=>⟨σ3,S,_,E3,rσ,rS,h,xo,fun x S1 v H1 h1 rx xS g1=>by
  split at h1
  ·cases rx
   split at h1
   ·rename_i ea
    obtain⟨vs,hv,rs⟩:=xS _ _ ea
    exact⟨_,_,rfl,SqL.of hv,fun q hq=>k _ _ _ _ (h1 q (xS.free hq)) (.ref q) (xS.new hq ⟨_,am,rs.reverse.mono (.new hq)⟩) (g1.trans (.new hq))⟩
   ·exact h1.elim
  ·exact h1.elim⟩⟩
end
def bG:R3:=cA fun i j=>.int (i - j)
def d9:R3:=eg (fun _ j=>j≠0) fun i j=>.int (i.fmod j)
def fT:R3:=eg jL fun i j=>.int (i.fdiv j)
def nU:R3:=eg rm fun i j=>.int (i ^ j.toNat)
def nV:R3:=cA fun i j=>.bl (decide (i < j))
def jv:R3:=cA fun i j=>.bl (decide (j < i))
def u4:R3:=cA fun i j=>.bl (decide (j<=i))
section
variable {X:Cx}
def en:fR X (binaryOp .Sub) bG:=su
def dE:fR X (binaryOp .Mod) d9:=sv
def jf:fR X (binaryOp .FloorDiv) fT:=pN
def u5:fR X (binaryOp .Pow) nU:=sx
def l9:fR X (compareOp .Lt) nV:=uQ
def kI:fR X (compareOp .Gt) jv:=uR
def wx:fR X (compareOp .GtE) u4:=uS
end
def nW{A:Around}{k:Nat}(hr:Room k A):A.units+1 < cLine:=by have:=hr.un;omega
def c_{A:Around}{k:Nat}(hr:Room k A):A.units+150 < cLine:=by have:=hr.un;omega
def gQ{A:Around}{k:Nat}(hr:Room k A):A.units+160 < cLine:=by have:=hr.un;omega
structure vK (K:Vo) (mg:Vr) (x:Str) (st:Stmt) (ps:Vs) (f:Addr) (fd:FuncData):Prop where
 F:AG K x x st f fd
 b:Binds K fd ps []
 k:PySem.W.keepIn K (.ref f)=true
 m:mg x=some (.ref f)
def A2.zero{P:Program}{w:World}{K:Vo}{mg:Vr}{base:Heap}{k:Nat}{f:Addr}{fd:FuncData}{ps:Vs}{sp:aQ}(h:sp=fun _ _ _ _=>False):A2 P w K mg base k f fd ps sp:=by
 subst h
 exact⟨⟨fun vs H Q E q=>q.1,fun A outer s H args us vs Q E _ _ _ _ ⟨_,_,_,_,_,_,_,q,_⟩=>q.elim⟩⟩
end L3
namespace L2
open PySem PySem.Spec PyProof.Rows
end L2
namespace HT
open PySem PySem.Spec PyProof.Rows
end HT
namespace L2
open PySem PySem.Spec PyProof.Rows
end L2
namespace L3
open PySem L2
end L3
namespace L2
open PySem PySem.Spec PyProof.Rows
section
variable {X:Cx}
noncomputable def p_:V->List V->Hp->VK->Prop:=fun x vs H Q=>∃(l:Addr) (xs:List V) (j:Nat) (y:V),x = .ref l/\vs=[.int j,y]/\H l=some (.lst xs)/\j<=xs.length/\xs.length < sizeLine/\Q .non (upd H l (.lst (xs.take j++y::xs.drop j)))
def l_:vB X "list.insert" p_:=by
 intro pins s σ H x vs v us Q I rx rv h
 obtain⟨l,xs,j,y,rfl,rfl,hH,hj,hz,q⟩:=h
 cases rx
 cases rv with
 |@cons _ u0 _ Ea r1 rr=>
  obtain⟨u,rfl,ru⟩:∃u,Ea=[u]/\RelV y u:=by
   cases rr with
   |@cons _ u _ us r2 r3=>cases r3;exact⟨u,rfl,r2⟩
  obtain⟨tk,rfl⟩:∃tk,u0 = .int (j:Int) tk:=r1
  obtain⟨z,its,n,r,hl,e⟩:=I.zL hH
  have hfit:¬(!Builtin.List.listFitsIndex (j:Int))=true:=by
   have:j < 2 ^ 62:=G6 hj (EN hz (by decide))
   simp[Builtin.List.listFitsIndex]
   omega
  have hs1:its.toArray.size<=sizeLine:=by rw[EH];omega
  generalize hx:(j:Int)=x at hfit
  refine Ht F.slot_list_insert ⟨_,e,rfl⟩ F.entry_list_insert (F.args_list_insert_3 _ _ _) (PySem.AutoSeq1.list_insert_list_int_val_1 l its.toArray n x tk u hfit hs1) ⟨e,?_⟩
  refine⟨.non,_,I.Aw (its':=its.take j++u::its.drop j) hH e ?_ ((r.take j).append (.cons ru (r.drop j))) ?_,rfl,q⟩
  ·show((its.toArray.extract 0 (if x < 0 then (x+(its.toArray.size:Int)).toNat else min x.toNat its.toArray.size)).push u++its.toArray.extract (if x < 0 then (x+(its.toArray.size:Int)).toNat else min x.toNat its.toArray.size))=_
   have hl2:its.length=xs.length:=r.length.symm
   have ek:(if x < 0 then (x+(its.toArray.size:Int)).toNat else min x.toNat its.toArray.size)=j:=by
    rw[if_neg (by omega),<-hx,GN,EH]
    omega
   rw[ek]
   apply Array.toList_inj.mp
   simp[List.extract_eq_take_drop]
   exact List.take_of_length_le (by rw[FQ];exact EJ _)
  ·rw[EM,EU,Fz,FQ]
   omega
end
end L2
namespace L3
open PySem L2
section
variable {X:Cx} {a b c:Expr} {ta tb tc:aM} {pos:Pos}
def b8:nK:=fun x ps S Q=>match x,ps with
 | .ref a,[.int i,y]=>(match S a with|some (.lst xs)=>0<=i/\i<=xs.length/\xs.length < sizeLine/\Q .non (xF S a (.lst (xs.take i.toNat++y::xs.drop i.toNat)))|_=>False)
 |_,_=>False
def jS:pV X "list.insert" b8:=⟨fun pins s σ H x xs v us Q I rx rs ⟨px,ps,S,Q3,r1,rp,rS,q,k⟩=>by
 unfold b8 at q
 split at q
 ·rename_i i y
  split at q
  ·rename_i e
   cases r1
   cases rp with
   |cons b rr=>
    cases b
    cases rr with
    |cons b2 rr=>
     cases rr
     obtain⟨vs,hv,rl⟩:=rS _ _ e
     obtain⟨j,rfl⟩:=F6 q.1
     exact l_ pins s σ H _ _ v us Q I rx rs ⟨_,_,j,_,rfl,rfl,hv,by rw[rl.length];have:=q.2.1;omega,by rw[rl.length];exact q.2.2.1,k _ _ _ _ q.2.2.2 .non (rS.put hv trivial ⟨_,am,((rl.take j).append (.cons b2 (rl.drop j))).mono (.mut hv trivial)⟩) (.mut hv trivial)⟩
  ·exact q.elim
 ·exact q.elim⟩
end
end L3
namespace L2
open PySem PySem.Spec PyProof.Rows PySem.AutoSeq1
end L2
namespace L3
open PySem L2
end L3
namespace C
open PySem L2 L3
noncomputable def k_SIDES_FROM:List (aK×Int):=[(Sum.inr "then",1),(Sum.inr "either",1),(Sum.inr "take",3),(Sum.inr "often",1)]
def dF:bt:=(ah (aw 3 (aO (aS (a9 (v3 0) (jb (v3 1)) (jb (c3 (.int 63))))) (.n 0) cK (ag gE [(v3 0),(aj bG (c3 (.int 0)) (v3 0))]) 1 []))
  (ah (aw 4 (aj aJ (c3 (.int 7919)) (v3 1)))
  (ah (fG (aS (v3 3)) (.n 2) (aw 4 (aj d9 (aj aJ (aj f_ (v3 4) (c3 (.int 48271))) (aj d9 (v3 2) (c3 (.int 2147483629)))) (c3 (.int 2147483647)))))
  (aN (jR [((c3 (.str "seed")),(v3 4)),((c3 (.str "number")),(c3 (.int 0))),((c3 (.str "left")),(gN (aO (aS (v3 3)) (.n 0) (aZ (aj u4 (v3 0) (aj nU (c3 (.int 10)) (c3 (.int 18))))) (v3 0) 1 [])))])))))
def dG:bt:=(ah (gL (hU (aZ (aj (bR false) (aj al (v3 0) (c3 (.str "number"))) (c3 (.int 0)))) (aZ (aj jv (ag bj [(aj al (v3 0) (c3 (.str "left")))]) (c3 (.int 0))))) (jc (iD "list" l7 (aj al (v3 0) (c3 (.str "left"))) []) (v3 0) (c3 (.str "number"))))
  (ah (aw 2 (aj al (v3 0) (c3 (.str "number"))))
  (ah (cw (aZ (aj jv (v3 2) (c3 (.int 0)))) (ah (jc (aj fT (v3 2) (v3 1)) (v3 0) (c3 (.str "number")))
  (aN (aj d9 (v3 2) (v3 1)))) bd)
  (ah (aw 3 (aj d9 (aj aJ (aj f_ (aj al (v3 0) (c3 (.str "seed"))) (c3 (.int 48271))) (c3 (.int 7919))) (c3 (.int 2147483647))))
  (ah (jc (aj d9 (aj aJ (aj f_ (v3 3) (c3 (.int 40692))) (c3 (.int 104729))) (c3 (.int 2147483399))) (v3 0) (c3 (.str "seed")))
  (ah (aw 4 (aj d9 (aj f_ (aj al (v3 0) (c3 (.str "seed"))) (aj al (v3 0) (c3 (.str "seed")))) (c3 (.int 2147483563))))
  (aN (aj d9 (aj aJ (aj f_ (aj d9 (aj f_ (v3 3) (v3 3)) (c3 (.int 2147483629))) (c3 (.int 2147483563))) (v3 4)) (v3 1)))))))))
def eJ:bt:=(ah (h_ 2 3 (ag gE [(v3 0),(aj bG (c3 (.int 0)) (v3 0))]) (v3 1))
  (ah (gL (aZ (aj jv (v3 3) (c3 (.int 0)))) (h_ 2 3 (v3 3) (aj d9 (v3 2) (v3 3))))
  (aN (az [(aj fT (v3 0) (v3 2)),(aj fT (v3 1) (v3 2))]))))
def cL(xE:aQ):bt:=(ah (aw 2 (c3 (.str "abcdefghijklmnopqrstuvwxyz")))
  (ah (aw 3 (eV [(c3 (.str "jars")),(c3 (.str "deed")),(c3 (.str "rest")),(c3 (.str "pay")),(c3 (.str "put")),(c3 (.str "then")),(c3 (.str "either")),(c3 (.str "take")),(c3 (.str "often")),(c3 (.str "use"))]))
  (ah (aw 5 (iD "str" iE (c3 (.str "")) [(aO (gK (ad xE [(v3 0),(c3 (.int 6))])) (.n 0) cK (aj al (v3 2) (ad xE [(v3 1),(c3 (.int 26))])) 1 [0,2])]))
  (ah (gH 6 7 8 (az [(ad xE [(v3 0),(aj aJ (ag bj [(v3 5)]) (c3 (.int 1)))]),(ad xE [(v3 0),(c3 (.int 26))]),(aj (bR false) (ad xE [(v3 0),(c3 (.int 2))]) (c3 (.int 0)))]))
  (ah (aw 9 (eV []))
  (ah (fG (gK (v3 1)) (.n 4) (ah (aw 10 (aj aJ (aj aJ (a9 (v3 5) jN (jb (v3 6))) (aj al (v3 2) (aj d9 (aj aJ (v3 7) (v3 4)) (c3 (.int 26))))) (a9 (v3 5) (jb (v3 6)) jN)))
  (ah (cw (nC (aZ (v3 8))) (aw 10 (iD "str" iE (c3 (.str "")) [(aO (gK (aj aJ (c3 (.int 1)) (ad xE [(v3 0),(c3 (.int 6))]))) (.n 0) cK (aj al (v3 2) (ad xE [(v3 1),(c3 (.int 26))])) 1 [0,2])])) bd)
  (ah (gL (hV (aZ (aj (jM false) (v3 10) (v3 3))) (aZ (aj (jM false) (v3 10) (v3 9)))) (aw 10 (aj aJ (aj al (v3 2) (aj d9 (aj aJ (iD "str" fD (v3 2) [(aj al (v3 10) (c3 (.int 0)))]) (c3 (.int 1))) (c3 (.int 26)))) (a9 (v3 10) (jb (c3 (.int 1))) jN))))
  (cZ (iD "list" cI (v3 9) [(v3 10)]))))))
  (aN (v3 9))))))))
def dH(xE zN:aQ):bt:=(ah (aw 1 (ad xE [(v3 0),(c3 (.int 4))]))
  (ah (cw (aZ (aj (bR false) (v3 1) (c3 (.int 0)))) (aN (az [(c3 (.int 0)),(c3 (.int 1))])) bd)
  (ah (cw (aZ (aj nV (v3 1) (c3 (.int 3)))) (aN (az [(aj aJ (c3 (.int 1)) (ad xE [(v3 0),(c3 (.int 5))])),(c3 (.int 1))])) bd)
  (aN (ad zN [(ad xE [(v3 0),(c3 (.int 1000))]),(aj aJ (c3 (.int 1)) (ad xE [(v3 0),(c3 (.int 9))]))])))))
def dI(xE zF:aQ):bt:=(ah (aw 2 (ad xE [(v3 0),(c3 (.int 7))]))
  (ah (cw (aZ (aj (bR false) (v3 2) (c3 (.int 0)))) (aN (az [(c3 (.str "rest"))])) bd)
  (ah (cw (hV (aZ (aj nV (v3 2) (c3 (.int 4)))) (aZ (aj (bR false) (ag bj [(v3 1)]) (c3 (.int 0))))) (aN (az [(c3 (.str "pay")),(ad zF [(v3 0)])])) bd)
  (ah (aw 3 (aj al (eV [(c3 (.int 1)),(c3 (.int 2)),(aj aJ (c3 (.int 1)) (ad xE [(v3 0),(c3 (.int 9))]))]) (ad xE [(v3 0),(c3 (.int 3))])))
  (aN (az [(c3 (.str "put")),(aj al (v3 1) (ad xE [(v3 0),(ag bj [(v3 1)])])),(v3 3)]))))))
def dJ(xE yi s0:aQ):bt:=(ah (aw 4 (ad xE [(v3 0),(c3 (.int 12))]))
  (ah (cw (hV (aZ (aj (bR false) (v3 3) (c3 (.int 0)))) (hV (aZ (aj nV (aj al (v3 2) (c3 (.int 0))) (c3 (.int 2)))) (aZ (aj nV (v3 4) (c3 (.int 3)))))) (aN (ad yi [(v3 0),(v3 1)])) bd)
  (ah (cw (aZ (aj nV (v3 4) (c3 (.int 5)))) (ah (jc (aj bG (aj al (v3 2) (c3 (.int 0))) (c3 (.int 1))) (v3 2) (c3 (.int 0)))
  (aN (az [(c3 (.str "often")),(ad s0 [(v3 0),(v3 1),(v3 2),(aj bG (v3 3) (c3 (.int 1)))])]))) bd)
  (ah (jc (aj bG (aj al (v3 2) (c3 (.int 0))) (c3 (.int 2))) (v3 2) (c3 (.int 0)))
  (ah (aw 5 (ad s0 [(v3 0),(v3 1),(v3 2),(aj bG (v3 3) (c3 (.int 1)))]))
  (ah (aw 6 (ad s0 [(v3 0),(v3 1),(v3 2),(aj bG (v3 3) (c3 (.int 1)))]))
  (ah (cw (aZ (aj nV (v3 4) (c3 (.int 8)))) (aN (az [(c3 (.str "then")),(v3 5),(v3 6)])) bd)
  (ah (cw (hV (aZ (aj (bR false) (v3 4) (c3 (.int 8)))) (aZ (aj (bR false) (ag bj [(v3 1)]) (c3 (.int 0))))) (aN (az [(c3 (.str "either")),(v3 5),(v3 6)])) bd)
  (ah (aw 7 (aj al (eV [(c3 (.int 1)),(c3 (.int 1)),(c3 (.int 2)),(aj aJ (c3 (.int 1)) (ad xE [(v3 0),(c3 (.int 9))]))]) (ad xE [(v3 0),(c3 (.int 4))])))
  (aN (az [(c3 (.str "take")),(aj al (v3 1) (ad xE [(v3 0),(ag bj [(v3 1)])])),(v3 7),(v3 5),(v3 6)])))))))))))
def bu(s0:aQ):bt:=(ah (cw (aZ (aj (bR false) (aj al (v3 0) (c3 (.int 0))) (c3 (.str "then")))) (aN (aj f_ (ad s0 [(aj al (v3 0) (c3 (.int 1)))]) (ad s0 [(aj al (v3 0) (c3 (.int 2)))]))) bd)
  (ah (cw (hV (aZ (aj (bR false) (aj al (v3 0) (c3 (.int 0))) (c3 (.str "either")))) (aZ (aj (bR false) (aj al (v3 0) (c3 (.int 0))) (c3 (.str "take"))))) (aN (aj aJ (ad s0 [(aj al (v3 0) (lp eX (c3 (.int 2))))]) (ad s0 [(aj al (v3 0) (lp eX (c3 (.int 1))))]))) bd)
  (aN (c3 (.int 1)))))
def bp(xT s0:aQ):bt:=(ah (cw (aZ (aj (bR false) (aj al (v3 0) (c3 (.int 0))) (c3 (.str "often")))) (aN (aj aJ (ad xT [(aj al (v3 0) (c3 (.int 1)))]) (ad s0 [(aj al (v3 0) (c3 (.int 1)))]))) bd)
  (ah (cw (aZ (aj (jM false) (aj al (v3 0) (c3 (.int 0))) (az [(c3 (.str "then")),(c3 (.str "either")),(c3 (.str "take"))]))) (aN (aj aJ (ad s0 [(aj al (v3 0) (lp eX (c3 (.int 2))))]) (ad s0 [(aj al (v3 0) (lp eX (c3 (.int 1))))]))) bd)
  (aN (c3 (.int 0)))))
def bB(zG xT yP yi:aQ):bt:=(ah (aw 4 (ad zG [(v3 0),(v3 1),(eV [(aj bG (v3 2) (c3 (.int 1)))]),(c3 (.int 5))]))
  (ah (cw (aZ (aj jv (aj aJ (ad xT [(v3 4)]) (ad yP [(v3 4)])) (v3 3))) (aw 4 (az [(c3 (.str "then")),(az [(c3 (.str "often")),(ad yi [(v3 0),(v3 1)])]),(ad yi [(v3 0),(v3 1)])])) bd)
  (aN (v3 4))))
def cM(yz xE yZ:aQ):bt:=(ah (aw 4 (ad yz [(v3 0),(c3 (.int 8))]))
  (ah (aw 5 (ag aG [(a9 (v3 4) jN (jb (ad xE [(v3 0),(aj aJ (v3 1) (c3 (.int 1)))])))]))
  (ah (aw 6 (aj al (eV [(c3 (.int 0)),(c3 (.int 4))]) (ad xE [(v3 0),(c3 (.int 2))])))
  (ah (aw 7 (aj aJ (c3 (.int 1)) (ad xE [(v3 0),(v3 2)])))
  (ah (aw 8 (aO (gK (v3 7)) (.n 0) cK (az [(aj al (v3 6) (aj aJ (v3 2) (v3 0))),(ad yZ [(v3 1),(v3 3),(v3 5),(aj fT (c3 (.int 24)) (v3 4))])]) 1 [0,6,5,7,3,4]))
  (aN (az [(v3 5),(ag aG [(v3 8)])])))))))
def eL:bt:=(aN (a9 (v3 0) (jb (lx C.k_SIDES_FROM (aj al (v3 0) (c3 (.int 0))) (ag bj [(v3 0)]))) jN))
end C
namespace Zu
open PySem Zt
open Sem (wp)
def nn{a b:Nat}(h:a≠b):@Ne Addr a b:=h
end Zu
namespace L2
open PySem PySem.Spec PyProof.Rows
end L2
namespace L3
open PySem L2
end L3
namespace L2
open PySem PySem.Spec PyProof.Rows
end L2
namespace L3
open PySem L2
end L3
namespace C
open PySem L2 L3
end C
namespace Zv
open PySem
open Sem (wp)
end Zv
namespace L2
open PySem PySem.Spec PyProof.Rows
section
variable {X:Cx}
def yL(K:Vo)(H:Hp)(r:Addr)(xs ys:List V):Prop:=∃ps:List Addr,SqT K H r (ps.map V.ref)/\ps.length=xs.length/\∀(j:Nat) p x y,ps[j]?=some p->xs[j]?=some x->ys[j]?=some y->H p=some (.tup [x,y])
theorem fU{pins:Va}{σ:St}{H:Hp}{s0 s:Shared}{n:Nat}{xs ys:List V}{ix iy:Vv}(I0:Inv X pins σ H s0)(hn:s0.heap.objs.size=n)(I:Inv X pins σ H s)(rx:Vals xs ix)(ry:Vals ys iy)(hl:xs.length=ys.length)
  (hp:∀(j:Nat) u v,ix[j]?=some u->iy[j]?=some v->IsPair s.heap (n+6+j:Nat) u v):∀k,k<=xs.length->∃H',Inv X pins σ H' s/\(∀c o,H c=some o->H' c=some o)/\(∀(j:Nat) x y,j < k->xs[j]?=some x->ys[j]?=some y->H' (n+6+j:Nat)=some (.tup [x,y]))/\∀c:Nat,n+6+k<=c->H' c=none
 |0,_=>⟨H,I,fun _ _ h=>h,fun j x y h=>absurd h (Nat.not_lt_zero _),fun c hc=>I0.hok.fresh (show s0.heap.objs.size<=c by omega)⟩
 |k+1,hk=>by
  obtain⟨H',I',e',p',f'⟩:=fU I0 hn I rx ry hl hp k (by omega)
  have hkx:k < xs.length:=by omega
  have C2:k < ys.length:=by omega
  obtain⟨u,hu,ru⟩:=rx.get (Fo hkx)
  obtain⟨v,hv,rv⟩:=ry.get (Fo C2)
  have hD:H' (n+6+k:Nat)=none:=f' _ (EJ _)
  have fp:d0 X pins H' (n+6+k:Nat):=I0.zC (show s0.heap.objs.size<=(n+6+k:Nat) by omega) hD
  have eT:xX s.heap (n+6+k:Nat) [u,v].toArray:=⟨_,hp k u v hu hv,rfl,rfl,_,rfl⟩
  refine⟨_,I'.Ag fp eT (.cons ru (.cons rv .nil)) (by show 2<=sizeLine;decide),fun c o h=>?_,fun j x y hj hx hy=>?_,fun c hc=>?_⟩
  ·rw[ak (au (e' c o h) hD)];exact e' c o h
  ·by_cases e:j=k
   ·subst e
    rw[Fo hkx]at hx
    rw[Fo C2]at hy
    cases hx;cases hy
    exact am
   ·rw[ak (Zu.nn (by omega))];exact p' j x y (by omega) hx hy
  ·rw[ak (Zu.nn (by omega))];exact f' c (by omega)
end
end L2
namespace L3
open PySem L2
section
variable {X:Cx} {a b:Expr} {ta tb:aM}
theorem ly{K:Vo}{H:Hp}:∀{vs:List V} {ps:List PV},vs.length=ps.length->(∀(j:Nat) v p,vs[j]?=some v->ps[j]?=some p->Rep K H v p)->Reps K H vs ps
 |[],[],_,_=>.nil
 |[],_::_,h,_=>by cases h
 |_::_,[],h,_=>by cases h
 |v::vs,p::ps,h,f=>.cons (f 0 v p rfl rfl) (ly (by simpa using h) fun j v' p' h1 h2=>f (j+1) v' p' (by simpa using h1) (by simpa using h2))
end
end L3
namespace L2
open PySem PySem.Spec PyProof.Rows
end L2
namespace L3
open PySem L2
end L3
namespace C
open PySem L2 L3
end C
namespace L3
open PySem L2 Xc
end L3
namespace L3
open PySem L2
end L3
namespace L2
open PySem PySem.Spec PyProof.Rows Xc
end L2
namespace L3
open PySem L2 Xc
section
variable {P:Program} {w:World} {K:Vo} {mg:Vr} {base:Heap}
structure bN (K:Vo) (mg:Vr) (x:Str) (st:Stmt) (ps:Vs):Prop where
 ex:∃f fd,vK K mg x st ps f fd
structure y2 (P:Program) (w:World) (K:Vo) (mg:Vr) (base:Heap) (k:Nat) (x:Str) (n:Nat) (sp:aQ):Prop where
 ex:∃f fd ps,ps.length=n/\A2 P w K mg base k f fd ps sp/\mg x=some (.ref f)/\PySem.W.keepIn K (.ref f)=true/\Binds K fd ps []
def jx{x:Str}{st:Stmt}{ps:Vs}{k n:Nat}{t:bt}{sp:aQ}(N:Vs)(O:bN K mg x st ps)
  (hbody:∀(f:Addr) (cdv:Value) (A:Around) (outer:List Env) (s:Shared) (H:Hp) (E:XK),Room k (A.deeper (PyProof.Rows.envOfC x (ay st) s.heap.objs.size f cdv))->N.Nodup->fA (vI P w K mg base N x st f cdv A outer s H E) (aY st) t) (e:sp=bI N.length t)
  (hn:ps.length=n:=by rfl) (S:bX N ps (ay st):=by exact⟨rfl,rfl,rfl,by decide +kernel,rfl,by decide +kernel,by decide +kernel⟩):y2 P w K mg base (k+1) x n sp:=by
 subst e
 obtain⟨f,fd,o⟩:=O.ex
 exact⟨f,fd,ps,hn,wZ o.F S fun cdv A outer s H E hr=>hbody f cdv A outer s H E hr S.nd,o.m,o.k,o.b⟩
def xu{x:Str}{st:Stmt}{ps:Vs}{k:Nat}{t:bt}{sp:aQ}{f:Addr}{fd:FuncData}(N:Vs)(o:vK K mg x st ps f fd)
  (hbody:∀(f:Addr) (cdv:Value) (A:Around) (outer:List Env) (s:Shared) (H:Hp) (E:XK),Room k (A.deeper (PyProof.Rows.envOfC x (ay st) s.heap.objs.size f cdv))->N.Nodup->fA (vI P w K mg base N x st f cdv A outer s H E) (aY st) t) (e:sp=bI N.length t)
  (S:bX N ps (ay st):=by exact⟨rfl,rfl,rfl,by decide +kernel,rfl,by decide +kernel,by decide +kernel⟩):A2 P w K mg base (k+1) f fd ps sp:=by
 subst e
 exact wZ o.F S fun cdv A outer s H E hr=>hbody f cdv A outer s H E hr S.nd
def sK:aQ:=fun _ _ _ _=>False
theorem y2.zero{x:Str}{st:Stmt}{ps:Vs}{k n:Nat}(O:bN K mg x st ps)(hn:ps.length=n:=by rfl):y2 P w K mg base k x n sK:=by
 obtain⟨f,fd,o⟩:=O.ex
 exact⟨f,fd,ps,hn,.zero rfl,o.m,o.k,o.b⟩
theorem ma{b n:Nat}{x:Str}{st:Stmt}{ps:Vs}{r:Nat->aQ}(O:bN K mg x st ps)(h:∀j,y2 P w K mg base (b+j) x n (r j)->y2 P w K mg base (b+j+1) x n (r (j+1)))(h0:r 0=sK)(hn:ps.length=n:=by rfl):∀j,y2 P w K mg base (b+j) x n (r j)
 |0=>by rw[h0];exact .zero O hn
 |j+1=>h j (ma O h h0 hn j)
end
section
variable {X:Cx} {a b e o:Expr} {es:List Expr} {ta tb te to:aM} {ts:List aM} {x c m f:Str} {p pos apos cpos:Pos} {j k n:Nat} {sp:aQ}
def c4(O:y2 X.prog X.w X.K X.mg X.base k x n sp)(hr:Room j X.A)(ha:iC X (e::es) ts)(hj:k<=j:=by omega)(hl:ts.length=n:=by rfl)(hg:Gl X x:=by rfl)(he:starEach (e::es) X.env=(false,eval e X.env)::starEach es X.env:=by rfl)(hdb:(x == ("__debug__":Str))=false:=by decide)(hpl:(backTo pos (starEach es X.env)).any (·.1)=false:=by rfl) :
  aX X (.Call (.Name x p) (e::es) [] pos) (ad sp ts):=by
 obtain⟨f,fd,ps,hn,F,h1,h2,h3⟩:=O.ex
 exact sG F (hr.mono hj) hg h1 h2 h3 he ha (hl.trans hn.symm) hdb hpl
def cB{id:String}{r:lr}(hc:eh X (.builtin id) r)(hm:X.mg x=none)(ha:iC X (e::es) ts)(hg:Gl X x:=by rfl)(hv:bootBuiltins x=some (.builtin id):=by decide +kernel)(he:starEach (e::es) X.env=(false,eval e X.env)::starEach es X.env:=by rfl)
  (hnn:x ≠ "__name__":=by decide) (hdb:(x == ("__debug__":Str))=false:=by decide) (hpl:(backTo pos (starEach es X.env)).any (·.1)=false:=by rfl):aX X (.Call (.Name x p) (e::es) [] pos) (ag r ts):=pS hc hg hm hv he ha hnn hdb hpl
def cT{id:String}{r:lr}(hc:eh X (.type id) r)(hm:X.mg x=none)(ha:iC X (e::es) ts)(hg:Gl X x:=by rfl)(hv:bootBuiltins x=some (.type id):=by decide +kernel)(he:starEach (e::es) X.env=(false,eval e X.env)::starEach es X.env:=by rfl)
  (hnn:x ≠ "__name__":=by decide) (hdb:(x == ("__debug__":Str))=false:=by decide) (hpl:(backTo pos (starEach es X.env)).any (·.1)=false:=by rfl):aX X (.Call (.Name x p) (e::es) [] pos) (ag r ts):=pU hc hg hm hv he ha hnn hdb hpl
def lc{r:List Expr}(ha:aX X a ta)(hr:iC X r ts)(hs:starEach (a::r) X.env=(false,eval a X.env)::starEach r X.env:=by rfl):iC X (a::r) (ta::ts):=nA hs ha hr
def l1(ha:aX X a ta)(hs:starEach [a] X.env=(false,eval a X.env)::starEach [] X.env:=by rfl):iC X [a] [ta]:=nA hs ha jK
def bH{i:Int}{q:Nat}{p2:Pos}(hr:Room j X.A)(ha:aX X a ta)(hs:gg (.Constant (.int i) q p2):=by exact fun _ _=>rfl):aX X (.Subscript a (.Constant (.int i) q p2) pos) (aj al ta (c3 (.int i))):=uW (wY (nW hr)) ha ac hs
def fV(hr:Room j X.A)(ha:aX X a ta)(hb:aX X b tb)(hs:gg b:=by exact fun _ _=>rfl):aX X (.Subscript a b pos) (aj al ta tb):=uW (wY (nW hr)) ha hb hs
def jy(hr:Room j X.A)(ha:aX X a ta)(hb:aX X b tb):ll X (.Compare a [.Eq] [b] pos) (aZ (aj (bR false) ta tb)):=bc (qF (c_ hr)) ha hb (bb _)
def tT(hr:Room j X.A)(ha:aX X a ta)(hb:aX X b tb):ll X (.Compare a [.NotEq] [b] pos) (aZ (aj (bR true) ta tb)):=bc (uU (c_ hr)) ha hb (bb _)
def s4(i:Nat){pos':Pos}(nd:X.N.Nodup)(he:aX X e te)(hi:X.N[i]?=some x:=by rfl)(hx:oK X.env.scope x:=by first|exact Or.inl rfl|exact Or.inr rfl)(hs:swapsWith e (some (.Name x pos')) pos.line X.env=pure false:=by rfl)
  (hf:X.fn x=true\/X.env.scope.names.lookup x=some .local:=by first|exact .inl rfl|exact .inr rfl|assumption):kz X (.Assign [.Name x pos'] e pos) (aw i te):=uZ nd hi hx he hs hf
def gn(i:Nat)(nd:X.N.Nodup)(hi:X.N[i]?=some x:=by rfl)(hx:oK X.env.scope x:=by first|exact Or.inl rfl|exact Or.inr rfl)(hf:X.fn x=true\/X.env.scope.names.lookup x=some .local:=by first|exact .inl rfl|exact .inr rfl|assumption):pY X (.Name x pos) (.n i):=xt i nd hi hx hf
def xv{px:Pos}{kvs:List (aK×Int)}{g:Expr}{tg:aM}(hr:Room j X.A)(hD:∃a,X.mg x=some (.ref a)/\KD X.prog X.w X.K a (kvs.map fun kv=>(kv.1,V.int kv.2)))(he:aX X e te)(hf:aX X g tg)(hg:Gl X x:=by rfl)(m:M2 X (.Name x px) "get" apos e g cpos:=by exact⟨rfl,rfl,rfl,rfl⟩)
  (hd:(x == ("__debug__":Str))=false:=by decide):aX X (.Call (.Attribute (.Name x px) "get" apos) [e,g] [] cpos) (lx kvs te tg):=let ⟨_,h1,h2⟩:=hD;sJ (nW hr) hg h1 h2 he hf m hd
end
structure sL (T:String) (name:Str) (id:String):Prop where
 pa:PlainAttrs T
 slot:Slot T name id
 ty:typeOf (.builtin id)=pure (.type "method_descriptor")
section
variable {X:Cx} {e o:Expr} {es:List Expr} {to:aM} {ts:List aM} {name:Str} {T id:String} {p pos apos cpos:Pos} {r:nK}
def md:sL "list" "append" "list.append":=⟨G9,PySem.F.slot_list_append,PySem.F.type_list_append⟩
def iK:sL "list" "insert" "list.insert":=⟨G9,PySem.F.slot_list_insert,PySem.F.type_list_insert⟩
def sM:sL "list" "pop" "list.pop":=⟨G9,PySem.F.slot_list_pop,PySem.F.type_list_pop⟩
def lz:sL "str" "join" "str.join":=⟨PySem.F.plainAttrs_str,PySem.F.slot_str_join,PySem.F.type_str_join⟩
def nX:sL "str" "index" "str.index":=⟨PySem.F.plainAttrs_str,PySem.F.slot_str_index,PySem.F.type_str_index⟩
def tU(k:sL T name id)(hm:pV X id r)(ho:aX X o to)(ha:iC X (e::es) ts)(hs:starEach (e::es) X.env=(false,eval e X.env)::starEach es X.env:=by rfl)
  (hbase:attributeBase o name X.env (eval o X.env)=eval o X.env:=by rfl)
  (hfew:((backTo cpos (starEach (e::es) X.env)).all (fun x=>!x.1)&&(backToKw cpos (keywordEach [] X.env)).all (fun x=>x.1.isSome)
   && decide ((e::es).length+([]:List Keyword).length+(if ([]:List Keyword).isEmpty then 0 else 1) < 30))=true:=by rfl)
  (hline:(apos.endLine == cpos.line)=true:=by rfl) (hplain:(backTo cpos (starEach es X.env)).any (·.1)=false:=by rfl):aX X (.Call (.Attribute o name apos) (e::es) [] cpos) (iD T r to ts):=wq k.pa k.slot k.ty hm hs ho ha hbase hfew hline hplain
def wy(k:sL T name id)(hm:pV X id r)(ho:aX X o to)
  (hbase:attributeBase o name X.env (eval o X.env)=eval o X.env:=by rfl) (hline:(apos.endLine == cpos.line)=true:=by rfl):aX X (.Call (.Attribute o name apos) [] [] cpos) (iD T r to []):=uX k.pa k.slot k.ty hm ho hbase hline
end
section
variable {X:Cx} {tg iter elt:Expr} {ifs:List Expr} {scope:Scope} {pos:Pos} {ti:p4} {g:Tg} {tc:fP} {te:aM}
def nY(fs:Vs)(own:Nat)(fr:List Nat)(N:Vs)(hi:sC X tg iter ti)(hg:∀B,pY (X.yJ N scope fs B) tg g)(hf:∀B,tR (X.yJ N scope fs B) ifs tc)(he:∀B,aX (X.yJ N scope fs B) elt te)
  (Az:g.under own=true:=by rfl) (hc:X.calm=true:=by rfl) (hclos:closureFor scope X.env=pure (bx X.env fs):=by rfl) (hcell:∀y∈scope.names,y.2 ≠ .cell:=by decide +kernel) (hkind:scope.kind = .function:=by rfl)
  (hnames:∀x∈scope.names,x.2 = .local->scope.names.lookup x.1=some .local:=by decide +kernel) (hcl:br X.env fs:=by repeat' first|exact trivial|exact⟨_,rfl⟩|constructor) (hhas:i6 (relabel scope X.env).names (bx X.env fs)=true:=by rfl)
  (hlen:N.length=own+fr.length:=by rfl) (hN:(N.drop own).map some=fr.map (fun j=>X.N[j]?):=by rfl) (hF:xY X.env scope (bx X.env fs) (N.drop own):=by repeat' first|exact trivial|exact .inl rfl|exact .inr rfl|exact rfl|apply And.intro)
  (hs:∀x,foldedSetIterable iter X.env x=pure x:=by intro _;rfl):aX X (.ListComp elt [⟨tg,iter,ifs,0⟩] scope pos) (aO ti g tc te own fr):=sE fs own fr N Az hc hclos hcell hkind hnames hcl hhas hlen hN hF hi hg hf he hs
def wA(fs:Vs)(own:Nat)(fr:List Nat)(N:Vs)(i:Nat){y:Str}{py spos:Pos}(hX:X.N.Nodup)(hi:sC X tg iter ti)(hg:∀B,pY (X.yJ N scope fs B) tg g)(hf:∀B,tR (X.yJ N scope fs B) ifs tc)(he:∀B,aX (X.yJ N scope fs B) elt te)
  (hix:X.N[i]?=some y:=by rfl) (hy:X.env.scope.names.lookup y=some .local:=by rfl) (hsw:swapsWith (.ListComp elt [⟨tg,iter,ifs,0⟩] scope pos) (some (.Name y py)) spos.line X.env=pure true:=by rfl)
  (Az:g.under own=true:=by rfl) (hc:X.calm=true:=by rfl) (hclos:closureFor scope X.env=pure (bx X.env fs):=by rfl) (hcell:∀y∈scope.names,y.2 ≠ .cell:=by decide +kernel) (hkind:scope.kind = .function:=by rfl)
  (hnames:∀x∈scope.names,x.2 = .local->scope.names.lookup x.1=some .local:=by decide +kernel) (hcl:br X.env fs:=by repeat' first|exact trivial|exact⟨_,rfl⟩|constructor) (hhas:i6 (relabel scope X.env).names (bx X.env fs)=true:=by rfl)
  (hlen:N.length=own+fr.length:=by rfl) (hN:(N.drop own).map some=fr.map (fun j=>X.N[j]?):=by rfl) (hF:xY X.env scope (bx X.env fs) (N.drop own):=by repeat' first|exact trivial|exact .inl rfl|exact .inr rfl|exact rfl|apply And.intro)
  (hs:∀x,foldedSetIterable iter X.env x=pure x:=by intro _;rfl):kz X (.Assign [.Name y py] (.ListComp elt [⟨tg,iter,ifs,0⟩] scope pos) spos) (aw i (aO ti g tc te own fr)):=sF fs own fr N hX hix hy hsw Az hc hclos hcell hkind hnames hcl hhas hlen hN hF hi hg hf he hs
end
end L3
namespace L3
open PySem L2
end L3
namespace L2
open PySem PySem.Spec PyProof.Rows
end L2
namespace L3
open PySem L2
end L3
namespace CY
open PySem L2 L3
end CY
namespace PySem
open PyProof.Rows
namespace F
def eo:entryFor table "dict.update.loop" = some Builtin.«dict.update.loop»:=entryFor_of_tree (by kernel_rfl)
def bE:plainId "dict.update.loop" = true:=by decide +kernel
end F
section
variable {prog:Program} {w:World} {K:Type} [DecidableEq K] {knd:KeyKind prog w K} {A:Around} {E:Vq} {s:Shared}
def yL(knd:KeyKind prog w K)(h:Heap)(it d:Addr)(items:Vw)(rs:List (K×Value)):Prop:=rs.length=items.size/\∀(j:Nat) (kv:K×Value),rs[j]?=some kv->∃t key,items[j]?=some (.ref t)/\IsTup h t #[key,kv.2]/\knd.is kv.1 key=true/\t≠it/\t≠d
def yL.at{h h':Heap}{it d:Addr}{items:Vw}{rs:List (K×Value)}(x:yL knd h it d items rs)(k:∀b o,b≠it->b≠d->h.get? b=some o->h'.get? b=some o):yL knd h' it d items rs:=⟨x.1,fun j kv e=>by
 obtain⟨t,key,h1,⟨o,ho,r⟩,h3,h4,h5⟩:=x.2 j kv e
 exact⟨t,key,h1,⟨o,k t o h4 h5 ho,r⟩,h3,h4,h5⟩⟩
end
end PySem
namespace L2
open PySem PySem.Spec PyProof.Rows
section
variable {X:Cx}
theorem qG{pins:Va}{σ:St}{H:Hp}{s:Shared}(I:Inv X pins σ H s):∀{vs:List V} {its:Vv} {kvs:List (aK×V)},Vals vs its->vs.length=kvs.length->(∀(j:Nat) (v:V) (kv:aK×V),vs[j]?=some v->kvs[j]?=some kv->∃t,v = .ref t/\SqT X.K H t [kV kv.1,kv.2])->
  ∃rs:List (aK×Value),KV kvs rs/\rs.length=its.length/\∀(j:Nat) (kv:aK×Value),rs[j]?=some kv->∃t key,its[j]?=some (.ref t)/\IsTup s.heap t #[key,kv.2]/\(ax X.prog X.w).is kv.1 key=true
 |[],_,[],.nil,_,_=>⟨[],.nil,rfl,fun j kv e=>by simp at e⟩
 |[],_,_::_,_,e,_=>by simp at e
 |_::_,_,[],_,e,_=>by simp at e
 |v::vs,u::its,kv::kvs,.cons r1 r2,e,h=>by
  obtain⟨rs,a,b,c⟩:=qG I r2 (by simpa using e) fun j v kv h1 h2=>h (j+1) v kv h1 h2
  obtain⟨t,rfl,ht⟩:=h 0 v kv rfl rfl
  cases r1
  obtain⟨its',rv,p,_⟩:=I.tuple ht
  cases rv with
  |cons q1 q2=>
   cases q2 with
   |cons q3 q4=>
    cases q4
    rename_i u1 u2
    refine⟨(kv.1,u2)::rs,.cons ⟨rfl,q3⟩ a,by simp[b],fun j kv' ej=>?_⟩
    cases j with
    |zero=>cases ej;exact⟨t,u1,rfl,p,eS q1⟩
    |succ j=>exact c j kv' ej
end
end L2
namespace L3
open PySem PySem.Spec PyProof.Rows L2
section
variable {X:Cx}
noncomputable def dW:List PV->Option (List (aK×PV))
 |[]=>some []
 | .tup [x,y]::r=>match fB x,dW r with|some k,some l=>some ((k,y)::l)|_,_=>none
 |_::_=>none
theorem gR{K:Vo}{H:Hp}:∀{vs:List V} {ps:List PV} {kvs:List (aK×PV)},Reps K H vs ps->dW ps=some kvs->∃ks:List (aK×V),vs.length=ks.length/\(∀(j:Nat) (v:V) (kv:aK×V),vs[j]?=some v->ks[j]?=some kv->∃t,v = .ref t/\SqT K H t [kV kv.1,kv.2])/\xK K H ks kvs
 |_,_,_,.nil,h=>by cases h;exact⟨[],rfl,fun j v kv h1 _=>by simp at h1,.nil⟩
 |_,_,kvs,.cons (p:=p) a r,h=>by
  unfold dW at h
  split at h
  ·rename_i e;cases e
  ·rename_i x y r' e
   cases e
   split at h
   ·rename_i k l e1 e2
    cases h
    obtain⟨ks,h1,h2,h3⟩:=gR r e2
    cases a with
    |tup hq rs=>
     cases rs with
     |cons q1 q2=>
      cases q2 with
      |cons q3 q4=>
       cases q4
       obtain rfl:=bw q1 e1
       refine⟨(k,_)::ks,by simp[h1],fun j v kv g1 g2=>?_,.cons q3 h3⟩
       cases j with
       |zero=>cases g1;cases g2;exact⟨_,rfl,hq⟩
       |succ j=>exact h2 j v kv g1 g2
   ·cases h
  ·cases h
end
end L3
namespace L3
open PySem L2
theorem _root_.L2.Ao.An{X:Cx}{st:List Stmt}{u:tP}(h:Ao X.An st u):Ao X st u:=fun s σ H Q I hq=>F7 (h s σ H Q (I.wish _) hq) (fun _ _ z=>z) fun e s' z=>z.elim
structure z0 (P:Program) (w:World) (K:Vo) (mg:Vr) (base:Heap) (k:Nat) (nd:CN) (n:Nat) (sp:aQ):Prop where
 ok:nk P w K mg base oM k nd n (tS K (n+1) sp)
noncomputable abbrev xx(P:Program)(w:World)(K:Vo)(mg:Vr)(base:Heap)(N:Vs)(nd:CN)(f:Addr)(cd:Value)(cc:Addr)(A:Around)(outer:List Env)(s:Shared)(H:Hp)(E:XK):Cx:=(l5 oM P w K mg base N nd f cd cc A outer s H E).An
section
variable {P:Program} {w:World} {K:Vo} {mg:Vr} {base:Heap}
def xy{nd:CN}{k n:Nat}{t:bt}{sp:aQ}(N ps:Vs)
  (hbody:∀(f cc:Addr) (cd:Value) (A:Around) (outer:List Env) (s:Shared) (H:Hp) (E:XK),Room k (A.deeper (PySem.W.envX nd.qual nd.scope s.heap.objs.size f cd [(nd.cap,cc)]))->N.Nodup->fA (xx P w K mg base N nd f cd cc A outer s H E) nd.body t) (e:sp=bI N.length t)
  (hb:∀(cl:List (Str×Addr)) (doc pm cd ct:Value) (us:Vv),us.length=ps.length->bindArgs (PySem.W.fnX nd.name nd.qual nd.params nd.body nd.scope cl .none .none doc pm none cd ct) ⟨us,[]⟩=pure (ps.zip us))
  (hn:ps.length=n:=by rfl) (S:gC N ps nd.cap nd.scope:=by exact⟨rfl,rfl,rfl,by decide +kernel,rfl,by decide +kernel,rfl,by decide +kernel,by decide +kernel⟩):z0 P w K mg base (k+1) nd n sp:=by
 subst e hn
 exact⟨si S (fun vs H Q E h=>h.1) hb fun f cc cd A outer s H vs Q E hr ⟨hl,ps',S',Q3,E3,rv,rS,q,kk⟩=>⟨_,(hbody f cc cd A outer s H E hr S.nd).ok.An,aF N.length ps',S',_,fH rv,rS,q,.no,fun σ3 S2 σ2 H2 h2 _ yN g2=>kk _ S2 _ H2 h2 .non yN g2,kk,fun _ _ _ _ h2=>h2.elim,fun _ _ _ _ h2=>h2.elim⟩⟩
theorem z0.mono{j k n:Nat}{nd:CN}{sp:aQ}(F:z0 P w K mg base j nd n sp)(h:j<=k):z0 P w K mg base k nd n sp:=⟨⟨F.ok.len,fun A outer s H f v us vs Q E hr=>F.ok.run A outer s H f v us vs Q E (hr.mono h)⟩⟩
end
section
variable {X:Cx} {e:Expr} {es:List Expr} {ts:List aM} {x:Str} {p pos:Pos} {k j n:Nat} {nd:CN} {sp:aQ}
def nZ(i:Nat)(nd:CN)(sp:aQ)(ts:List aM):aM:=fun σ S Q E=>∃c,lk σ i=some (.clo nd c)/\ap ts σ S (fun ps S1=>sp (ps++[c]) S1 Q E) E
def cV(i:Nat)(F:z0 X.prog X.w X.K X.mg X.base k nd n sp)(hr:Room j X.A)(ha:iC X (e::es) ts)(hj:k<=j:=by omega)(hl:ts.length=n:=by rfl)(hN:X.N[i]?=some x:=by rfl)(hv:t6 X.env.scope x:=by first|exact Or.inl rfl|exact Or.inr (Or.inl rfl)|exact Or.inr (Or.inr rfl))
  (he:starEach (e::es) X.env=(false,eval e X.env)::starEach es X.env:=by rfl) (hdb:(x == ("__debug__":Str))=false:=by decide) (hcd:(x == ("__classdict__":Str))=false:=by decide) (hpl:(backTo pos (starEach es X.env)).any (·.1)=false:=by rfl) :
  aX X (.Call (.Name x p) (e::es) [] pos) (nZ i nd sp ts):=
 ⟨aI (np (F.mono hj).ok hr qC (mC (i:=i) hN hv hdb hcd) ha.ok he hpl) fun σ H Q ⟨σ3,S,Q3,E3,rσ,rS,h,xo,kk⟩=>by
  obtain⟨c,hc,h⟩:=h
  obtain⟨v,ev,rv⟩:=rσ.at' i _ (i9 hc)
  cases rv with
  |clo hF rc=>
   refine⟨_,ev,bz rσ rS h xo fun ps' S' vs H' hl' q A_ yK g=>⟨_,hF.mono g.x,?_⟩⟩
   exact⟨by rw[EM,A_.length,hl',hl];rfl,_,S',Q3,E3,A_.append (.cons (rc.mono g) .nil),yK,q,kk.mono g⟩⟩
end
def LF(X:Cx)(t:bt)(Q:VK)(σ:L2.St)(H:Hp):Prop:=∃σ3 S,∃D3:dm,D3.ex=e7/\RepSt X.K H σ σ3/\RepS X.K H S/\t D3 σ3 S/\Nxt X.K H D3.nx (fun _ H'=>Q .non H')/\Ret X.K H D3.rt Q/\Nxt X.K H D3.bk (fun _ _=>False)/\Nxt X.K H D3.ct (fun _ _=>False)
structure me (X:Cx) (st:List Stmt) (t:bt):Prop where
 ok:Ao X st (LF X t)
section
variable {X:Cx} {st:Stmt} {rest:List Stmt} {t u:bt}
def wB{sts:List Stmt}(h:fA X sts t):me X sts t:=
 ⟨fun s σ H Q I ⟨σ3,S,D3,hx,rσ,rS,h1,n,r,bk,ct⟩=>sk h.ok s σ H Q I ⟨σ3,S,D3,rσ,rS,h1,by rw[hx];exact .no,n,r,bk,ct⟩⟩
def n6(h1:kz X st t)(h2:me X rest u):me X (st::rest) (ah t u):=
 ⟨fun s σ H Q I ⟨σ3,S,D3,hx,rσ,rS,h,n,r,bk,ct⟩=>nq h1.ok h2.ok s σ H Q I ⟨σ3,S,{ D3 with nx:=u D3 },rσ,rS,h,by rw[hx];exact .no,fun σ4 S' σ' H' h' Ab yK g=>⟨σ4,S',D3,hx,Ab,yK,h',n.mono g,r.mono g,bk.mono g,ct.mono g⟩,r,bk,ct⟩⟩
def u6(x:Str)(pos:Pos)(nd:CN)(i j:Nat):bt:=fun D σ S=>(∃a,S a=some (.tab x pos nd.qual))/\∃c,lk σ i=some c/\D.nx (σ.set j (some (.clo nd c))) S
structure sN (K:Vo) (mg:Vr) (base:Heap) (x:Str) (c P:Addr):Prop where
 AS:K.In base
 glob:base.Ns mainGlobals mg
 tab:PySem.W.tabIn K x=some (c,P)
 hd:PySem.W.CodeHd base c P
 blt:base.BuiltinsAt mg P
def u7{nd:CN}{x:Str}{pos:Pos}{i j:Nat}{c P:Addr}(T:sN X.K X.mg X.base x c P)(hcode:X.env.code = .ref c)(hN:X.N.Nodup)(h2:me (X.frz nd.cap) rest u)(hq:qualnameIn X.env nd.name nd.name=nd.qual:=by rfl)
  (hcl:(nd.scope.names.filter fun y=>y.2 == .free)=[(nd.cap,.free)]:=by rfl) (hfn:X.fn nd.cap=true:=by rfl) (hi:X.N[i]?=some nd.cap:=by rfl) (hk:X.env.scope.names.lookup nd.cap=some .cell:=by rfl)
  (hd0:nd.params.defaults=[]:=by rfl) (hk0:nd.params.kw_defaults=[]:=by rfl) (ha:annTrees nd.params none X.env=[]:=by rfl) (hj:X.N[j]?=some nd.name:=by rfl) (hx:oK X.env.scope nd.name:=by first|exact .inl rfl|exact .inr rfl)
  (B6:(X.frz nd.cap).fn nd.name=true\/X.env.scope.names.lookup nd.name=some .local:=by first|exact .inl rfl|exact .inr rfl) :
  me X (.FunctionDef nd.name nd.params nd.body [] none [] nd.scope none nd.name pos::rest) (ah (u6 x pos nd i j) u):=
 ⟨fun s σ H Q I ⟨σ3,S,D3,hx',rσ,rS,h,n,r,bk,ct⟩=>by
  obtain⟨⟨a,ha'⟩,p,hp,h⟩:=h
  obtain⟨⟨c',e1⟩,tA⟩:=rS a _ ha'
  rw[T.tab]at e1
  cases e1
  obtain⟨v,ev,rv⟩:=rσ.at' i _ (i9 hp)
  refine pK (i:=i) (j:=j) hcode T.hd T.blt hq hcl hfn hi hk hd0 hk0 ha hN hj hx B6 h2.ok s σ H Q I ⟨tA,v,ev,fun f H' hF hT hg=>?_⟩
  obtain⟨qs,hP,_⟩:=tA
  have g:Grow X.K H H':=.of (fun b xs e=>hg b _ (fun z=>by rw[z,hP]at e;cases e) e) fun b o y e=>hg b _ (fun z=>by rw[z,hP]at e;cases e) e
  refine⟨σ3.set j (some (.clo nd p)),S,D3,hx',(rσ.mono g).set (.clo hF (rv.mono g)) j,fun b o e=>?_,h,n.mono g,r.mono g,bk.mono g,ct.mono g⟩
  ·by_cases z:b=P
   ·subst z
    rw[ha']at e;cases e
    exact⟨⟨c,T.tab⟩,hT⟩
   ·obtain⟨y,hy,_⟩:=(rS b o e).some
    exact(rS b o e).stay g ((hg b y z hy).trans hy.symm)⟩
end
section
variable {P:Program} {w:World} {K:Vo} {mg:Vr} {base:Heap}
def wC{x:Str}{st:Stmt}{ps:Vs}{k n:Nat}{t:bt}{sp:aQ}{c Pt:Addr}(N:Vs)(O:bN K mg x st ps)(T:sN K mg base x c Pt)
  (hbody:∀(f:Addr) (A:Around) (outer:List Env) (s:Shared) (H:Hp) (E:XK),Room k (A.deeper (PyProof.Rows.envOfC x (ay st) s.heap.objs.size f (.ref c)))->N.Nodup->me (vI P w K mg base N x st f (.ref c) A outer s H E) (aY st) t) (e:sp=bI N.length t)
  (hn:ps.length=n:=by rfl) (S:bX N ps (ay st):=by exact⟨rfl,rfl,rfl,by decide +kernel,rfl,by decide +kernel,by decide +kernel⟩):y2 P w K mg base (k+1) x n sp:=by
 subst e
 obtain⟨f,fd,o⟩:=O.ex
 obtain⟨oc,od,kV,doc,pm,an,cdv,ct,osl,rfl,lk,hcd⟩:=o.F.ex
 have hc:cdv = .ref c:=PySem.W.law_code T.AS T.glob T.tab o.m (T.AS _ _ lk) rfl
 subst hc
 exact⟨f,_,ps,hn,⟨sn lk hcd S (fun vs H Q E h=>h.1) fun A outer s H vs Q E hr ⟨hl,ps',S',Q3,E3,rv,rS,q,kk⟩=>⟨_,(hbody f A outer s H E hr S.nd).ok.An,aF N.length ps',S',_,rfl,fH rv,rS,q,fun σ3 S2 σ2 H2 h2 _ yN g2=>kk _ S2 _ H2 h2 .non yN g2,kk,fun _ _ _ _ h2=>h2.elim,fun _ _ _ _ h2=>h2.elim⟩⟩,o.m,o.k,o.b⟩
end
def u8{K:Vo}{H:Hp}{a c Pt:Addr}{ns:Vu}{sp:aQ}{x q:Str}{pos:Pos}(hT:PySem.W.tabIn K x=some (c,Pt))(hO:lj Pt H)(hS:SqL K H a (ns.map V.int))(h:sp [.cl (ns.map PV.int)] (fun b=>if b=Pt then some (.tab x pos q) else none) (fun v _=>v = .bl true) e7):tS K 1 sp [.ref a] H (fun v _=>v = .bl true) fun _ _ _=>False:=by
 have hr:∀l:List Int,Reps K H (l.map V.int) (l.map PV.int):=by
  intro l
  induction l with
  |nil=>exact .nil
  |cons x r ih=>exact .cons (.int x) ih
 refine⟨rfl,[.cl (ns.map PV.int)],_,_,e7,.cons (.cl (vs:=ns.map V.int) ?_ (hr ns)) .nil,(fun b o e=>?_),h,fun p S' v H' q rv rS g=>?_⟩
 ·rcases hS with(q|q)|q
  ·by_cases z:a=Pt
   ·rw[z,hO.1]at q;cases q
   ·rcases hO.2 a z with z|⟨o,xs,z⟩
    ·rw[z]at q;cases q
    ·rw[z]at q;cases q
  ·exact .inl q
  ·exact .inr q
 ·by_cases z:b=Pt
  ·have e':=(if_pos z).symm.trans e
   cases e'
   rw[z]
   exact⟨⟨c,hT⟩,.new hO.1⟩
  ·have e':=(if_neg z).symm.trans e
   cases e'
 ·subst q
  cases rv
  rfl
end L3
namespace PySem
open PyProof.Rows
namespace F
def kJ:typeLookup (.type "tuple") "keys" = pure none:=by rw[G4,Gj];kernel_rfl
end F
def qc{prog:Program}{w:World}{A:Around}{E:Vq}{s:Shared}{a:Addr}{o:Obj}{xs:Vw}{k:Nat}{Q:Option Value->Shared->Prop}
  (hx:s.heap.get? a=some o) (hc:o.cls = .type "tuple") (hdat:o.data = .seq xs k) (hd:o.dict=none) (hA:A.handled=none)
  (hQ:∀h' tk,(∀b ob,s.heap.get? b=some ob->h'.get? b=some ob)->Q none { s with heap:=h',toks:=tk }) :
  wpAny (model prog w) A (getAttr? (.ref a) "keys") Q E s:=by
 obtain⟨c,dct,dat,sl⟩:=o
 simp only at hc hdat hd
 subst hc hdat hd
 obtain⟨hp,g,d,tk,os⟩:=s
 have hT:∀tk',(⟨hp,g,d,tk',os⟩:Shared).TypeIs (.ref a) "tuple":=fun _=>⟨_,hx,rfl⟩
 have f1:=sub_AttributeError
 have f3:=GV.lookup
 have f4:=GV.bind (.ref a)
 have f5:=am_tuple_getattr_none
 unfold getAttr? getAttrBy? getAttrBy
 repeat (any_goals (first|assumption|exact hT _|((with_reducible show wpAny _ _ (call (Value.builtin "tuple.__getattribute__") _ _) _ _ _);refine Ht GV (hT _) am_entry_tuple_getattribute (F.args_tuple_getattribute_2 _ _) (meets_getattribute_miss_tuple a xs k sl "keys" _ F.kJ (by decide +kernel)) ⟨hx,hA,fun h' tk' e hx'=>?_⟩)|wp_step))
 obtain⟨t',u',he⟩:=hx'.there
 show wpAny _ _ (getattributeRaised _ _ _ _ _ _ _) _ _ _
 unfold getattributeRaised
 repeat (any_goals (first|assumption|wp_step))
 exact hQ _ _ hx'.keeps
section
variable {prog:Program} {w:World} {K:Type} [DecidableEq K] {knd:KeyKind prog w K} {A:Around} {E:Vq} {s:Shared}
theorem lA{it l d:Addr}{items:Vw}{rs:List (K×Value)}(hh:A.handled=none)(hli:l≠it)(Bm:l≠d)(hid:it≠d)(hz:items.size<=sizeLine):∀(m i:Nat) (s:Shared) (kvs:List (K×Value)) {R:Result->Shared->Prop},i+m=items.size->s.heap.IsTupleIter it l i->s.heap.IsTuple l items->yL knd s.heap it d items rs->s.heap.DictOf knd d kvs->kvs.length<=i->
  (∀h' tk,h'.DictOf knd d (merged kvs (rs.drop i))->(∀b o,b≠it->b≠d->s.heap.get? b=some o->h'.get? b=some o)->R (.ok (.ret .none)) { s with heap:=h',toks:=tk })->
  codeAny (model prog w) A (.builtin "dict.update.loop" ⟨[.ref d,.ref it,rawInt i,.none],[]⟩) R s
 |0,i,s,kvs,R,hm,hit,hl,hp,hd,hk,hR=>by
  refine FY F.eo ?_
  rw[Fj F.bE _]
  unfold Builtin.«dict.update.loop»
  show wpAny _ A.in1 (pyNext (.ref it) >>= _) _ _ s
  refine EE (wpAny_pyNext_tuple_end hh hit hl (by rw[Gd (by omega)]) fun h' he=>?_)
  dsimp only
  show wpAny _ _ (Builtin.Dict.addKeywords d [] >>= _) _ _ _
  have ed:rs.drop i=[]:=List.drop_of_length_le (by rw[hp.1];omega)
  refine EE (EI (EI (hR h' s.toks ?_ fun b o hb _ e=>he b o hb e)))
  rw[ed]
  obtain⟨o,es,ep,ho,r⟩:=hd
  exact⟨o,es,ep,he d o (F3 hid) ho,r⟩
 |m+1,i,s,kvs,R,hm,hit,hl,hp,hd,hk,hR=>by
  have hlt:i < items.size:=by omega
  refine FY F.eo ?_
  rw[Fj F.bE _]
  unfold Builtin.«dict.update.loop»
  show wpAny _ A.in1 (pyNext (.ref it) >>= _) _ _ s
  have C3:i < rs.length:=by rw[hp.1];exact hlt
  have er:=Fo C3
  have C4:=List.drop_eq_getElem_cons C3
  generalize rs[i]=kv at er C4
  obtain⟨t,key,e1,e2,e3,e4,e5⟩:=hp.2 i _ er
  refine EE (wpAny_pyNext_tuple_item hit hl e1 fun h1 Cc hs1=>?_)
  dsimp only
  refine EE (FI ?_)
  have t1:IsTup h1 t #[key,kv.2]:=let ⟨o,ho,r⟩:=e2;⟨o,(hs1.2 t e4).trans ho,r⟩
  have d1:h1.DictOf knd d kvs:=let ⟨o,es,ep,ho,r⟩:=hd;⟨o,es,ep,(hs1.2 d (F3 hid)).trans ho,r⟩
  refine EE (wpAny_tryCatch ?_)
  unfold Builtin.Dict.pairItems
  refine EE (GD t1.typeIs ?_)
  rw[if_pos (by decide)]
  obtain⟨ot,BD,_,nt,hdt⟩:=t1
  refine EE (Fx BD hdt ?_)
  refine EI ?_
  show wpAny _ _ (holding [key,kv.2] (dictSet d key kv.2)) _ _ _
  refine FI (wpAny_dictSet_pairs e3 d1 (fun h2 d2 hs2=>?_) (by omega))
  refine EI ⟨Gy F.bE _,?_⟩
  have yx:∀b o,b≠it->b≠d->s.heap.get? b=some o->h2.get? b=some o:=fun b o hb hb2 e=>(hs2.2 b hb2).trans ((hs1.2 b hb).trans e)
  refine lA hh hli Bm hid hz m (i+1) _ _ (by omega) ?_ ?_ (hp.at yx) d2 (by have:=stored_length_le kvs kv.1 kv.2;omega) fun h' tk dd oo=>hR h' tk ?_ fun b o hb hb2 e=>oo b o hb hb2 (yx b o hb hb2 e)
  ·obtain⟨o,ho,r⟩:=Cc
   exact⟨o,(hs2.2 it hid).trans ho,r⟩
  ·obtain⟨o,ho,r⟩:=hl
   exact⟨o,yx l o hli Bm ho,r⟩
  ·rw[C4]
   exact dd
def qd{l:Addr}{o:Obj}{items:Vw}{k:Nat}{rs:List (K×Value)}{Q:Vq}(hh:A.handled=none)(hx:s.heap.get? l=some o)(hc:o.cls = .type "tuple")(hdat:o.data = .seq items k)(hdn:o.dict=none)(hz:items.size<=sizeLine)
  (hp:rs.length=items.size/\∀(j:Nat) (kv:K×Value),rs[j]?=some kv->∃t key,items[j]?=some (.ref t)/\IsTup s.heap t #[key,kv.2]/\knd.is kv.1 key=true)
  (h:∀h' tk,h'.DictOf knd s.heap.objs.size (merged [] rs)->(∀b o,s.heap.get? b=some o->h'.get? b=some o)->Q (.ref s.heap.objs.size) { s with heap:=h',toks:=tk }) :
  wpAny (model prog w) A (call (.type "dict") [.ref l]) Q E s:=by
 refine callType_codes (Q₁:=fun obj s₁=>obj = .ref s.heap.objs.size/\s₁={ s with heap:=s.heap.push { cls:=.type "dict",data:=.dict #[] } }) F.kt_called_dict (F.kt_typeCall_dict_1 _) F.entry_dict_init (kt_code_dict_new _ ⟨rfl,rfl⟩) ?_
 rintro obj s₁ ⟨rfl,rfl⟩
 have hnew:(s.heap.push { cls:=.type "dict",data:=.dict #[] }).DictOf knd s.heap.objs.size []:=Heap.DictOf.new s.heap
 have AA:(s.heap.push { cls:=.type "dict",data:=.dict #[] }).get? l=some o:=EF _ hx
 have C5:l < s.heap.objs.size:=EK hx
 refine⟨hnew.typeIs,F.args_dict_init_2 _ _,?_⟩
 unfold Builtin.«dict.__init__»
 refine EE ?_
 unfold Builtin.Dict.selfAndRest
 refine EE (wpAny_notOrdered_dict hnew.typeIs ?_)
 show wpAny _ _ (pure (s.heap.objs.size,[Value.ref l])) _ _ _
 refine EI ?_
 show wpAny _ _ (Builtin.Dict.updateFrom "dict.__init__" s.heap.objs.size (.ref l) [] .none) _ _ _
 unfold Builtin.Dict.updateFrom
 refine EE (GD (T:="tuple") ⟨o,AA,hc⟩ ?_)
 rw[if_pos (by decide)]
 refine EE (qc (s:={ s with heap:=s.heap.push { cls:=.type "dict",data:=.dict #[] } }) AA hc hdat hdn hh fun h1 Eb BE=>?_)
 show wpAny _ _ (if (Option.isNone none)=true then _ else _) _ _ _
 rw[if_pos (by decide)]
 refine EE (GQ ?_)
 have hl1:h1.IsTuple l items:=⟨o,BE _ _ AA,hc,k,hdat⟩
 refine EE (Gh (s:={ s with heap:=h1,toks:=Eb }) hl1 ?_)
 have hs1:s.heap.objs.size < h1.objs.size:=by
  obtain⟨o2,_,_,ho2,_⟩:=hnew
  exact EK (BE _ _ ho2)
 have C6:∀b ob,s.heap.get? b=some ob->(h1.push { cls:=.type "tuple_iterator",data:=.fields #[.ref l,.int 0 0] }).get? b=some ob:=fun b ob e=>EF _ (BE _ _ (EF _ e))
 refine EI ⟨Gy F.bE _,?_⟩
 refine lA (A:=A.in1) (knd:=knd) (rs:=rs) (it:=h1.objs.size) hh (ES (Gv C5 hs1)) (ES C5) (Hg hs1) hz items.size 0 _ [] (by omega) ⟨_,EL _ rfl,rfl,rfl⟩ (hl1.push _) ⟨hp.1,fun j kv e=>?_⟩ ?_ (EJ _) fun h' tk dd oo=>?_
 ·obtain⟨t,key,a1,⟨ot,BD,r⟩,a3⟩:=hp.2 j kv e
  have C7:=EK BD
  exact⟨t,key,a1,⟨ot,C6 _ _ BD,r⟩,a3,ES (Gv C7 hs1),ES C7⟩
 ·obtain⟨o2,es,ep,ho2,r⟩:=hnew
  exact⟨o2,es,ep,EF _ (BE _ _ ho2),r⟩
 ·rw[List.drop_zero]at dd
  exact⟨rfl,h h' tk dd fun b ob e=>oo b ob (ES (Gv (EK e) hs1)) (ES (EK e)) (C6 b ob e)⟩
end
end PySem
namespace L2
open PySem PySem.Spec PyProof.Rows
section
variable {X:Cx}
def Inv.Cd{pins:Va}{σ:St}{H:Hp}{s:Shared}{a:Addr}{xs:List V}(I:Inv X pins σ H s)(h:SqT X.K H a xs):∃its:List Value,Vals xs its/\xX s.heap a its.toArray/\xs.length<=sizeLine:=by
 rcases h with(h|⟨o,h⟩)|⟨o,its,n,hk,hc,hd,hs,hz,r⟩
 ·obtain⟨z,its,r,p⟩:=I.hok a _ h
  exact⟨its,r,p,z⟩
 ·obtain⟨_,z,its,r,p⟩:=I.hok a _ h
  exact⟨its,r,p,z⟩
 ·exact⟨its.toList,r,⟨o,I.AD a o hk,hd,hc,n,by simpa using hs⟩,by rw[r.length];simpa using hz⟩
def kK(hc:X.calm=true):dh X (.type "dict") (fun xs H Q=>∃(p:Addr) (vs:List V) (kvs:List (aK×V)),xs=[.ref p]/\SqT X.K H p vs/\vs.length=kvs.length/\(∀(j:Nat) (v:V) (kv:aK×V),vs[j]?=some v->kvs[j]?=some kv->∃t,v = .ref t/\SqT X.K H t [kV kv.1,kv.2])/\∀q,H q=none->Q (.ref q) (upd H q (.dK (cG [] kvs)))):=by
 intro pins s σ H xs us Q I r h
 obtain⟨p,vs,kvs,rfl,hp,hl,hk,q⟩:=h
 obtain⟨u,rfl,rx⟩:=eQ r
 cases rx
 obtain⟨its,rv,⟨o,e,hdn,hcl,n,hdt⟩,hz⟩:=I.Cd hp
 obtain⟨rs,a,b,c⟩:=qG I rv hl hk
 have hvl:=rv.length
 refine qd (knd:=ax X.prog X.w) (rs:=rs) (items:=its.toArray) (I.ok.hd hc) e hcl hdt hdn (by rw[EH,<-hvl];exact hz) ⟨by rw[b,EH],fun j kv ej=>?_⟩ fun h' tk dd kp=>?_
 ·obtain⟨t,key,c1,c2,c3⟩:=c j kv ej
  exact⟨t,key,by simpa using c1,c2,c3⟩
 ·have dk:=jF (P:=X.prog) (w:=X.w) (H:=H) s.heap I.big
  have hm:(cG [] kvs).length<=sizeLine:=by
   have h1:=cp kvs []
   rw[G3]at h1
   omega
  exact⟨.ref _,_,I.laid (a:=s.heap.objs.size) (o:=.dK (cG [] kvs)) (h':=h') (t':=tk) kp (EJ _) ⟨hm,dk.2.1,_,a.merge .nil,dd⟩,rfl,q _ (I.hok.fresh (EJ _))⟩
end
end L2
namespace L3
open PySem PySem.Spec PyProof.Rows L2
section
variable {X:Cx}
def dX:lr:=fun ps S Q=>match ps with
 |[.tup xs]=>(match dW xs with|some kvs=>∀p,S p=none->Q (.ref p) (xF S p (.dct (dD [] kvs)))|none=>False)
 |_=>False
def lB(hc:X.calm=true):eh X (.type "dict") dX:=⟨fun pins s σ H xs us Q I r ⟨ps,S,Q3,rp,rS,q,k⟩=>by
 unfold dX at q
 split at q
 ·cases rp with
  |cons a rr=>
   cases rr
   cases a with
   |tup hv rs=>
    split at q
    ·rename_i eb
     obtain⟨ks,h1,h2,h3⟩:=gR rs eb
     refine kK hc pins s σ H _ us Q I r ⟨_,_,ks,rfl,hv,h1,h2,fun p hp=>k _ _ _ _ (q p (rS.free hp)) (.ref p) (rS.new hp ⟨_,am,?_⟩) (.new hp)⟩
     exact(xK.merge h3 .nil).mono (.new hp)
    ·exact q.elim
 ·exact q.elim⟩
end
end L3
namespace L3
open PySem L2 Xc
def tV{P:List Value->Prop}(h:∀a,P [a])(us:Vv)(hl:us.length=1):P us:=match us,hl with|[_],_=>h _
def qe{P:List Value->Prop}(h:∀a b,P [a,b])(us:Vv)(hl:us.length=2):P us:=match us,hl with|[_,_],_=>h _ _
def wD{P:List Value->Prop}(h:∀a b c,P [a,b,c])(us:Vv)(hl:us.length=3):P us:=match us,hl with|[_,_,_],_=>h _ _ _
def wE{P:List Value->Prop}(h:∀a b c d,P [a,b,c,d])(us:Vv)(hl:us.length=4):P us:=match us,hl with|[_,_,_,_],_=>h _ _ _ _
section
variable {K:Vo} {h:Heap} {mg:Vr} {x c m q:Str} {st:Stmt} {ps fl:Vs}
noncomputable def qg:Option (Option Value)->Bool
 |some none=>true
 |_=>false
def qh{o:Option (Option Value)}(h:qg o=true):o=some none:=by
 unfold qg at h;split at h
 ·rfl
 ·cases h
def FnAt(K:Vo)(f:Addr)(m q:Str)(st:Stmt):Prop:=∃(oc kV doc pm cdv ct:Value) (od an:Option Addr) (osl:Array (Option Value)),
 K.lookup f=some ⟨oc,od,.func (PySem.W.fnOf m q (bK st) (aY st) (ay st) .none kV doc pm an cdv ct),osl⟩/\PySem.W.codeIn K cdv q=true/\PySem.W.keepIn K (.ref f)=true
abbrev n9(m q:Str)(st:Stmt)(ps:Vs):Prop:=∀(kV doc pm:Value) (an:Option Addr) (cdv ct:Value) (us:Vv),us.length=ps.length->bindArgs (PySem.W.fnOf m q (bK st) (aY st) (ay st) .none kV doc pm an cdv ct) ⟨us,[]⟩=pure (ps.zip us)
def FnAt.mk{f:Addr}(a:FnAt K f m q st)(hb:n9 m q st ps):∃fd,AG K m q st f fd/\Binds K fd ps []/\PySem.W.keepIn K (.ref f)=true:=by
 obtain⟨oc,kV,doc,pm,cdv,ct,od,an,osl,l,cc,k⟩:=a
 exact⟨_,i4 l cc k,(i4 l cc k).binds hb,k⟩
def y9(K:Vo)(x:Str)(st:Stmt):Prop:=∃f,PySem.W.nsIn K mainGlobals x=some (some (.ref f))/\FnAt K f x x st
def y9.own(X:K.In h)(G:h.Ns mainGlobals mg)(a:y9 K x st)(hb:n9 x x st ps):bN K mg x st ps:=by
 obtain⟨f,n,a⟩:=a
 obtain⟨fd,F,b,k⟩:=a.mk hb
 exact⟨f,fd,F,b,k,PySem.W.mg_of X G n⟩
def y9.law{fa:Addr}(X:K.In h)(G:h.Ns mainGlobals mg)(a:y9 K x st)(hfa:mg x=some (.ref fa))(hb:n9 x x st ps):∃kV doc pm an cdv ct,vK K mg x st ps fa (PySem.W.fnOf x x (bK st) (aY st) (ay st) .none kV doc pm an cdv ct):=by
 obtain⟨f,n,oc,kV,doc,pm,cdv,ct,od,an,osl,l,cc,k⟩:=a
 cases hfa.symm.trans (PySem.W.mg_of X G n)
 exact⟨kV,doc,pm,an,cdv,ct,i4 l cc k,(i4 l cc k).binds hb,k,hfa⟩
def BF(P:Program)(w:World)(K:Vo)(x:Str)(kvs:List (aK×V)):Prop:=∃a o,PySem.W.nsIn K mainGlobals x=some (some (.ref a))/\K.lookup a=some o/\(a == sysModules)=false/\∃vs,KV kvs vs/\Obj.IsDictOf (ax P w) o vs
def BF.kd{P:Program}{w:World}{kvs:List (aK×V)}(X:K.In h)(G:h.Ns mainGlobals mg)(a:BF P w K x kvs):∃a,mg x=some (.ref a)/\KD P w K a kvs:=by
 obtain⟨a,o,n,l,s,vs,h1,h2⟩:=a
 exact⟨a,PySem.W.mg_of X G n,s,o,vs,l,h1,h2⟩
def jg(X:K.In h)(G:h.Ns mainGlobals mg){l:Vs}(a:(l.all fun x=>qg (PySem.W.nsIn K mainGlobals x))=true)(hx:x∈l:=by decide):mg x=none:=PySem.W.mg_none_of X G (qh (List.all_eq_true.mp a x hx))
section
variable {f C:Addr} {oc kV doc pm cdv ct:Value} {od an:Option Addr} {osl:Array (Option Value)}
def xz(n:PySem.W.nsIn K mainGlobals x=some (some (.ref f)))(l:K.lookup f=some ⟨oc,od,.func (PySem.W.fnOf x x (bK st) (aY st) (ay st) .none kV doc pm an cdv ct),osl⟩)(cc:PySem.W.codeIn K cdv x=true)(k:PySem.W.keepIn K (.ref f)=true):y9 K x st:=⟨f,n,oc,kV,doc,pm,cdv,ct,od,an,osl,l,cc,k⟩
def xA{P:Program}{w:World}{kvs:List (aK×V)}{o:Obj}(n:PySem.W.nsIn K mainGlobals x=some (some (.ref f)))(l:K.lookup f=some o)(s:(f == sysModules)=false)(v:∃vs,KV kvs vs/\Obj.IsDictOf (ax P w) o vs):BF P w K x kvs:=⟨f,o,n,l,s,v⟩
end
end
end L3
namespace Zz
open PySem
open Sem (wp)
open Zt (Si Sq tO pD H1 H2 H3 H4 H5)
section
variable {prog:Program} {w:World} {A:Around} {E:Vq} {s:Shared} {ka kb:Bool} {z TI TO i1 i2 l1 l2:Addr} {k1 k2:Nat} {xs ys:Vw} {x y a b:Value}
def n_{Q:Vq}(D:ZipApart z TI TO i1 i2 l1 l2)(gz:IsZip s.heap z TI TO .none)(gI:IsPair s.heap TI (.ref i1) (.ref i2))(gO:IsPair s.heap TO a b)
  (g1:Si ka s.heap i1 l1 k1) (g2:Si kb s.heap i2 l2 k2) (t1:Sq ka s.heap l1 xs) (t2:Sq kb s.heap l2 ys) (hx:xs[k1]?=some x) (hy:ys[k2]?=some y)
  (k:∀g,IsZip g z TI TO (rawInt s.heap.objs.size)->IsPair g TO x y->Si ka g i1 l1 (k1+1)->Si kb g i2 l2 (k2+1)->IsPair g s.heap.objs.size x y->g.objs.size=s.heap.objs.size+1->
   (∀c o,c≠z->c≠TO->c≠i1->c≠i2->s.heap.get? c=some o->g.get? c=some o)->Q (.ref s.heap.objs.size) { s with heap:=g }) :
  wpAny (model prog w) A (Builtin.«zip.__next__» ⟨[.ref z],[]⟩) (fun fin s'=>∃v,fin = .done (.ret v)/\Q v s') E s:=by
 show wpAny _ _ (field (.ref z) 2 >>= _) _ _ _;refine EE (Fb gz rfl (x:=.bool false) rfl ?_)
 show wpAny _ _ (field (.ref z) 3 >>= _) _ _ _;refine EE (Fb gz rfl (x:=.ref TI) rfl (EE (Fx gI rfl ?_)))
 show wpAny _ _ (Builtin.SmallTypes.ownedTupleIsFree (.ref z) >>= _) _ _ _;refine EE ?_;unfold Builtin.SmallTypes.ownedTupleIsFree
 refine EE (Fb gz rfl (x:=.none) rfl (EI ?_));simp only[G2]
 refine EE (GQ (EE (Fb gz rfl (x:=.ref TO) rfl (EE (F2 gz (by simp) fun h₁ z1 q1=>?_)))))
 replace z1:IsZip h₁ z TI TO .ellipsis:=z1
 refine EE ?_;simp only[List.zipIdx_cons,List.zipIdx_nil,GJ,List.forIn_nil]
 refine EE (EE (wpAny_onRaise ?_));show wpAny _ _ (Builtin.SmallTypes.nextOf (.ref i1) >>= _) _ _ _
 refine EE (tO (g1.extBut q1.extBut D.i1z) (t1.extBut q1.extBut D.l1z) hx fun h₂ n1 q2=>EI ?_)
 have o2:IsPair h₂ TO a b:=q2.extBut _ _ D.TOi1 (q1.extBut _ _ D.TOz gO)
 refine EE (Fx o2 rfl (EE (Hx o2 fun h₃ o3 q3=>?_)))
 replace o3:IsPair h₃ TO x b:=o3
 refine EE (wpAny_letGo (EI ?_));refine EE (EE (wpAny_onRaise ?_));show wpAny _ _ (Builtin.SmallTypes.nextOf (.ref i2) >>= _) _ _ _
 refine EE (tO (((g2.extBut q1.extBut D.i2z).extBut q2.extBut D.i12.symm).extBut q3.extBut D.TOi2.symm) (((t2.extBut q1.extBut D.l2z).extBut q2.extBut D.l2i1).extBut q3.extBut D.l2TO) hy fun h₄ n2 q4=>EI ?_)
 have o4:IsPair h₄ TO x b:=q4.extBut _ _ D.TOi2 o3
 refine EE (Fx o4 rfl (EE (Hx o4 fun h₅ o5 q5=>?_)))
 replace o5:IsPair h₅ TO x y:=o5
 refine EE (wpAny_letGo (EI (EI ?_)));refine EE (Fx o5 rfl (EE (wpAny_newTuple ?_)))
 have sz:h₅.objs.size=s.heap.objs.size:=by rw[q5.1,q4.1,q3.1,q2.1,q1.1]
 have z5:IsZip h₅ z TI TO .ellipsis:=q5.extBut _ _ D.TOz.symm (q4.extBut _ _ D.i2z.symm (q3.extBut _ _ D.TOz.symm (q2.extBut _ _ D.i1z.symm z1)))
 have kk:∀c o,c≠z->c≠TO->c≠i1->c≠i2->s.heap.get? c=some o->h₅.get? c=some o:=fun c o c1 c2 c3 c4 e=>q5.extBut _ _ c2 (q4.extBut _ _ c4 (q3.extBut _ _ c2 (q2.extBut _ _ c3 (q1.extBut _ _ c1 e))))
 have m1:Si ka h₅ i1 l1 (k1+1):=((n1.extBut q3.extBut D.TOi1.symm).extBut q4.extBut D.i12).extBut q5.extBut D.TOi1.symm
 have m2:Si kb h₅ i2 l2 (k2+1):=n2.extBut q5.extBut D.TOi2.symm
 have zl:z < h₅.objs.size:=EK z5
 show wpAny _ _ (Builtin.SmallTypes.ownedTupleHandOut (.ref z) (.ref h₅.objs.size) >>= _) _ _ _;refine EE ?_;unfold Builtin.SmallTypes.ownedTupleHandOut
 have z6:IsZip (h₅.push { cls:=.type "tuple",data:=.seq #[x,y] }) z TI TO .ellipsis:=EF _ z5
 refine EE (F2 z6 (by simp) fun h₇ z7 q7=>?_)
 replace z7:IsZip h₇ z TI TO (rawInt h₅.objs.size):=z7
 refine F2 z7 (by simp) fun h₈ z8 q8=>?_
 replace z8:IsZip h₈ z TI TO (rawInt h₅.objs.size):=z8
 have up:∀c o,c≠z->h₅.get? c=some o->h₈.get? c=some o:=fun c o c1 e=>q8.extBut _ _ c1 (q7.extBut _ _ c1 (EF _ e))
 have T8:IsPair h₈ h₅.objs.size x y:=q8.extBut _ _ (Hg zl) (q7.extBut _ _ (Hg zl) (EL _ rfl))
 rw[sz]at z8 T8
 refine EI ⟨_,rfl,?_⟩
 show Q (.ref h₅.objs.size) _
 rw[sz]
 exact k h₈ z8 (up _ _ D.TOz o5) (m1.at fun o e=>up _ o D.i1z e) (m2.at fun o e=>up _ o D.i2z e) T8 (by rw[q8.1,q7.1,FT,sz]) fun c o c1 c2 c3 c4 e=>up c o c1 (kk c o c1 c2 c3 c4 e)
def kL{Q:Option Value->Shared->Prop}(D:ZipApart z TI TO i1 i2 l1 l2)(gz:IsZip s.heap z TI TO .none)(gI:IsPair s.heap TI (.ref i1) (.ref i2))(gO:IsPair s.heap TO a b)
  (g1:Si ka s.heap i1 l1 k1) (g2:Si kb s.heap i2 l2 k2) (t1:Sq ka s.heap l1 xs) (t2:Sq kb s.heap l2 ys) (hx:xs[k1]?=some x) (hy:ys[k2]?=some y)
  (k:∀g,IsZip g z TI TO (rawInt s.heap.objs.size)->IsPair g TO x y->Si ka g i1 l1 (k1+1)->Si kb g i2 l2 (k2+1)->IsPair g s.heap.objs.size x y->g.objs.size=s.heap.objs.size+1->
   (∀c o,c≠z->c≠TO->c≠i1->c≠i2->s.heap.get? c=some o->g.get? c=some o)->Q (some (.ref s.heap.objs.size)) { s with heap:=g }):wpAny (model prog w) A (pyNext (.ref z)) Q E s:=by
 have ty:s.TypeIs (.ref z) "zip":=⟨_,gz,rfl⟩
 unfold pyNext
 exact EE (wpAny_attempt (Fg (name:=Str.ofString "__next__") ty F8 (F0 F8 ty Hu
  (n_ D gz gI gO g1 g2 t1 t2 hx hy fun g a1 a2 a3 a4 a5 a6 a7=>EI (k g a1 a2 a3 a4 a5 a6 a7)) (Ho _))))
end
section
variable {ka kb:Bool} {prog:Program} {w:World} {A:Around} {E:Vq} {s:Shared}
def mf{l1 l2:Addr}{xs ys:Vw}{Q:Vq}(e1:Sq ka s.heap l1 xs)(e2:Sq kb s.heap l2 ys)
  (k:∀g,IsZip g (s.heap.objs.size+4) (s.heap.objs.size+2) (s.heap.objs.size+3) .none->IsPair g (s.heap.objs.size+2) (.ref s.heap.objs.size) (.ref (s.heap.objs.size+1))->
   IsPair g (s.heap.objs.size+3) .none .none->Si ka g s.heap.objs.size l1 0->Si kb g (s.heap.objs.size+1) l2 0->g.objs.size=s.heap.objs.size+5->
   (∀c o,s.heap.get? c=some o->g.get? c=some o)->Q (.ref (s.heap.objs.size+4)) { s with heap:=g }) :
  wpAny (model prog w) A (call (.type "zip") [.ref l1,.ref l2]) Q E s:=by
 refine callType_new F.called_zip (by decide) (F.typeCall_zip_2 _ _) (F.newCall_zip_2 _ _) (fun obj=>F.args_object_init_3 obj _ _) F.entry_zip_new (Zt.lZ ka kb l1 l2 xs ys) ⟨e1,e2,?_⟩
 have z1:(H1 ka s.heap l1).objs.size=s.heap.objs.size+1:=FT ..
 have z2:(H2 ka kb s.heap l1 l2).objs.size=s.heap.objs.size+2:=by rw[FT,z1]
 have z3:(H3 ka kb s.heap l1 l2).objs.size=s.heap.objs.size+3:=by rw[FT,z2]
 have z4:(H4 ka kb s.heap l1 l2).objs.size=s.heap.objs.size+4:=by rw[FT,z3]
 have g5:(H5 ka kb s.heap l1 l2).get? (H4 ka kb s.heap l1 l2).objs.size=some _:=EL _ rfl
 have g4:(H5 ka kb s.heap l1 l2).get? (H3 ka kb s.heap l1 l2).objs.size=some _:=EF _ (EL _ rfl)
 have g3:(H5 ka kb s.heap l1 l2).get? (H2 ka kb s.heap l1 l2).objs.size=some _:=EF _ (EF _ (EL _ rfl))
 have g2:(H5 ka kb s.heap l1 l2).get? (H1 ka s.heap l1).objs.size=some _:=EF _ (EF _ (EF _ (EL _ rfl)))
 have g1:(H5 ka kb s.heap l1 l2).get? s.heap.objs.size=some _:=EF _ (EF _ (EF _ (EF _ (EL _ rfl))))
 show _/\_
 rw[z2,z3,z4]at g5
 rw[z1,z2]at g3
 rw[z3]at g4
 rw[z1]at g2
 rw[z4]
 exact⟨⟨_,g5,rfl⟩,k _ g5 g3 g4 (.mk g1) (.mk g2) (by rw[FT,z4]) fun c o e=>EF _ (EF _ (EF _ (EF _ (EF _ e))))⟩
end
abbrev oN(h:Heap)(n:Nat)(f0 f1:Value):Prop:=h.get? (n+4:Nat)=some { cls:=.type "zip",dict:=none,data:=.fields #[f0,f1,.bool false,.ref (n+2:Nat),.ref (n+3:Nat)],slots:=#[] }
section
variable {ka kb:Bool} {prog:Program} {w:World} {A:Around} {E:Vq} {s:Shared} {n l1 l2:Nat} {i:Nat} {xs ys:Vw} {x y:Value} {T:Nat} {oT:Obj} {f1:Value}
def xB{M:Model}{a:Nat}{Q:Option Obj->Shared->Prop}(h:Q (s.heap.get? a) s):wpAny M A (loadIfAlive a) Q E s:=fun Γ p _=>h
def lC{Q:Bool->Shared->Prop}(gz:oN s.heap n (rawInt T) f1)(aT:s.heap.get? T=some oT)(hf:f1 = .bool false\/f1 = .bool true)
  (k:∀g,oN g n (rawInt T) (.bool true)->(∀c o,c≠n+4->s.heap.get? c=some o->g.get? c=some o)->g.objs.size=s.heap.objs.size->Q false { s with heap:=g }) :
  wpAny (model prog w) A (Builtin.SmallTypes.ownedTupleIsFree (.ref (n+4:Nat))) Q E s:=by
 unfold Builtin.SmallTypes.ownedTupleIsFree
 refine EE (Fb gz rfl (x:=rawInt T) rfl ?_)
 show wpAny _ _ (loadIfAlive ((T:Int).toNat) >>= _) _ _ _
 refine EE (xB ?_)
 rw[GN,aT]
 show wpAny _ _ (field (.ref (n+4:Nat)) 1 >>= _) _ _ _
 refine EE (Fb gz rfl (x:=f1) rfl ?_)
 rcases hf with rfl|rfl
 ·show wpAny _ _ (setField (.ref (n+4:Nat)) 1 (.bool true) >>= _) _ _ _
  exact EE (F2 gz (by simp) fun g z1 q1=>EI (k g z1 (fun c o c1 e=>q1.extBut _ _ c1 e) q1.1))
 ·show wpAny _ _ (pure false) _ _ _
  exact EI (k s.heap gz (fun _ _ _ e=>e) rfl)
def xC{Q:Vq}(d1:l1 < n)(d2:l2 < n)(gz:oN s.heap n (rawInt T) f1)(gI:IsPair s.heap (n+2:Nat) (.ref n) (.ref (n+1:Nat)))(aT:s.heap.get? T=some oT)(hf:f1 = .bool false\/f1 = .bool true)
  (g1:Si ka s.heap n l1 i) (g2:Si kb s.heap (n+1:Nat) l2 i) (t1:Sq ka s.heap l1 xs) (t2:Sq kb s.heap l2 ys) (hx:xs[i]?=some x) (hy:ys[i]?=some y)
  (k:∀g,oN g n (rawInt T) (.bool true)->Si ka g n l1 (i+1)->Si kb g (n+1:Nat) l2 (i+1)->IsPair g s.heap.objs.size x y->g.objs.size=s.heap.objs.size+1->
   (∀c o,c≠n+4->c≠n->c≠n+1->s.heap.get? c=some o->g.get? c=some o)->Q (.ref s.heap.objs.size) { s with heap:=g }) :
  wpAny (model prog w) A (Builtin.«zip.__next__» ⟨[.ref (n+4:Nat)],[]⟩) (fun fin s'=>∃v,fin = .done (.ret v)/\Q v s') E s:=by
 show wpAny _ _ (field (.ref (n+4:Nat)) 2 >>= _) _ _ _;refine EE (Fb gz rfl (x:=.bool false) rfl ?_)
 show wpAny _ _ (field (.ref (n+4:Nat)) 3 >>= _) _ _ _;refine EE (Fb gz rfl (x:=.ref (n+2:Nat)) rfl (EE (Fx gI rfl ?_)))
 show wpAny _ _ (Builtin.SmallTypes.ownedTupleIsFree (.ref (n+4:Nat)) >>= _) _ _ _
 refine EE (lC gz aT hf fun h₁ z1 q1 AJ=>?_)
 simp only[E8,Gs]
 simp only[<-Array.forIn_toList,GJ,List.forIn_nil]
 have Ce:Si ka h₁ n l1 i:=g1.at fun o e=>q1 _ o (by omega) e
 have Ec:Si kb h₁ (n+1:Nat) l2 i:=g2.at fun o e=>q1 _ o (by omega) e
 have t1':Sq ka h₁ l1 xs:=t1.at fun o e=>q1 _ o (by omega) e
 have Ed:Sq kb h₁ l2 ys:=t2.at fun o e=>q1 _ o (by omega) e
 refine EE (EE (EE (FI ?_)))
 show wpAny _ _ (Builtin.SmallTypes.nextOf (.ref n) >>= _) _ _ _
 refine EE (Zt.tO Ce t1' hx fun h₂ n1 q2=>EI ?_)
 have Cf:Si kb h₂ (n+1:Nat) l2 i:=Ec.extBut q2.extBut (Zu.nn (by omega))
 have Cg:Sq kb h₂ l2 ys:=Ed.extBut q2.extBut (Zu.nn (by omega))
 refine EI ?_
 refine EE (EE (FI ?_))
 show wpAny _ _ (Builtin.SmallTypes.nextOf (.ref (n+1:Nat)) >>= _) _ _ _
 refine EE (Zt.tO Cf Cg hy fun h₃ n2 q3=>EI ?_)
 refine EI (EI ?_)
 show wpAny _ _ (newTuple [x,y] >>= _) _ _ _
 refine EE (wpAny_newTuple (EI ⟨_,rfl,?_⟩))
 have sz:h₃.objs.size=s.heap.objs.size:=by rw[q3.1,q2.1,AJ]
 have kk:∀c o,c≠n+4->c≠n->c≠n+1->s.heap.get? c=some o->h₃.get? c=some o:=fun c o c1 c2 c3 e=>q3.extBut _ _ c3 (q2.extBut _ _ c2 (q1 c o c1 e))
 have z3:oN h₃ n (rawInt T) (.bool true):=q3.extBut _ _ (Zu.nn (by omega)) (q2.extBut _ _ (Zu.nn (by omega)) z1)
 have m1:Si ka h₃ n l1 (i+1):=n1.extBut q3.extBut (Zu.nn (by omega))
 have T8:IsPair (h₃.push { cls:=.type "tuple",data:=.seq #[x,y] }) h₃.objs.size x y:=EL _ rfl
 rw[sz]at T8
 show Q (.ref h₃.objs.size) _
 rw[sz]
 exact k _ (EF _ z3) (m1.at fun o e=>EF _ e) (n2.at fun o e=>EF _ e) T8 (by rw[FT,sz]) fun c o c1 c2 c3 e=>EF _ (kk c o c1 c2 c3 e)
def wF{Q:Fin->Shared->Prop}(hh:A.handled=none)(d1:l1 < n)(gz:oN s.heap n (rawInt T) f1)(gI:IsPair s.heap (n+2:Nat) (.ref n) (.ref (n+1:Nat)))(aT:s.heap.get? T=some oT)(hf:f1 = .bool false\/f1 = .bool true)
  (g1:Si ka s.heap n l1 i) (t1:Sq ka s.heap l1 xs) (hx:xs[i]?=none)
  (k:∀(g:Heap) (e:Addr),(∀c o,c≠n+4->c≠n->s.heap.get? c=some o->g.get? c=some o)->(∃o,g.get? e=some o/\o.cls = .type "StopIteration")->E (.ref e) { s with heap:=g }) :
  wpAny (model prog w) A (Builtin.«zip.__next__» ⟨[.ref (n+4:Nat)],[]⟩) Q E s:=by
 show wpAny _ _ (field (.ref (n+4:Nat)) 2 >>= _) _ _ _;refine EE (Fb gz rfl (x:=.bool false) rfl ?_)
 show wpAny _ _ (field (.ref (n+4:Nat)) 3 >>= _) _ _ _;refine EE (Fb gz rfl (x:=.ref (n+2:Nat)) rfl (EE (Fx gI rfl ?_)))
 show wpAny _ _ (Builtin.SmallTypes.ownedTupleIsFree (.ref (n+4:Nat)) >>= _) _ _ _
 refine EE (lC gz aT hf fun h₁ z1 q1 AJ=>?_)
 simp only[E8,Gs]
 simp only[<-Array.forIn_toList,GJ,List.forIn_nil]
 have Ce:Si ka h₁ n l1 i:=g1.at fun o e=>q1 _ o (by omega) e
 have t1':Sq ka h₁ l1 xs:=t1.at fun o e=>q1 _ o (by omega) e
 refine EE (EE (EE (FI ?_)))
 show wpAny _ _ (Builtin.SmallTypes.nextOf (.ref n) >>= _) _ _ _
 exact EE (Zt.pD hh Ce t1' hx fun h₂ e q2 he=>k h₂ e (fun c o c1 c2 u=>q2 _ _ c2 (q1 c o c1 u)) he)
def u9{Q:Option Value->Shared->Prop}(d1:l1 < n)(d2:l2 < n)(gz:oN s.heap n (rawInt T) f1)(gI:IsPair s.heap (n+2:Nat) (.ref n) (.ref (n+1:Nat)))(aT:s.heap.get? T=some oT)(hf:f1 = .bool false\/f1 = .bool true)
  (g1:Si ka s.heap n l1 i) (g2:Si kb s.heap (n+1:Nat) l2 i) (t1:Sq ka s.heap l1 xs) (t2:Sq kb s.heap l2 ys) (hx:xs[i]?=some x) (hy:ys[i]?=some y)
  (k:∀g,oN g n (rawInt T) (.bool true)->Si ka g n l1 (i+1)->Si kb g (n+1:Nat) l2 (i+1)->IsPair g s.heap.objs.size x y->g.objs.size=s.heap.objs.size+1->
   (∀c o,c≠n+4->c≠n->c≠n+1->s.heap.get? c=some o->g.get? c=some o)->Q (some (.ref s.heap.objs.size)) { s with heap:=g }) :
  wpAny (model prog w) A (pyNext (.ref (n+4:Nat))) Q E s:=by
 have ty:s.TypeIs (.ref (n+4:Nat)) "zip":=⟨_,gz,rfl⟩
 unfold pyNext
 exact EE (wpAny_attempt (Fg (name:=Str.ofString "__next__") ty F8 (F0 F8 ty Hu
  (xC d1 d2 gz gI aT hf g1 g2 t1 t2 hx hy fun g a1 a2 a3 a4 a5 a6=>EI (k g a1 a2 a3 a4 a5 a6)) (Ho _))))
def mh{Q:Option Value->Shared->Prop}(hh:A.handled=none)(d1:l1 < n)(gz:oN s.heap n (rawInt T) f1)(gI:IsPair s.heap (n+2:Nat) (.ref n) (.ref (n+1:Nat)))(aT:s.heap.get? T=some oT)(hf:f1 = .bool false\/f1 = .bool true)
  (g1:Si ka s.heap n l1 i) (t1:Sq ka s.heap l1 xs) (hx:xs[i]?=none)
  (k:∀g:Heap,(∀c o,c≠n+4->c≠n->s.heap.get? c=some o->g.get? c=some o)->Q none { s with heap:=g }):wpAny (model prog w) A (pyNext (.ref (n+4:Nat))) Q E s:=by
 have ty:s.TypeIs (.ref (n+4:Nat)) "zip":=⟨_,gz,rfl⟩
 unfold pyNext
 refine EE (wpAny_attempt (Fg (name:=Str.ofString "__next__") ty F8 (F0 F8 ty Hu (wF hh d1 gz gI aT hf g1 t1 hx fun g e kk ⟨o,ho,hc⟩=>?_) (Ho _))))
 exact EE (wpAny_isInstance (T:="StopIteration") (b:=true) ⟨o,ho,hc⟩ isSubtype_stop (EI (k _ kk)))
end
noncomputable def cN(n i:Nat):List Value:=(List.range i).map fun j=>Value.ref (n+6+j:Nat)
structure St (ka kb:Bool) (h:Heap) (n l1 l2:Nat) (xs ys:Vw) (i:Nat):Prop where
 sz:h.objs.size=n+6+i
 I:IsPair h (n+2:Nat) (.ref n) (.ref (n+1:Nat))
 z:∃f1,(f1 = .bool false\/f1 = .bool true)/\oN h n (rawInt (n+6:Nat)) f1
 g1:Si ka h n l1 i
 g2:Si kb h (n+1:Nat) l2 i
 t1:Sq ka h l1 xs
 t2:Sq kb h l2 ys
 S:∃c,h.get? (n+5:Nat)=some { cls:=.type "list",dict:=none,data:=.seq (cN n i).toArray c,slots:=#[] }
 its:∀j x y,j < i->xs[j]?=some x->ys[j]?=some y->IsPair h (n+6+j:Nat) x y
def mi(n i:Nat):(cN n i).toArray.push (.ref (n+6+i:Nat))=(cN n (i+1)).toArray:=by
 unfold cN
 rw[List.range_succ,FZ]
 simp
structure u_ (h:Heap) (n:Nat) (xs ys:Vw):Prop where
 sz:n+6+xs.size<=h.objs.size
 S:∃c,h.get? (n+5:Nat)=some { cls:=.type "list",dict:=none,data:=.seq (cN n xs.size).toArray c,slots:=#[] }
 its:∀j x y,xs[j]?=some x->ys[j]?=some y->IsPair h (n+6+j:Nat) x y
section
variable {ka kb:Bool} {prog:Program} {w:World} {A:Around} {R:Result->Shared->Prop} {n l1 l2:Nat} {xs ys:Vw}
def loop(hh:A.in1.handled=none)(d1:l1 < n)(d2:l2 < n)(hxy:xs.size<=ys.size)(hz:xs.size<=sizeLine)(res:Value) :
  ∀(k i:Nat) (s:Shared),xs.size - i=k->1<=i->i<=xs.size->St ka kb s.heap n l1 l2 xs ys i->
  (∀g,u_ g n xs ys->(∀b o,b < n->s.heap.get? b=some o->g.get? b=some o)->R (.ok (.ret res)) { s with heap:=g })->
  codeAny (model prog w) A (.builtin "list.extend.loop" ⟨[.ref (n+5:Nat),.ref (n+4:Nat),res],[]⟩) R s:=by
 intro k
 induction k with
 |zero=>
  intro i s hk hi hle st hR
  have hin:i=xs.size:=by omega
  subst hin
  refine FY GY ?_
  rw[Fj FG _]
  show wpAny _ A.in1 (pyNext (.ref (n+4:Nat)) >>= _) _ _ s
  obtain⟨f1,hf,gz⟩:=st.z
  obtain⟨c,hS⟩:=st.S
  have h0:0 < xs.size:=by omega
  have aT:=st.its 0 (xs[0]'h0) (ys[0]'(by omega)) h0 (ER h0) (ER (by omega))
  have h1:xs.size - 1 < xs.size:=by omega
  have aL:=st.its (xs.size - 1) (xs[xs.size - 1]'h1) (ys[xs.size - 1]'(by omega)) h1 (ER h1) (ER (by omega))
  refine EE (mh hh d1 gz st.I aT hf st.g1 st.t1 (Gd (EJ _)) fun g kk=>?_)
  refine EI (hR g ⟨?_,⟨c,kk _ _ (by omega) (by omega) hS⟩,fun j x y hx hy=>kk _ _ (by omega) (by omega) (st.its j x y (Array.getElem?_eq_some_iff.mp hx).1 hx hy)⟩ fun b o hb e=>kk _ _ (by omega) (by omega) e)
  have h2:n+6+(xs.size - 1) < g.objs.size:=EK (kk _ _ (by omega) (by omega) aL)
  omega
 |succ k ih=>
  intro i s hk hi hle st hR
  have hlt:i < xs.size:=by omega
  refine FY GY ?_
  rw[Fj FG _]
  show wpAny _ A.in1 (pyNext (.ref (n+4:Nat)) >>= _) _ _ s
  obtain⟨f1,hf,gz⟩:=st.z
  obtain⟨c,hS⟩:=st.S
  have h0:0 < xs.size:=by omega
  have aT:=st.its 0 (xs[0]'h0) (ys[0]'(by omega)) (by omega) (ER h0) (ER (by omega))
  refine EE (u9 d1 d2 gz st.I aT hf st.g1 st.g2 st.t1 st.t2 (x:=xs[i]) (y:=ys[i]'(by omega)) (ER hlt) (ER (by omega)) fun g z1 m1 m2 p1 AJ kk=>?_)
  have S1:=kk _ _ (by omega) (by omega) (by omega) hS
  have Bn:s.heap.objs.size=n+6+i:=st.sz
  rw[Bn]at p1 AJ
  show wpAny _ A.in1 (updateSeq (n+5:Nat) (·.push (.ref s.heap.objs.size)) >>= _) _ _ _
  refine EE ?_
  rw[Bn]
  have len:(cN n i).toArray.size=i:=by unfold cN;simp
  have yx:∀b o,b≠n+5->g.get? b=some o->(g.update (n+5:Nat) (Obj.mapSeq (·.push (.ref (n+6+i:Nat))))).get? b=some o:=fun b o hb e=>(FA _ _ (F3 hb)).trans e
  have S2:=FH (Obj.mapSeq (·.push (Value.ref (n+6+i:Nat)))) S1 rfl
  refine G5 S1 rfl (EI ⟨Gy FG _,ih (i+1) _ (by omega) (by omega) (by omega) ⟨?_,yx _ _ (by omega) (kk _ _ (by omega) (by omega) (by omega) st.I),⟨.bool true,.inr rfl,yx _ _ (by omega) z1⟩,m1.at fun o e=>yx _ _ (by omega) e,m2.at fun o e=>yx _ _ (by omega) e,(st.t1.at fun o e=>kk _ _ (by omega) (by omega) (by omega) e).at fun o e=>yx _ _ (by omega) e,(st.t2.at fun o e=>kk _ _ (by omega) (by omega) (by omega) e).at fun o e=>yx _ _ (by omega) e,?_,?_⟩ fun g' st' Bo=>?_⟩) (by rw[len];omega) (by show((cN n i).toArray.push _).size<=sizeLine+1;rw[Array.size_push,len];omega)
  ·show(g.update _ _).objs.size=_
   rw[Hv,AJ]
   omega
  ·rw[<-mi]
   exact⟨_,S2⟩
  ·intro j x y hj hx hy
   by_cases e:j=i
   ·subst e
    rw[ER hlt]at hx
    rw[ER (by omega)]at hy
    cases hx;cases hy
    exact yx _ _ (by omega) p1
   ·exact yx _ _ (by omega) (kk _ _ (by omega) (by omega) (by omega) (st.its j x y (by omega) hx hy))
  ·exact hR g' st' fun b o hb e=>Bo b o hb (yx _ _ (by omega) (kk _ _ (by omega) (by omega) (by omega) e))
def first(hh:A.in1.handled=none)(d1:l1 < n)(d2:l2 < n)(hxy:xs.size<=ys.size)(h1:1<=xs.size)(hz:xs.size<=sizeLine)(res:Value)(s:Shared)(c:Nat)(sz:s.heap.objs.size=n+6)
  (gz:IsZip s.heap (n+4:Nat) (n+2:Nat) (n+3:Nat) .none) (gI:IsPair s.heap (n+2:Nat) (.ref n) (.ref (n+1:Nat))) (gO:IsPair s.heap (n+3:Nat) .none .none) (g1:Si ka s.heap n l1 0) (g2:Si kb s.heap (n+1:Nat) l2 0) (t1:Sq ka s.heap l1 xs) (t2:Sq kb s.heap l2 ys)
  (hS:s.heap.get? (n+5:Nat)=some { cls:=.type "list",dict:=none,data:=.seq #[] c,slots:=#[] })
  (hR:∀g,u_ g n xs ys->(∀b o,b < n->s.heap.get? b=some o->g.get? b=some o)->R (.ok (.ret res)) { s with heap:=g }) :
  codeAny (model prog w) A (.builtin "list.extend.loop" ⟨[.ref (n+5:Nat),.ref (n+4:Nat),res],[]⟩) R s:=by
 refine FY GY ?_
 rw[Fj FG _]
 show wpAny _ A.in1 (pyNext (.ref (n+4:Nat)) >>= _) _ _ s
 have h0:0 < xs.size:=by omega
 refine EE (kL (PyProof.Rows.zipApart_new d1 d2) gz gI gO g1 g2 t1 t2 (x:=xs[0]'h0) (y:=ys[0]'(by omega)) (ER h0) (ER (by omega)) fun g z1 o1 m1 m2 p1 AJ kk=>?_)
 have S1:=kk _ _ (Zu.nn (by omega)) (Zu.nn (by omega)) (Zu.nn (by omega)) (Zu.nn (by omega)) hS
 rw[sz]at p1 AJ z1
 show wpAny _ A.in1 (updateSeq (n+5:Nat) (·.push (.ref s.heap.objs.size)) >>= _) _ _ _
 refine EE ?_
 rw[sz]
 have yx:∀b o,b≠n+5->g.get? b=some o->(g.update (n+5:Nat) (Obj.mapSeq (·.push (.ref (n+6:Nat))))).get? b=some o:=fun b o hb e=>(FA _ _ (F3 hb)).trans e
 have S2:=FH (Obj.mapSeq (·.push (Value.ref (n+6:Nat)))) S1 rfl
 have kb:∀b o,b < n->s.heap.get? b=some o->(g.update (n+5:Nat) (Obj.mapSeq (·.push (.ref (n+6:Nat))))).get? b=some o:=fun b o hb e=>yx _ _ (by omega) (kk b o (Zu.nn (by omega)) (Zu.nn (by omega)) (Zu.nn (by omega)) (Zu.nn (by omega)) e)
 refine G5 S1 rfl (EI ⟨Gy FG _,loop hh d1 d2 hxy hz res (xs.size - 1) 1 _ rfl (EJ _) h1 ⟨?_,yx _ _ (by omega) (kk _ _ (Zu.nn (by omega)) (Zu.nn (by omega)) (Zu.nn (by omega)) (Zu.nn (by omega)) gI),⟨.bool false,.inl rfl,yx _ _ (by omega) z1⟩,m1.at fun o e=>yx _ _ (by omega) e,m2.at fun o e=>yx _ _ (by omega) e,t1.at fun o e=>kb _ _ d1 e,t2.at fun o e=>kb _ _ d2 e,⟨_,S2⟩,?_⟩ fun g' st' Bo=>?_⟩) (by show 0<=sizeLine;omega) (by show 1<=sizeLine+1;omega)
 ·show(g.update _ _).objs.size=_
  rw[Hv,AJ]
 ·intro j x y hj hx hy
  have e:j=0:=by omega
  subst e
  rw[ER h0]at hx
  rw[ER (by omega)]at hy
  cases hx;cases hy
  exact yx _ _ (by omega) p1
 ·exact hR g' st' fun b o hb e=>Bo b o hb (kb b o hb e)
def sO(hh:A.in1.handled=none)(d1:l1 < n)(d2:l2 < n)(hxy:xs.size<=ys.size)(hz:xs.size<=sizeLine)(res:Value)(s:Shared)(c:Nat)(sz:s.heap.objs.size=n+6)
  (gz:IsZip s.heap (n+4:Nat) (n+2:Nat) (n+3:Nat) .none) (gI:IsPair s.heap (n+2:Nat) (.ref n) (.ref (n+1:Nat))) (gO:IsPair s.heap (n+3:Nat) .none .none) (g1:Si ka s.heap n l1 0) (g2:Si kb s.heap (n+1:Nat) l2 0) (t1:Sq ka s.heap l1 xs) (t2:Sq kb s.heap l2 ys)
  (hS:s.heap.get? (n+5:Nat)=some { cls:=.type "list",dict:=none,data:=.seq #[] c,slots:=#[] })
  (hR:∀g,u_ g n xs ys->(∀b o,b < n->s.heap.get? b=some o->g.get? b=some o)->R (.ok (.ret res)) { s with heap:=g }) :
  codeAny (model prog w) A (.builtin "list.extend.loop" ⟨[.ref (n+5:Nat),.ref (n+4:Nat),res],[]⟩) R s:=by
 by_cases h1:1<=xs.size
 ·exact first hh d1 d2 hxy h1 hz res s c sz gz gI gO g1 g2 t1 t2 hS hR
 have e0:xs.size=0:=by omega
 refine FY GY ?_
 rw[Fj FG _]
 show wpAny _ A.in1 (pyNext (.ref (n+4:Nat)) >>= _) _ _ s
 refine EE (Zt.m6 hh (PyProof.Rows.zipApart_new d1 d2) gz gI gO g1 g2 t1 t2 (.inl (Gd (by omega))) fun g kk=>?_)
 have S1:=kk _ _ (Zu.nn (by omega)) (Zu.nn (by omega)) (Zu.nn (by omega)) (Zu.nn (by omega)) hS
 refine EI (hR g ⟨?_,⟨c,?_⟩,fun j x y hx _=>?_⟩ fun b o hb e=>kk b o (Zu.nn (by omega)) (Zu.nn (by omega)) (Zu.nn (by omega)) (Zu.nn (by omega)) e)
 ·have:=EK S1
  rw[e0]
  exact this
 ·rw[e0]
  exact S1
 ·rw[Gd (by omega)]at hx
  cases hx
end
def kM:typeLookup (.type "zip") "__len__" = pure none:=by rw[G4,Gj];kernel_rfl
def jT:typeLookup (.type "zip") "__length_hint__" = pure none:=by rw[G4,Gj];kernel_rfl
section
variable {ka kb:Bool} {prog:Program} {w:World} {A:Around} {E:Vq} {s:Shared} {n l1 l2:Nat} {xs ys:Vw}
def jU{Q:List Value->Shared->Prop}(hh:A.handled=none)(d1:l1 < n)(d2:l2 < n)(hxy:xs.size<=ys.size)(hz:xs.size<=sizeLine)(sz:s.heap.objs.size=n+5)
  (gz:IsZip s.heap (n+4:Nat) (n+2:Nat) (n+3:Nat) .none) (gI:IsPair s.heap (n+2:Nat) (.ref n) (.ref (n+1:Nat))) (gO:IsPair s.heap (n+3:Nat) .none .none) (g1:Si ka s.heap n l1 0) (g2:Si kb s.heap (n+1:Nat) l2 0) (t1:Sq ka s.heap l1 xs) (t2:Sq kb s.heap l2 ys)
  (hQ:∀g,u_ g n xs ys->(∀b o,b < n->s.heap.get? b=some o->g.get? b=some o)->Q (cN n xs.size) { s with heap:=g }):wpAny (model prog w) A (collect (.ref (n+4:Nat))) Q E s:=by
 unfold collect
 refine EE (wpAny_runValue (FY F.entry_proto_collect ?_))
 rw[Fj F.plain_proto_collect _]
 show wpAny _ A.in1 (newList [] >>= fun l=>again (.builtin "list.__iadd__" ⟨[l,.ref (n+4:Nat)],[]⟩)) _ _ s
 refine EE (Ft ?_)
 refine EI ⟨Gy F.plain_list_iadd _,FY F.entry_list_iadd ?_⟩
 rw[Fj F.plain_list_iadd _]
 show wpAny _ A.in1 (Builtin.List.listExtendWith (.ref s.heap.objs.size) (.ref (n+4:Nat)) (.ref s.heap.objs.size)) _ _ _
 unfold Builtin.List.listExtendWith
 have p:∀{b:Nat} {o:Obj},s.heap.get? b=some o->(s.heap.push { cls:=.type "list",data:=.seq ([]:Vv).toArray }).get? b=some o:=fun e=>EF _ e
 have hT:Shared.TypeIs { s with heap:=s.heap.push { cls:=.type "list",data:=.seq ([]:Vv).toArray } } (.ref (n+4:Nat)) "zip":=⟨_,p gz,rfl⟩
 refine EE (GD hT ?_)
 have e1:Builtin.List.listSameRef (.ref s.heap.objs.size) (.ref (n+4:Nat))=false:=by rw[sz];simp[Builtin.List.listSameRef]
 have e2:(Value.type "zip" == Value.type "list")=false:=by decide
 have e3:(Value.type "zip" == Value.type "tuple")=false:=by decide
 simp only[e1,e2,e3,Bool.or_false,E8,Gs]
 refine EE (wpAny_pyIter_zip (s:={ s with heap:=s.heap.push { cls:=.type "list",data:=.seq ([]:Vv).toArray } }) (p gz) ?_)
 refine EE (FI ?_)
 unfold Builtin.List.listLengthHint
 refine EE (HA hT kM ?_)
 show wpAny _ A.in1 (specialOf (Value.ref (n+4:Nat)) (Str.ofString "__length_hint__") >>= _) _ _ _
 refine EE (HA hT jT ?_)
 refine EI ?_
 show wpAny _ A.in1 (rule "list.extend.makes-room" >>= fun _=>Builtin.List.listTouch (.ref s.heap.objs.size) >>= fun _=>
  again (.builtin "list.extend.loop" ⟨[.ref s.heap.objs.size,.ref (n+4:Nat),.ref s.heap.objs.size],[]⟩)) _ _ _
 refine EE (GQ ?_)
 have C8:(s.heap.push { cls:=.type "list",data:=.seq ([]:Vv).toArray }).get? s.heap.objs.size=some { cls:=.type "list",data:=.seq ([]:Vv).toArray }:=EL _ rfl
 refine EE ?_
 show wpAny _ A.in1 (updateSeq s.heap.objs.size (·.push .none) >>= fun _=>updateSeq s.heap.objs.size (·.pop)) _ _ _
 refine EE (G5 C8 rfl ?_)
 have Bz:=FH (Obj.mapSeq (·.push Value.none)) C8 rfl
 refine G5 Bz rfl ?_
 have Ch:=FH (Obj.mapSeq (·.pop)) Bz rfl
 have yx:∀b o,b≠s.heap.objs.size->(s.heap.push { cls:=.type "list",data:=.seq ([]:Vv).toArray }).get? b=some o->
   (((s.heap.push { cls:=.type "list",data:=.seq ([]:Vv).toArray }).update s.heap.objs.size (Obj.mapSeq (·.push Value.none))).update s.heap.objs.size (Obj.mapSeq (·.pop))).get? b=some o:=
  fun b o hb e=>(FA _ _ (F3 hb)).trans ((FA _ _ (F3 hb)).trans e)
 have q:∀{b:Nat} {o:Obj},s.heap.get? b=some o->(((s.heap.push { cls:=.type "list",data:=.seq ([]:Vv).toArray }).update s.heap.objs.size (Obj.mapSeq (·.push Value.none))).update s.heap.objs.size (Obj.mapSeq (·.pop))).get? b=some o:=
  fun{b o} e=>yx b o (ES (EK e)) (p e)
 have C9:(((s.heap.push { cls:=.type "list",data:=.seq ([]:Vv).toArray }).update s.heap.objs.size (Obj.mapSeq (·.push Value.none))).update s.heap.objs.size (Obj.mapSeq (·.pop))).objs.size=n+6:=by
  rw[Hv,Hv,FT,sz]
 show wpAny _ A.in1 (again (.builtin "list.extend.loop" ⟨[.ref s.heap.objs.size,.ref (n+4:Nat),.ref s.heap.objs.size],[]⟩)) _ _ { s with heap:=(((s.heap.push { cls:=.type "list",data:=.seq ([]:Vv).toArray }).update s.heap.objs.size (Obj.mapSeq (·.push Value.none))).update s.heap.objs.size (Obj.mapSeq (·.pop))) }
 generalize (((s.heap.push { cls:=.type "list",data:=.seq ([]:Vv).toArray }).update s.heap.objs.size (Obj.mapSeq (·.push Value.none))).update s.heap.objs.size (Obj.mapSeq (·.pop)))=h2 at Ch q C9
 rw[sz]at Ch ⊢
 refine EI ⟨Gy FG _,sO (A:=A) hh d1 d2 hxy hz _ _ _ C9 (q gz) (q gI) (q gO) (g1.at fun o e=>q e) (g2.at fun o e=>q e) (t1.at fun o e=>q e) (t2.at fun o e=>q e) Ch fun g st kk=>?_⟩
 obtain⟨c,hS⟩:=st.S
 show wpAny _ A (load (n+5:Nat) >>= _) _ _ _
 refine EE (wpAny_load hS ?_)
 exact EI (by simpa using hQ g st fun b o hb e=>kk b o hb (q e))
def kN{Q:Vq}(hh:A.handled=none)(d1:l1 < n)(d2:l2 < n)(hxy:xs.size<=ys.size)(hz:xs.size<=sizeLine)(sz:s.heap.objs.size=n+5)
  (gz:IsZip s.heap (n+4:Nat) (n+2:Nat) (n+3:Nat) .none) (gI:IsPair s.heap (n+2:Nat) (.ref n) (.ref (n+1:Nat))) (gO:IsPair s.heap (n+3:Nat) .none .none) (g1:Si ka s.heap n l1 0) (g2:Si kb s.heap (n+1:Nat) l2 0) (t1:Sq ka s.heap l1 xs) (t2:Sq kb s.heap l2 ys)
  (hQ:∀g,u_ g n xs ys->(∀b o,b < n->s.heap.get? b=some o->g.get? b=some o)->Q (.ref g.objs.size) { s with heap:=g.push { cls:=.type "tuple",data:=.seq (cN n xs.size).toArray } }):wpAny (model prog w) A (call (.type "tuple") [.ref (n+4:Nat)]) Q E s:=by
 have hT:s.TypeIs (.ref (n+4:Nat)) "zip":=⟨_,gz,rfl⟩
 refine callType_codes (Q₁:=fun obj s₁=>s₁.TypeIs obj "tuple"/\Q obj s₁) F.called_tuple (F.typeCall_tuple_1 _) F.entry_object_init ?_ fun obj s₁ h₁=>
  ⟨h₁.1,F.args_object_init_2 obj _,object_init_meets F.called_tuple.init.lookup F.called_tuple.made (by decide) prog w A.in1 _ s₁ ⟨h₁.1,rfl,h₁.2⟩⟩
 refine codeAny_of_tree ?_
 show wpAny _ A.in1.in1 (do checkBuiltinCall "tuple.__new__" ⟨[.type "tuple",.ref (n+4:Nat)],[]⟩;again (.builtin "tuple.__new__" ⟨[.type "tuple",.ref (n+4:Nat)],[]⟩)) _ _ s
 refine EE (wpAny_of_eq (F.newCall_tuple_1 _) (EI ⟨Gy F.plain_tuple_new _,FY F.entry_tuple_new ?_⟩))
 rw[Fj F.plain_tuple_new _]
 have hsub:=sub_tuple_self
 have C_:=init_tuple_lookup
 have hmh:=madeHere_tuple
 wp_walk using GD hT,jU (A:=A.in1.in1) hh d1 d2 hxy hz sz gz gI gO g1 g2 t1 t2
 intro g st kk
 show wpAny _ _ (Builtin.Tuple.tupleExact (cN n xs.size).toArray >>= fun v=>ret v) _ _ _
 unfold Builtin.Tuple.tupleExact
 refine EE (Ft ?_ (by show(cN n xs.size).toArray.size<=sizeLine;unfold cN;simpa using hz))
 exact EI ⟨⟨_,EL _ rfl,rfl⟩,hQ g st kk⟩
end
end Zz
namespace L2
open PySem PySem.Spec PyProof.Rows
section
variable {X:Cx}
def Inv.AK{pins:Va}{σ:St}{H:Hp}{s:Shared}{kd:Bool}{a:Addr}{xs:List V}(I:Inv X pins σ H s)(h:vC kd X.K H a xs):∃its:List Value,Vals xs its/\Zt.Sq kd s.heap a its.toArray/\xs.length<=sizeLine:=by
 obtain⟨its,r,e⟩:=I.B3 h
 refine⟨its,r,e,?_⟩
 cases kd with
 |true=>obtain⟨_,_,_,z⟩:=I.list h;exact z
 |false=>obtain⟨_,_,_,z⟩:=I.tuple h;exact z
def sP(K:Vo)(ta:TA):TE:=fun σ H Q=>ta σ H fun vs H1=>∃ka a b xs ys,vs=[.ref a,.ref b]/\vC ka K H1 a xs/\vC true K H1 b ys/\xs.length<=ys.length/\∀r H',(∀c o,H1 c=some o->H' c=some o)->yL K H' r xs ys->Q (.ref r) H'
def oa{a b:Expr}{ta:TA}{p1 p2 q1 q2:Pos}(hc:X.calm=true)(ha:PA X [a,b] ta)(AZ:Gl X "tuple")(hm1:X.mg "tuple" = none)(Ay:Gl X "zip")(hm2:X.mg "zip" = none)
  (hs:starEach [a,b] X.env=[(false,eval a X.env),(false,eval b X.env)]) (BG:starEach [b] X.env=[(false,eval b X.env)]) (hs2:starEach [.Call (.Name "zip" p2) [a,b] [] q2] X.env=[(false,eval (.Call (.Name "zip" p2) [a,b] [] q2) X.env)]:=by rfl) :
  PE X (.Call (.Name "tuple" p1) [.Call (.Name "zip" p2) [a,b] [] q2] [] q1) (sP X.K ta):=by
 intro pins s σ H Q I h
 refine FN (eC I AZ hm1 (u:=.type "tuple") (by decide +kernel) ?_)
 refine Fv ?_ hs2 rfl
 rw[hs2]
 show wpAny _ _ (spliced ((false,eval (.Call (.Name "zip" p2) [a,b] [] q2) X.env)::backTo q1 [])) _ _ s
 refine FL ?_
 refine FN (eC I Ay hm2 (u:=.type "zip") (by decide +kernel) ?_)
 refine Fv (xI (ha q2 pins s σ H _ I h) fun us s1 ⟨vs,H1,I1,r1,q1⟩=>?_) (by rw[hs,BG]) (by rw[BG];rfl)
 obtain⟨ka,a,b,xs,ys,e,qa,qb,hl,q⟩:=q1
 subst e
 obtain⟨u,v,rfl,ru,rv⟩:=qy r1
 cases ru
 cases rv
 obtain⟨ia,ra,pa,za⟩:=I1.AK qa
 obtain⟨ib,rb,pb,zb⟩:=I1.AK qb
 have Dc:=ra.length
 have lrb:=rb.length
 have la:a < s1.heap.objs.size:=pa.lt
 have lb:b < s1.heap.objs.size:=pb.lt
 refine Zz.mf pa pb fun g gz gI gO g1 g2 Ee kk=>?_
 refine Gr ?_
 refine Zz.kN (s:={ s1 with heap:=g }) (n:=s1.heap.objs.size) (I.ok.hd hc) la lb (by rw[EH,EH];omega) (by rw[EH,<-Dc];exact za) Ee gz gI gO g1 g2 (pa.at fun o e=>kk _ _ e) (pb.at fun o e=>kk _ _ e) fun g' st Bo=>?_
 have key:∀c o,s1.heap.get? c=some o->(g'.push { cls:=.type "tuple",data:=.seq (Zz.cN s1.heap.objs.size ia.toArray.size).toArray }).get? c=some o:=fun c o e=>EF _ (Bo c o (EK e) (kk c o e))
 have I2:Inv X pins σ H1 { s1 with heap:=g'.push { cls:=.type "tuple",data:=.seq (Zz.cN s1.heap.objs.size ia.toArray.size).toArray } }:=I1.kept (t':=s1.toks) key
 obtain⟨H',I3,e3,p3,f3⟩:=fU (ys:=ys.take xs.length) (iy:=ib.take xs.length) I1 rfl I2 ra (rb.take _) (by rw[Fz];omega) (fun j u v hu hv=>EF _ (st.its j u v (by simpa using hu) (by
  have hj:j < xs.length:=by rw[Dc];exact(FE.mp hu).1
  rw[Gx hj]at hv
  simpa using hv))) xs.length (EJ _)
 have sz:=st.sz
 have Bn:ia.toArray.size=xs.length:=by rw[EH];omega
 rw[Bn]at sz
 have hD:H' g'.objs.size=none:=f3 _ sz
 have fp:d0 X pins H' g'.objs.size:=I1.zC (EW (by omega) sz) hD
 have ps:∀m:Nat,Vals (((List.range m).map fun j=>(s1.heap.objs.size+6+j:Nat)).map V.ref) (Zz.cN s1.heap.objs.size m):=fun m=>by
  unfold Zz.cN
  rw[FD]
  induction (List.range m)with
  |nil=>exact .nil
  |cons x r ih=>exact .cons rfl ih
 have eT:xX (g'.push { cls:=.type "tuple",data:=.seq (Zz.cN s1.heap.objs.size ia.toArray.size).toArray }) g'.objs.size (Zz.cN s1.heap.objs.size xs.length).toArray:=⟨_,EL _ rfl,rfl,rfl,_,by rw[Bn]⟩
 have I4:=I3.Ag fp eT (ps xs.length) (by rw[EG,EG,HM];exact za)
 refine⟨.ref g'.objs.size,_,I4,rfl,q _ _ (fun c o z=>by rw[ak (au (e3 c o z) hD)];exact e3 c o z) ⟨_,SqT.of am,by rw[EG,HM],fun j p x y hp hx hy=>?_⟩⟩
 have hj:j < xs.length:=(FE.mp hx).1
 rw[E1,GX hj]at hp
 cases hp
 have z:=p3 j x y hj hx (by rw[Gx hj];exact hy)
 show upd H' g'.objs.size _ (s1.heap.objs.size+6+j:Nat)=_
 rw[ak (au z hD)]
 exact z
end
end L2
namespace L3
open PySem L2
section
variable {X:Cx} {a b:Expr} {ta tb:aM}
def kO(ta tb:aM):aM:=fun σ S Q E=>ta σ S (fun v S1=>tb σ S1 (fun w S2=>match v,w with
 | .ref a,.ref b=>(match S2 a,S2 b with|some (.lst xs),some (.lst ys)=>xs.length<=ys.length/\Q (.tup (cJ xs ys)) S2|_,_=>False)
 | .tup xs,.ref b=>(match S2 b with|some (.lst ys)=>xs.length<=ys.length/\Q (.tup (cJ xs ys)) S2|_=>False)
 |_,_=>False) E) E
def iL{K:Vo}{H H':Hp}{vs us:List V}{xs ys:List PV}{ps:List Addr}(rs:Reps K H vs xs)(rt:Reps K H us ys)(hl:xs.length<=ys.length)(hpl:ps.length=vs.length)(hh:∀c o,H c=some o->H' c=some o)(hp:∀(j:Nat) p x y,ps[j]?=some p->vs[j]?=some x->us[j]?=some y->H' p=some (.tup [x,y])):Reps K H' (ps.map V.ref) (cJ xs ys):=by
 have l1:=rs.length
 have l2:=rt.length
 refine ly ?_ fun j v p hv' hp'=>?_
 ·rw[EG];unfold cJ;rw[EG,List.length_zip];omega
 ·unfold cJ at hp'
  rw[E1]at hp' hv'
  cases hz:(xs.zip ys)[j]? with
  |none=>rw[hz]at hp';cases hp'
  |some z=>
   rw[hz]at hp'
   cases hp'
   obtain⟨e1,e2⟩:=List.getElem?_zip_eq_some.mp hz
   obtain⟨x,hx,rx⟩:=rs.get e1
   obtain⟨y,hy,ry⟩:=rt.get e2
   cases hq:ps[j]? with
   |none=>rw[hq]at hv';cases hv'
   |some q=>
    rw[hq]at hv'
    cases hv'
    exact .tup (SqT.of (hp j q x y hq hx hy)) (.cons (rx.mono (.same hh)) (.cons (ry.mono (.same hh)) .nil))
def qi{p1 p2 q1 q2:Pos}(hs:starEach [a,b] X.env=[(false,eval a X.env),(false,eval b X.env)])(BG:starEach [b] X.env=[(false,eval b X.env)])(hc:X.calm=true)(AZ:Gl X "tuple")(hm1:X.mg "tuple" = none)(Ay:Gl X "zip")(hm2:X.mg "zip" = none)(ha:iC X [a,b] [ta,tb]) :
  aX X (.Call (.Name "tuple" p1) [.Call (.Name "zip" p2) [a,b] [] q2] [] q1) (kO ta tb):=
 ⟨aI (oa hc ha.ok AZ hm1 Ay hm2 hs BG) fun σ H Q ⟨σ3,S,Q3,E3,rσ,rS,h,xo,k⟩=>⟨σ3,S,_,E3,rσ,rS,h,xo,fun v S1 v' H1 h1 rv xS g1=>⟨σ3,S1,_,E3,rσ.mono g1,xS,h1,xo.mono g1,fun w S2 w' H2 h2 rw' yN g2=>by
  split at h2
  ·cases rv
   cases rw'
   split at h2
   ·rename_i ea eb
    obtain⟨vs,hv,rs⟩:=yN _ _ ea
    obtain⟨us,hu,rt⟩:=yN _ _ eb
    have l1:=rs.length
    have l2:=rt.length
    exact⟨true,_,_,vs,us,rfl,SqL.of hv,SqL.of hu,by omega,fun r H' hh ⟨ps,hr,hpl,hp⟩=>k _ S2 _ H' h2.2 (.tup hr (iL rs rt h2.1 hpl hh hp)) (yN.grow hh) ((g1.trans g2).trans (.same hh))⟩
   ·exact h2.elim
  ·cases rw'
   split at h2
   ·rename_i eb
    obtain⟨us,hu,rt⟩:=yN _ _ eb
    have Cb:=rv.mono g2
    cases Cb with
    |tup hq rs=>
     have l1:=rs.length
     have l2:=rt.length
     exact⟨false,_,_,_,us,rfl,hq,SqL.of hu,by omega,fun r H' hh ⟨ps,hr,hpl,hp⟩=>k _ S2 _ H' h2.2 (.tup hr (iL rs rt h2.1 hpl hh hp)) (yN.grow hh) ((g1.trans g2).trans (.same hh))⟩
   ·exact h2.elim
  ·exact h2.elim⟩⟩⟩
end
theorem jV:∀{a b:List Char},a.map Char.toNat=b.map Char.toNat->a=b
 |[],[],_=>rfl
 |[],_::_,h=>by simp at h
 |_::_,[],h=>by simp at h
 |x::a,y::b,h=>by
  simp only[EO,List.cons.injEq]at h
  rw[jV h.2,Char.toNat_inj.mp h.1]
def aV{a b:String}:(Str.ofString a=Str.ofString b)↔a=b:=by
 refine⟨fun h=>?_,fun h=>by rw[h]⟩
 rw[Str.ofString_eq_toList,Str.ofString_eq_toList]at h
 have h':a.toList.map Char.toNat=b.toList.map Char.toNat:=by
  have:=Fl (fun s:Str=>s.cps.toList) h
  simpa using this
 exact String.toList_inj.mp (jV h')
def sS{a b:String}:((Sum.inr (Str.ofString a):aK)=Sum.inr (Str.ofString b))↔a=b:=by
 rw[Sum.inr.injEq,aV]
def sQ{i j:Int}(h1:-(2 ^ 64) < i)(h2:i < 2 ^ 64):IntMulOk i j:=(show Au i j from .inl ⟨h1,h2⟩).ok
def qj{i j:Int}(h1:-(2 ^ 64) < j)(h2:j < 2 ^ 64):IntMulOk i j:=(show Au i j from .inr ⟨h1,h2⟩).ok
def e8{i j:Int}(h:0<=j):i.fmod j=i % j:=Int.fmod_eq_emod_of_nonneg i h
def va{i j:Int}(h:0<=j):i.fdiv j=i / j:=Int.fdiv_eq_ediv_of_nonneg i h
def vb{i j:Int}(h:0 < j)(h2:j < 2 ^ 64):jL i j:=⟨by omega,Gv (show j.natAbs < 2 ^ 64 by omega) (Hy (by decide) (by decide))⟩
def xZ(d l:Addr)(S S':aq):Prop:=∀a o,S a=some o->a≠d->a≠l->S' a=some o
def xZ.refl{d l:Addr}{S:aq}:xZ d l S S:=fun _ _ h _ _=>h
def xZ.trans{d l:Addr}{S S1 S2:aq}(a:xZ d l S S1)(b:xZ d l S1 S2):xZ d l S S2:=fun x o h h1 h2=>b x o (a x o h h1 h2) h1 h2
def xZ.upd{d l:Addr}{S:aq}{o:SO}:xZ d l S (xF S d o):=fun x u h h1 h2=>by rw[ao h1];exact h
def xZ.Ef{d l:Addr}{S:aq}{o:SO}:xZ d l S (xF S l o):=fun x u h h1 h2=>by rw[ao h2];exact h
def xZ.new{d l p:Addr}{S:aq}{o:SO}(h:S p=none):xZ d l S (xF S p o):=fun x u hx h1 h2=>by rw[ao (fun e=>by rw[e,h]at hx;cases hx)];exact hx
end L3
local macro_rules | `(tactic| walk_at "x")=>`(tactic| ((try dsimp only [L3.ah,L3.aw,L3.aN,L3.cZ,L3.cw,L3.bd,L3.aj,L3.v3,L3.c3,L3.lk,L3.ap,L3.ag,L3.ad,L3.iD,L3.aZ,L3.hU,L3.hV,L3.nC,L3.jc,L3.h_,L3.gH,L3.az,L3.eV,L3.lp,L3.eX,L3.al,L3.fB,L3.a9,L3.jN,L3.jb,L3.hZ,L3.cA,L3.eg,L3.bG,L3.d9,L3.fT,L3.nU,L3.nV,L3.jv,L3.u4,L3.bR,L3.aJ,L3.f_,L3.bj,L3.gE,L3.aG,L3.eI,L3.eY,List.set_cons_zero,List.set_cons_succ,List.set_nil,L3.sy,L3.fE,L3.l7,L3.aO,L3.aS,L3.bJ,L3.fG,L3.d8,L3.Tg.put,L3.Tg.yE,L3.jR,L3.fI,L3.gN,L3.gK,L3.cI,List.reduceReplicate,List.map_cons,List.map_nil,List.cons_append,List.nil_append]); (try simp only [L3.ah,L3.aw,L3.aN,L3.cZ,L3.cw,L3.bd,L3.aj,L3.v3,L3.c3,L3.lk,L3.ap,L3.ag,L3.ad,L3.iD,L3.aZ,L3.hU,L3.hV,L3.nC,L3.jc,L3.h_,L3.gH,L3.az,L3.eV,L3.lp,L3.eX,L3.al,L3.fB,L3.a9,L3.jN,L3.jb,L3.hZ,L3.cA,L3.eg,L3.bG,L3.d9,L3.fT,L3.nU,L3.nV,L3.jv,L3.u4,L3.bR,L3.aJ,L3.f_,L3.bj,L3.gE,L3.aG,L3.eI,L3.eY,List.set_cons_zero,List.set_cons_succ,List.set_nil,L3.sy,L3.fE,L3.l7,L3.aO,L3.aS,L3.bJ,L3.fG,L3.d8,L3.Tg.put,L3.Tg.yE,L3.jR,L3.fI,L3.gN,L3.gK,L3.cI,List.reduceReplicate,EO,Fw,List.cons_append,List.nil_append])))
namespace C
open PySem L2 L3
noncomputable def bi(seed number:Int)(l:Addr):List (aK×PV):=[(Sum.inr "seed",.int seed),(Sum.inr "number",.int number),(Sum.inr "left",.ref l)]
structure y3 (S:aq) (d l:Addr) (seed number:Int) (left:Vu):Prop where
 d:S d=some (.dct (bi seed number l))
 l:S l=some (.lst (left.map PV.int))
 s0:0<=seed
 s1:seed < 2147483647
 nm:0<=number
 lf:∀x∈left,0<=x
 ln:left.length<=100
def xJ(S:aq)(d l:Addr):Prop:=∃seed number left,y3 S d l seed number left
def y3.ne{S:aq}{d l:Addr}{seed number:Int}{left:Vu}(D:y3 S d l seed number left):d≠l:=fun e=>by
 have h:=D.d
 rw[e,D.l]at h
 cases h
def xJ.new{S:aq}{d l p:Addr}{o:SO}(D:xJ S d l)(h:S p=none):xJ (xF S p o) d l:=by
 obtain⟨s,n,f,D⟩:=D
 refine⟨s,n,f,?_,?_,D.s0,D.s1,D.nm,D.lf,D.ln⟩
 ·rw[ao (fun e=>by have:=D.d;rw[e,h]at this;cases this)];exact D.d
 ·rw[ao (fun e=>by have:=D.l;rw[e,h]at this;cases this)];exact D.l
def xJ.upd{S:aq}{d l p:Addr}{o:SO}(D:xJ S d l)(h1:p≠d)(h2:p≠l):xJ (xF S p o) d l:=by
 obtain⟨s,n,f,D⟩:=D
 exact⟨s,n,f,by rw[ao h1.symm];exact D.d,by rw[ao h2.symm];exact D.l,D.s0,D.s1,D.nm,D.lf,D.ln⟩
def xJ.free{S:aq}{d l p:Addr}(D:xJ S d l)(h:S p=none):p≠d/\p≠l:=by
 obtain⟨s,n,f,D⟩:=D
 exact⟨(fun e=>by have:=D.d;rw[<-e,h]at this;cases this),(fun e=>by have:=D.l;rw[<-e,h]at this;cases this)⟩
def gS(s n m:Int)(l:Addr):gJ (bi s n l) (Sum.inr "number") (.int m)=bi s m l:=by
 simp[gJ,bi,sS,aV]
def og(s n m:Int)(l:Addr):gJ (bi s n l) (Sum.inr "seed") (.int m)=bi m n l:=by
 simp[gJ,bi,sS,aV]
def sR(s n:Int)(l:Addr):dr (bi s n l) (Sum.inr "seed")=some (.int s):=by simp[dr,bi,sS,aV]
def oh(s n:Int)(l:Addr):dr (bi s n l) (Sum.inr "number")=some (.int n):=by simp[dr,bi,sS,aV]
def sT(s n:Int)(l:Addr):dr (bi s n l) (Sum.inr "left")=some (.ref l):=by simp[dr,bi,sS,aV]
abbrev bf(w:aQ):Prop:=∀{S:aq} {d l:Addr} {m:Int} {Q:bY} {E:de},xJ S d l->0 < m->m < 2 ^ 62->(∀r S',0<=r->r < m->xJ S' d l->xZ d l S S'->Q (.int r) S')->w [.ref d,.int m] S Q E
def xG:bf (bI 5 dG):=by
  intro S d l m Q E D h0 h1 k
  obtain⟨seed,number,left,D⟩:=D
  have hne:=D.ne
  have hsz:∀a b,(bi a b l).length < sizeLine:=fun _ _=>cy (by show 3<=1000;decide)
  have fin:∀num zV S1,y3 S1 d l seed num zV->xZ d l S S1->¬(num=0/\0 < zV.length)->
      (if 0 < num then jL num m/\(bi seed num l).length < sizeLine/\m≠0/\Q (PV.int (num.fmod m)) (xF S1 d (SO.dct (bi seed (num.fdiv m) l)))
       else IntMulOk seed 48271/\(2147483647:Int)≠0/\IntMulOk ((seed * 48271+7919).fmod 2147483647) 40692/\(2147483399:Int)≠0/\(bi seed num l).length < sizeLine/\
        IntMulOk (((seed * 48271+7919).fmod 2147483647 * 40692+104729).fmod 2147483399) (((seed * 48271+7919).fmod 2147483647 * 40692+104729).fmod 2147483399)/\(2147483563:Int)≠0/\
        IntMulOk ((seed * 48271+7919).fmod 2147483647) ((seed * 48271+7919).fmod 2147483647)/\(2147483629:Int)≠0/\
        IntMulOk (((seed * 48271+7919).fmod 2147483647 * (seed * 48271+7919).fmod 2147483647).fmod 2147483629) 2147483563/\m≠0/\
        Q (PV.int ((((seed * 48271+7919).fmod 2147483647 * (seed * 48271+7919).fmod 2147483647).fmod 2147483629 * 2147483563+((((seed * 48271+7919).fmod 2147483647 * 40692+104729).fmod 2147483399) * (((seed * 48271+7919).fmod 2147483647 * 40692+104729).fmod 2147483399)).fmod 2147483563).fmod m))
          (xF S1 d (SO.dct (bi (((seed * 48271+7919).fmod 2147483647 * 40692+104729).fmod 2147483399) num l)))):=by
    intro num zV S1 D1 O1 hz
    split
    . rename_i hp
      rw[e8 (HF h0),va (HF h0)]
      refine⟨vb h0 (by omega),hsz _ _,by omega,k _ _ (Int.emod_nonneg _ (by omega)) (HK _ h0) ⟨seed,num / m,zV,aa,by rw[ao hne.symm];exact D1.l,D1.s0,D1.s1,Int.ediv_nonneg D1.nm (HF h0),D1.lf,D1.ln⟩ (O1.trans .upd)⟩
    . have e1:∀x:Int,x.fmod 2147483647=x % 2147483647:=fun x=>e8 (by decide)
      have e2:∀x:Int,x.fmod 2147483399=x % 2147483399:=fun x=>e8 (by decide)
      simp only[e1,e2,e8 (HF h0)]
      have p1:=D1.s0
      have p2:=D1.s1
      refine⟨qj (by decide) (by decide),by decide,qj (by decide) (by decide),by decide,hsz _ _,sQ (by omega) (by omega),by decide,sQ (by omega) (by omega),by decide,qj (by decide) (by decide),by omega,
        k _ _ (Int.emod_nonneg _ (by omega)) (HK _ h0) ⟨_,num,zV,aa,by rw[ao hne.symm];exact D1.l,by omega,by omega,D1.nm,D1.lf,D1.ln⟩ (O1.trans .upd)⟩
  unfold bI dG
  rw[show aF 5 [PV.ref d,PV.int m]=[some (.ref d),some (.int m),none,none,none] from rfl]
  simp only[ah]
  refine⟨fun n σ S'=>σ=[some (.ref d),some (.int m),none,none,none]/\∃number left,y3 S' d l seed number left/\left.length=n/\xZ d l S S',⟨_,rfl,number,left,D,rfl,.refl⟩,?_⟩
  rintro n σ S1 ⟨rfl,num,zV,D1,hn,O1⟩
  walk_at "x"
  simp only[D1.d,D1.l,oh,sT,sR,og,gS,aa,E6,E2]
  have hlen:(List.map PV.int zV).length=zV.length:=EG ..
  rw[hlen]
  split
  . rename_i hz
    subst hz
    split
    . rename_i hl
      refine⟨fun σ S'=>σ=[some (.ref d),some (.int m),none,none,none]/\∃number left,y3 S' d l seed number left/\left.length < n/\xZ d l S S',?_,?_⟩
      . rintro σ' S' ⟨rfl,a,b,h2,h3,h4⟩
        exact⟨_,h3,rfl,a,b,h2,rfl,h4⟩
      . have hl':0 < zV.length:=by omega
        obtain⟨pre,x,rfl⟩:∃pre x,zV=pre++[x]:=by
          refine⟨zV.dropLast,zV.getLast (by intro e;rw[e]at hl';simp at hl'),(List.dropLast_concat_getLast _).symm⟩
        refine⟨trivial,?_⟩
        rw[show(List.map PV.int (pre++[x]))[(pre++[x]).length - 1]?=some (.int x) by simp,show(List.map PV.int (pre++[x])).dropLast=pre.map PV.int by simp]
        simp only[ao hne,D1.d,gS]
        refine⟨hsz _ _,trivial,x,pre,⟨aa,by rw[ao hne.symm,aa],D1.s0,D1.s1,D1.lf x (by simp),fun y hy=>D1.lf y (by simp[hy]),by have:=D1.ln;simp at this;omega⟩,?_,O1.trans (xZ.Ef.trans .upd)⟩
        rw[<-hn];simp
    . rename_i hl
      exact fin 0 zV S1 D1 O1 (fun z=>hl (by omega))
  . rename_i hz
    rw[if_neg (by decide)]
    exact fin num zV S1 D1 O1 (fun z=>hz z.1)
end C
namespace L3
open PySem L2
def Ext(S S':aq):Prop:=∀a o,S a=some o->S' a=some o
def Ext.refl{S:aq}:Ext S S:=fun _ _ h=>h
def Ext.trans{S S1 S2:aq}(a:Ext S S1)(b:Ext S1 S2):Ext S S2:=fun x o h=>b x o (a x o h)
def Ext.new{S:aq}{p:Addr}{o:SO}(h:S p=none):Ext S (xF S p o):=fun x u hx=>by rw[ao (fun e=>by rw[e,h]at hx;cases hx)];exact hx
def Ext.free{S S':aq}(e:Ext S S'){p:Addr}(h:S' p=none):S p=none:=by
 cases q:S p with
 |none=>rfl
 |some o=>rw[e p o q]at h;cases h
theorem cO{g:Tg}{tc:fP}{te:aM}{σ':bv}{keep:aq->Prop}{fin:List PV->aq->Prop}{S:aq}(f:PV->PV)(c:PV->Bool)(hk:keep S):∀(items ys:List PV),
  (∀x∈items,∃σ2,g.put x σ'=some σ2/\(∀Q:Bool->aq->Prop,Q (c x) S->tc σ2 S Q e7)/\(c x=true->∀Q:bY,Q (f x) S->te σ2 S Q e7))->ys.length+items.length<=sizeLine->fin (ys++(items.filter c).map f) S->cC g tc te σ' keep fin items ys S
 |[],ys,_,hl,hf=>⟨hk,by simpa using hl,by simpa using hf⟩
 |x::r,ys,h,hl,hf=>by
  obtain⟨σ2,e,h1,h2⟩:=h x (by simp)
  refine⟨hk,by simp at hl;omega,?_⟩
  rw[e]
  refine h1 _ ?_
  cases hc:c x with
  |true=>
   rw[if_pos rfl]
   refine h2 hc _ (cO f c hk r (ys++[f x]) (fun y hy=>h y (by simp[hy])) (by simp at hl ⊢;omega) ?_)
   rw[Hw,hc,if_pos rfl]at hf
   simpa using hf
  |false=>
   rw[if_neg (by decide)]
   refine cO f c hk r ys (fun y hy=>h y (by simp[hy])) (by simp at hl ⊢;omega) ?_
   rw[Hw,hc,if_neg (by decide)]at hf
   exact hf
def mj{g:Tg}{te:aM}{σ':bv}{keep:aq->Prop}{fin:List PV->aq->Prop}{S:aq}(f:PV->PV){items:List PV}(hk:keep S)
  (h:∀x∈items,∃σ2,g.put x σ'=some σ2/\∀Q:bY,Q (f x) S->te σ2 S Q e7) (hl:items.length<=sizeLine) (hf:fin (items.map f) S):cC g cK te σ' keep fin items [] S:=by
 refine cO f (fun _=>true) hk items [] (fun x hx=>?_) (by simpa using hl) (by rw[List.filter_eq_self.mpr (fun _ _=>rfl)];exact hf)
 obtain⟨σ2,e,k⟩:=h x hx
 exact⟨σ2,e,fun Q q=>q,fun _=>k⟩
theorem iM{g:Tg}{tc:fP}{te:aM}{σ':bv}{keep:aq->Prop}{fin:List PV->aq->Prop}{items:List PV}(Iv:List PV->List PV->aq->Prop)(hk:∀done ys S,Iv done ys S->keep S/\ys.length<=sizeLine)
  (step:∀done x rest ys S (K:List PV->aq->Prop),items=done++x::rest->Iv done ys S->(∀ys' S',Iv (done++[x]) ys' S'->K ys' S')->match g.put x σ' with
   |some σ2=>tc σ2 S (fun b S3=>if b=true then te σ2 S3 (fun y S4=>K (ys++[y]) S4) e7 else K ys S3) e7
   |none=>False)
  (hf:∀ys S,Iv items ys S->fin ys S):∀(rest done ys:List PV) (S:aq),items=done++rest->Iv done ys S->cC g tc te σ' keep fin rest ys S
 |[],done,ys,S,e,h=>by
  rw[Gn]at e
  exact⟨(hk _ _ _ h).1,(hk _ _ _ h).2,hf ys S (e▸h)⟩
 |x::rest,done,ys,S,e,h=>by
  refine⟨(hk _ _ _ h).1,(hk _ _ _ h).2,?_⟩
  exact step done x rest ys S (fun ys' S'=>cC g tc te σ' keep fin rest ys' S') e h fun ys' S' h'=>iM Iv hk step hf rest (done++[x]) ys' S' (by rw[e];simp) h'
theorem jW{g:Tg}{tb:bt}{D:dm}{keep:aq->Prop}{items:List PV}(Iv:List PV->bv->aq->Prop)(hk:∀done σ S,Iv done σ S->keep S)
  (step:∀done x rest σ S (K:bv->aq->Prop),items=done++x::rest->Iv done σ S->(∀σ' S',Iv (done++[x]) σ' S'->K σ' S')->match g.put x σ with
   |some σ'=>tb { D with nx:=K,ct:=K,bk:=D.nx } σ' S
   |none=>False)
  (hd:∀σ S,Iv items σ S->D.nx σ S):∀(rest done:List PV) (σ:bv) (S:aq),items=done++rest->Iv done σ S->fF g tb D keep rest σ S
 |[],done,σ,S,e,h=>by
  rw[Gn]at e
  exact⟨hk _ _ _ h,hd σ S (e▸h)⟩
 |x::rest,done,σ,S,e,h=>
  ⟨hk _ _ _ h,step done x rest σ S (fF g tb D keep rest) e h fun σ' S' h'=>jW Iv hk step hd rest (done++[x]) σ' S' (by rw[e];simp) h'⟩
def jh{g:Tg}{tb:bt}{D:dm}{keep:aq->Prop}{items:List PV}{σ:bv}{S:aq}(Iv:List PV->bv->aq->Prop)(h0:Iv [] σ S)(hk:∀done σ S,Iv done σ S->keep S)
  (step:∀done x rest σ S (K:bv->aq->Prop),items=done++x::rest->Iv done σ S->(∀σ' S',Iv (done++[x]) σ' S'->K σ' S')->match g.put x σ with
   |some σ'=>tb { D with nx:=K,ct:=K,bk:=D.nx } σ' S
   |none=>False)
  (hd:∀σ S,Iv items σ S->D.nx σ S):fF g tb D keep items σ S:=jW Iv hk step hd items [] σ S rfl h0
def jX{g:Tg}{tc:fP}{te:aM}{σ':bv}{keep:aq->Prop}{fin:List PV->aq->Prop}{items:List PV}{S:aq}(Iv:List PV->List PV->aq->Prop)(h0:Iv [] [] S)(hk:∀done ys S,Iv done ys S->keep S/\ys.length<=sizeLine)
  (step:∀done x rest ys S (K:List PV->aq->Prop),items=done++x::rest->Iv done ys S->(∀ys' S',Iv (done++[x]) ys' S'->K ys' S')->match g.put x σ' with
   |some σ2=>tc σ2 S (fun b S3=>if b=true then te σ2 S3 (fun y S4=>K (ys++[y]) S4) e7 else K ys S3) e7
   |none=>False)
  (hf:∀ys S,Iv items ys S->fin ys S):cC g tc te σ' keep fin items [] S:=iM Iv hk step hf items [] [] S rfl h0
def aE{t u:bt}{D:dm}{σ:bv}{S:aq}(h:∀N:bv->aq->Prop,(∀σ S,u D σ S->N σ S)->t { D with nx:=N } σ S):ah t u D σ S:=h (u D) fun _ _ q=>q
def jY{n:Nat}{b:bt}{args:List PV}{S:aq}{Q:bY}{E:de}(h:b { nx:=fun _ S'=>Q .non S',rt:=Q,ex:=e7 } (aF n args) S):bI n b args S Q E:=h
def jZ{α β:Type}(f:α->β)(xs:List α)(lo hi:Option Int):dg (xs.map f) lo hi=(dg xs lo hi).map f:=by
 unfold dg
 rw[EG,List.map_take,List.map_drop]
def oi{α:Type}(xs:List α)(lo hi:Option Int):(dg xs lo hi).length<=xs.length:=by
 unfold dg
 rw[Fz,FQ]
 omega
def b9{n:Nat}(h:n<=1000):n<=sizeLine:=GU (cy h)
section
variable {α:Type} {a b c d e:α} {l:List α}
def ic:yt (a::l) 0=some a:=by simp[yt,mx]
def kP:yt (a::b::l) 1=some b:=dS (j:=1) rfl
def vc:yt (a::b::c::l) 2=some c:=dS (j:=2) rfl
def sU:yt [a] (-1)=some a:=rfl
def sV:yt [a,b] (-1)=some b:=rfl
def sW:yt [a,b,c] (-1)=some c:=rfl
def sX:yt [a,b,c,d] (-1)=some d:=rfl
def sY:yt [a,b,c,d,e] (-1)=some e:=rfl
def sZ:yt [a,b] (-2)=some a:=rfl
def s9:yt [a,b,c] (-2)=some b:=rfl
def s_:yt [a,b,c,d] (-2)=some c:=rfl
def tj:yt [a,b,c,d,e] (-2)=some d:=rfl
end
def cD(lo:Int)(n:Nat):(be lo n).length=n:=by simp[be]
end L3
namespace C
open PySem L2 L3
abbrev j0(w:aQ):Prop:=∀{S:aq} {ns:Vu} {b:Int} {Q:bY} {E:de},ns.length<=63->0<=b->b < 1000->(∀d l S',S d=none->S l=none->xJ S' d l->Ext S S'->Q (.ref d) S')->w [.cl (ns.map PV.int),.int b] S Q E
def zr:j0 (bI 5 dF):=by
 intro S ns b Q E hn h0 h1 k
 unfold bI dF
 rw[show aF 5 [PV.cl (ns.map PV.int),PV.int b]=[some (.cl (ns.map PV.int)),some (.int b),none,none,none] from rfl]
 walk_at "x"
 intro p hp
 rw[aa]
 dsimp only
 rw[jZ]
 have hx:(dg ns (some b) (some 63)).length<=63:=EW (oi _ _ _) hn
 generalize dg ns (some b) (some 63)=xs at hx
 refine mj (fun v=>match v with | .int i=>.int (if 0 - i > i then 0 - i else i)|v=>v) aa (fun x hx=>?_) (b9 (by rw[EG];omega)) ?_
 ·obtain⟨i,hi,rfl⟩:=EZ.mp hx
  refine⟨[some (.int i)],rfl,fun Q q=>?_⟩
  walk_at "x"
  exact q
 intro p2 hp2
 rw[aa]
 dsimp only
 rw[FD]
 have e0:(xs.map ((fun v=>match v with | .int i=>.int (if 0 - i > i then 0 - i else i)|v=>v) ∘ PV.int))=(xs.map fun i=>if 0 - i > i then 0 - i else i).map PV.int:=by
  rw[FD];rfl
 rw[e0]
 have hy:((xs.map fun i=>if 0 - i > i then 0 - i else i)).length<=63:=by rw[EG];exact hx
 have BH:∀y∈xs.map (fun i:Int=>if 0 - i > i then 0 - i else i),0<=y:=by
  intro y hy
  obtain⟨i,_,rfl⟩:=EZ.mp hy
  split<;>omega
 generalize (xs.map fun i=>if 0 - i > i then 0 - i else i)=ys at hy BH
 have h2:p2≠p:=fun e=>by rw[e,aa]at hp2;cases hp2
 have hp2':S p2=none:=by rw[<-hp2,ao h2]
 refine jh (fun done σ S'=>S'=xF (xF S p (.lst (xs.map PV.int))) p2 (.lst (ys.map PV.int))/\∃v2 n,0<=n/\n < 2147483647/\σ=[some (.cl (ns.map PV.int)),some (.int b),v2,some (.ref p2),some (.int n)]) ⟨rfl,none,7919+b,by omega,by omega,rfl⟩ (fun done σ S' h=>by rw[h.1];exact aa) ?_ ?_
 ·rintro done x rest σ S' K e ⟨rfl,v2,n,n0,n1,rfl⟩ hK
  obtain⟨i,hi,rfl⟩:∃i,i∈ys/\x = .int i:=by
   have:x∈ys.map PV.int:=by rw[e];simp
   obtain⟨i,hi,rfl⟩:=EZ.mp this
   exact⟨i,hi,rfl⟩
  walk_at "x"
  refine⟨qj (by decide) (by decide),by decide,by decide,hK _ _ ⟨rfl,_,_,?_,?_,rfl⟩⟩
  ·rw[e8 (by decide)];omega
  ·rw[e8 (i:=(n * 48271+_)) (by decide)];omega
 ·rintro σ S' ⟨rfl,v2,n,n0,n1,rfl⟩
  walk_at "x"
  intro d hd
  have hd2:d≠p2:=fun e=>by rw[e,aa]at hd;cases hd
  rw[ao hd2]at hd
  have hd1:d≠p:=fun e=>by rw[e,aa]at hd;cases hd
  rw[ao hd1]at hd
  rw[ao hd2.symm,aa]
  dsimp only
  refine cO (fun v=>v) (fun v=>match v with | .int i=>decide (10 ^ 18<=i)|_=>false) (by rw[ao hd2.symm,aa]) _ [] (fun x hx=>?_) (by rw[EG];exact b9 (by simp;omega)) ?_
  ·obtain⟨i,hi,rfl⟩:=EZ.mp hx
   refine⟨[some (.int i)],rfl,fun Q q=>?_,fun _ Q q=>?_⟩
   ·walk_at "x"
    exact⟨⟨by decide,by decide,by decide⟩,q⟩
   ·walk_at "x"
    exact q
  intro p3 hp3
  rw[aa]
  intro l hl
  have e3:([]++List.map (fun v:PV=>v) (List.filter (fun v=>match v with | .int i=>decide (10 ^ 18<=i)|_=>false) (List.map PV.int ys)))=(ys.filter fun i=>decide (10 ^ 18<=i)).map PV.int:=by
   rw[GI,HG,List.filter_map]
   rfl
  rw[e3]at hl ⊢
  rw[<-HS]
  generalize Dd:xF (xF (xF (xF S p (SO.lst (List.map PV.int xs))) p2 (SO.lst (List.map PV.int ys))) d (SO.dct [])) p3 (SO.lst (List.map PV.int (List.filter (fun i=>decide (10 ^ 18<=i)) ys)))=S3 at hl ⊢
  have De:S3 d=some (.dct []):=by rw[<-Dd,ao (fun e=>by rw[<-e,aa]at hp3;cases hp3),aa]
  have Bm:l≠d:=fun e=>by rw[e,De]at hl;cases hl
  have Ci:Ext S S3:=by
   rw[<-Dd]
   refine(Ext.new hp).trans ((Ext.new hp2).trans ((Ext.new ?_).trans (.new hp3)))
   rw[ao hd2,ao hd1];exact hd
  refine⟨by rw[ao Bm.symm];exact De,?_⟩
  have e4:jQ [(PV.str "seed",PV.int n),(PV.str "number",PV.int 0),(PV.str "left",PV.ref l)]=some (bi n 0 l):=rfl
  rw[e4]
  have e5:dD [] (bi n 0 l)=bi n 0 l:=by simp[dD,bi,gJ,sS,aV]
  dsimp only
  rw[e5]
  refine k d l _ hd (Ci.free hl) ⟨n,0,_,aa,by rw[ao Bm,aa],n0,n1,Int.le_refl _,fun y hy=>?_,?_⟩ ?_
  ·exact BH y (FW.mp (HU.mp hy)).1
  ·rw[Ga]
   exact EW (GK _ _) (by omega)
  ·intro a o ha
   have had:a≠d:=fun e=>by rw[e,hd]at ha;cases ha
   rw[ao had,ao (fun e=>by rw[e,Ci.free hl]at ha;cases ha)]
   exact Ci a o ha
end C
namespace L3
open PySem L2
theorem gT(S:aq):∀zs:List Str,yO S (zs.map PV.str) (zs.map PyData.str)
 |[]=>.nil
 |z::r=>.cons (.str z) (gT S r)
theorem dL:∀{zs:Vs},(∀z∈zs,PyData.strOk z=true)->PyData.canLayAll0 (zs.map PyData.str)=true
 |[],_=>rfl
 |z::r,h=>by
  show(PyData.canLay0 (.str z)&&PyData.canLayAll0 (r.map PyData.str))=true
  rw[dL fun y hy=>h y (by simp[hy])]
  have:PyData.canLay0 (.str z)=true:=h z (by simp)
  rw[this];rfl
def gU(z:Str)(zs:Vs):fS (.str z) (zs.map PyData.str)=decide (z∈zs):=by
 unfold fS
 rw[List.any_map,G1,List.any_eq_true,decide_eq_true_iff]
 constructor
 ·rintro⟨y,hy,e⟩
  have e':(y == z)=true:=e
  exact(eq_of_beq e')▸hy
 ·intro h
  exact⟨z,h,beq_self_eq_true z⟩
def ji{neg:Bool}{z:Str}{zs:Vs}{a:Addr}{S:aq}{Q:bY}(hS:S a=some (.lst (zs.map PV.str)))(hz:PyData.strOk z=true)(hzs:∀y∈zs,PyData.strOk y=true)(q:Q (.bl (neg != decide (z∈zs))) S):jM neg (.str z) (.ref a) S Q:=by
 unfold jM
 simp only[hS]
 exact⟨_,_,.str z,gT S zs,hz,dL hzs,by show 0<=150;decide,by rw[gU];exact q⟩
def bT{neg:Bool}{z:Str}{zs:Vs}{S:aq}{Q:bY}(hz:PyData.strOk z=true)(hzs:∀y∈zs,PyData.strOk y=true)(q:Q (.bl (neg != decide (z∈zs))) S):jM neg (.str z) (.tup (zs.map PV.str)) S Q:=by
 unfold jM
 exact⟨_,_,.str z,gT S zs,hz,dL hzs,by show 0<=150;decide,by rw[gU];exact q⟩
end L3
namespace C
open PySem L2 L3 Wd
abbrev jj(w:aQ):Prop:=∀{S:aq} {t b:Int} {Q:bY} {E:de},0 < b->b.natAbs < 2 ^ 8000->Q (.tup [.int (M3.i8 t b),.int (M3.jH t b)]) S->w [.int t,.int b] S Q E
def zO:jj (bI 4 eJ):=by
 intro S t b Q E hb hs k
 unfold bI eJ
 rw[show aF 4 [PV.int t,PV.int b]=[some (.int t),some (.int b),none,none] from rfl]
 simp only[ah]
 walk_at "x"
 refine⟨fun n σ S'=>S'=S/\∃x y:Int,σ=[some (.int t),some (.int b),some (.int x),some (.int y)]/\0<=x/\0<=y/\Int.gcd x y=Int.gcd t b/\y.toNat=n,⟨_,rfl,_,b,rfl,by split<;>omega,by omega,?_,rfl⟩,?_⟩
 ·split
  ·rw[show(0 - t) = -t by omega,Int.neg_gcd]
  ·rfl
 rintro n σ S' ⟨rfl,x,y,rfl,hx,hy,hg,rfl⟩
 walk_at "x"
 simp only[E2]
 split
 ·rename_i hp
  refine⟨fun σ' AL=>AL=S'/\∃x' y':Int,σ'=[some (.int t),some (.int b),some (.int x'),some (.int y')]/\0<=x'/\0<=y'/\Int.gcd x' y'=Int.gcd t b/\y'.toNat < y.toNat,?_,?_⟩
  ·rintro σ' AL ⟨rfl,x',y',rfl,h1,h2,h3,h4⟩
   exact⟨_,h4,rfl,x',y',rfl,h1,h2,h3,rfl⟩
  ·walk_at "x"
   have e:x.fmod y=x % y:=e8 hy
   have l1:=Int.emod_nonneg x (b:=y) (by omega)
   have l2:=HK x hp
   refine⟨by omega,trivial,y,x.fmod y,rfl,hy,by omega,?_,by omega⟩
   rw[M3.ni];exact hg
 ·rename_i hp
  have BH:y=0:=by omega
  subst BH
  have Eg:x=(Int.gcd t b:Int):=by
   rw[<-hg]
   rw[Int.gcd_zero_right]
   omega
  subst Eg
  have gp:(0:Int) < (Int.gcd t b:Int):=HB.mpr (M3.eU (by omega))
  have gl:=M3.se (t:=t) (b:=b) (by omega)
  have cd:∀z,jL z (Int.gcd t b:Int):=fun z=>⟨by omega,G6 (by omega) hs⟩
  refine⟨cd _,cd _,?_⟩
  have d1:=(M3.nh (t:=t) (b:=b) (by omega))
  rw[if_neg (by omega)]at d1
  rw[d1.1,d1.2]
  exact k
structure qk (x y:Int):Prop where
 low:M3.wV x y
 x0:0<=x
 x1:x<=999
 y1:y<=9
def ml{n:Nat}(h:n < 2 ^ 64):n < 2 ^ 8000:=Gv h (Hy (by decide) (by decide))
abbrev gV(w:aQ):Prop:=∀{S:aq} {d l:Addr} {Q:bY} {E:de},xJ S d l->(∀x y S',qk x y->xJ S' d l->xZ d l S S'->Q (.tup [.int x,.int y]) S')->w [.ref d] S Q E
def zt{wd wl:aQ}(xG:bf wd)(zO:jj wl):gV (bI 2 (dH wd wl)):=by
 intro S d l Q E D k
 unfold bI dH
 rw[show aF 2 [PV.ref d]=[some (.ref d),none] from rfl]
 walk_at "x"
 refine xG D (by decide) (by decide) fun r S1 r0 r1 D1 O1=>?_
 simp only[E6,E2]
 split
 ·exact k 0 1 S1 ⟨⟨by decide,by decide⟩,by decide,by decide,by decide⟩ D1 O1
 ·split
  ·refine xG D1 (by decide) (by decide) fun r2 S2 a0 a1 D2 O2=>?_
   exact k _ 1 S2 ⟨⟨by decide,Int.gcd_one_right _⟩,by omega,by omega,by decide⟩ D2 (O1.trans O2)
  ·refine xG D1 (by decide) (by decide) fun r2 S2 a0 a1 D2 O2=>xG D2 (by decide) (by decide) fun r3 S3 b0 b1 D3 O3=>?_
   refine zO (by omega) (ml (by omega)) ?_
   have z:=M3.nj (t:=r2) (b:=1+r3) (T:=999) (B:=9) (by omega) (by omega) (by omega) (by omega) (by omega) (by decide) (by decide)
   refine k _ _ S3 ⟨M3.li (by omega),?_,z.2.1,z.2.2.2⟩ D3 (O1.trans (O2.trans O3))
   unfold M3.i8
   rw[if_neg (by omega)]
   exact Int.ediv_nonneg a0 (by omega)
def mn{r:Int}(h0:0<=r)(h1:r < 26):∃c,yt abc.cps.toList r=some c/\97<=c/\c<=122:=by
 obtain⟨n,rfl⟩:=F6 h0
 have q:=i7 n
 rw[Nat.mod_eq_of_lt (by omega)]at q
 exact⟨_,q,by omega,by omega⟩
def cP{z:Str}(h:yy z):PyData.strOk z=true:=by
 unfold PyData.strOk
 rw[Array.all_eq_true']
 intro c hc
 have:=h.sm c (by simpa using hc)
 simp;omega
def qm:∀z∈yb,PyData.strOk z=true:=by decide +kernel
theorem fJ:∀zs:List Str,texts (zs.map PV.str)=some zs
 |[]=>rfl
 |z::r=>by show(texts (r.map PV.str)).map (z::·)=_;rw[fJ r];rfl
def mo:("":Str).length=0:=by decide +kernel
def iN{cs:List Nat}(h:cs.length<=1000):((cs.map fy).map (·.length)).sum+(cs.map fy).length * ("":Str).length<=1000000:=by
 rw[pG,mo]
 omega
def gW{w__law_draw:aQ}(xG:bf w__law_draw){S:aq}{d l:Addr}{σ:bv}{n:Int}{fin:List PV->aq->Prop}(D:xJ S d l)(hn:n.toNat<=100)(h1:lk σ 1=some (.ref d))(h2:lk σ 2=some (.str abc))(hσ:∃x,σ=[x,some (.ref d),some (.str abc)])
  (k:∀(cs:List Nat) S',cs.length=n.toNat->(∀c∈cs,97<=c/\c<=122)->xJ S' d l->xZ d l S S'->fin ((cs.map fy).map PV.str) S') :
  cC (Tg.n 0) cK (aj al (v3 2) (ad w__law_draw [v3 1,c3 (.int 26)])) σ (fun _=>True) fin (be 0 n.toNat) [] S:=by
 obtain⟨x0,rfl⟩:=hσ
 refine jX (fun done ys S'=>∃cs:List Nat,ys=(cs.map fy).map PV.str/\cs.length=done.length/\done.length<=n.toNat/\(∀c∈cs,97<=c/\c<=122)/\xJ S' d l/\xZ d l S S') ⟨[],rfl,rfl,Fp _,by simp,D,.refl⟩ ?_ ?_ ?_
 ·rintro done ys S' ⟨cs,rfl,e,hd,_⟩
  exact⟨trivial,b9 (by rw[EG,EG,e];omega)⟩
 ·rintro done x rest ys S' K e ⟨cs,rfl,e2,hd,hc,D',O'⟩ hK
  have hlen:done.length+1<=n.toNat:=by
   have:=Fl List.length e
   rw[cD,EM,EU]at this
   omega
  walk_at "x"
  simp only[cK,G2]
  refine xG D' (by decide) (by decide) fun r S2 r0 r1 D2 O2=>⟨gh.1,?_⟩
  obtain⟨c,ec,c0,c1⟩:=mn r0 r1
  rw[ec]
  refine hK _ _ ⟨cs++[c],by simp,by simp[e2],by simpa using hlen,fun y hy=>?_,D2,O'.trans O2⟩
  rcases Ff.mp hy with hy|hy
  ·exact hc y hy
  ·rw[FO.mp hy];exact⟨c0,c1⟩
 ·rintro ys S' ⟨cs,rfl,e,hd,hc,D',O'⟩
  exact k cs S' (by rw[e,cD]) hc D' O'
theorem j1{f:Str->List Nat}(r:List Nat):∀xs:List Str,(xs.map f).Nodup->(xs.filter fun z=>f z == r).length<=1
 |[],_=>Fp _
 |x::xs,h=>by
  rw[EO,EY]at h
  rw[Hw]
  by_cases e:(f x == r)=true
  ·rw[if_pos e]
   have no:(xs.filter fun z=>f z == r)=[]:=by
    refine List.filter_eq_nil_iff.mpr fun z hz q=>h.1 ?_
    rw[eq_of_beq e,<-eq_of_beq q]
    exact EZ.mpr ⟨z,hz,rfl⟩
   rw[no]
   exact EJ _
  ·rw[if_neg e]
   exact j1 r xs h.2
def oj(r:List Nat):(yb.filter fun z=>z.cps.toList.tail == r).length<=1:=j1 (f:=fun z=>z.cps.toList.tail) r yb (by decide +kernel)
def kQ(r:List Nat)(c:Nat)(ns:Vs)(h:ns.length < 17):∃j,j < 26/\cand r (c+j) ∉ yb++ns:=by
 obtain⟨j,hj,free⟩:=l4 r c ((yb.filter fun z=>z.cps.toList.tail == r)++ns) (by rw[EM];have:=oj r;omega)
 refine⟨j,hj,fun hm=>free ?_⟩
 rcases Ff.mp hm with q|q
 ·exact Gq _ (FW.mpr ⟨q,by simp[cand]⟩)
 ·exact E4 _ q
abbrev dY(w:aQ):Prop:=∀{S:aq} {d l:Addr} {m:Int} {Q:bY} {E:de},xJ S d l->0<=m->m<=17->(∀p (ns:Vs) S',ns.length=m.toNat->ns.Nodup->(∀z∈ns,yy z/\z ∉ yb)->S p=none->p≠d->p≠l->S' p=some (.lst (ns.map PV.str))->xJ S' d l->xZ d l S S'->Q (.ref p) S')->w [.ref d,.int m] S Q E
def yH{wd:aQ}(xG:bf wd):dY (bI 11 (cL wd)):=by
 intro S d l m Q E D h0 h1 k
 unfold cL
 refine jY ?_
 rw[show aF 11 [PV.ref d,PV.int m]=[some (.ref d),some (.int m),none,none,none,none,none,none,none,none,none] from rfl]
 refine aE fun N hN=>?_
 walk_at "x"
 refine hN _ _ (aE fun N hN=>?_)
 walk_at "x"
 intro pT hT
 have dT:=D.free hT
 have D0:xJ (xF S pT (.lst (yb.map PV.str))) d l:=D.new hT
 have Df:(xF S pT (.lst (yb.map PV.str))) pT=some (.lst (yb.map PV.str)):=aa
 have O0:xZ d l S (xF S pT (.lst (yb.map PV.str))):=.new hT
 have eK:[PV.str "jars",PV.str "deed",PV.str "rest",PV.str "pay",PV.str "put",PV.str "then",PV.str "either",PV.str "take",PV.str "often",PV.str "use"]=yb.map PV.str:=rfl
 rw[eK]
 generalize xF S pT (.lst (yb.map PV.str))=S0 at D0 Df O0 ⊢
 refine hN _ _ (aE fun N hN=>?_)
 walk_at "x"
 refine⟨trivial,xG D0 (by decide) (by decide) fun n S1 n0 n1 D1 O1=>⟨by omega,by omega,?_⟩⟩
 refine gW xG D1 (by omega) rfl rfl ⟨_,rfl⟩ fun cs S2 hl hc D2 O2 pj hj=>?_
 simp only[iE,aa,fJ]
 refine⟨iN (by omega),?_⟩
 rw[show Txt.join (Str.ofString "") (cs.map fy)=⟨cs.toArray⟩from gB cs]
 refine hN _ _ (aE fun N hN=>?_)
 walk_at "x"
 have hcl:cs.length<=5:=by omega
 have lc:(⟨cs.toArray⟩:Str).length=cs.length:=EH
 refine⟨by rw[lc];exact b9 (by omega),xG (D2.new hj) (by rw[lc];omega) (by rw[lc];omega) fun at' S3 a0 a1 D3 O3=>xG D3 (by decide) (by decide) fun tu S4 t0 t1 D4 O4=>xG D4 (by decide) (by decide) fun nr S5 r0 r1 D5 O5=>?_⟩
 rw[lc]at a1
 obtain⟨an,rfl⟩:=F6 a0
 obtain⟨tn,rfl⟩:=F6 t0
 refine hN _ _ (aE fun N hN=>?_)
 walk_at "x"
 intro q hq
 have dq:=D5.free hq
 have OA:xZ d l S0 S5:=O1.trans (O2.trans ((xZ.new hj).trans (O3.trans (O4.trans O5))))
 have Cj:=OA _ _ Df dT.1 dT.2
 have Dg:pT≠q:=fun e=>by rw[e,hq]at Cj;cases Cj
 have Dh:S q=none:=by
  cases e:S q with
  |none=>rfl
  |some o=>rw[OA _ _ (O0 _ _ e dq.1 dq.2) dq.1 dq.2]at hq;cases hq
 refine hN _ _ (aE fun N hN=>?_)
 simp only[fG,gK,v3,lk]
 refine⟨by omega,by omega,?_⟩
 refine jh (fun done σ S'=>∃(ns:Vs) (v4 v10:Option PV) (near:Bool),σ=[some (.ref d),some (.int m),some (.str abc),some (.ref pT),v4,some (.str ⟨cs.toArray⟩),some (.int an),some (.int tn),some (.bl near),some (.ref q),v10]/\ns.length=done.length/\ns.Nodup/\(∀z∈ns,yy z/\z ∉ yb)/\S' q=some (.lst (ns.map PV.str))/\S' pT=some (.lst (yb.map PV.str))/\xJ S' d l/\xZ d l S S')
  ⟨[],_,_,_,rfl,rfl,List.nodup_nil,(fun z hz=>nomatch hz),aa,by rw[ao Dg];exact Cj,D5.new hq,O0.trans (OA.trans (.new hq))⟩ (fun _ _ _ _=>trivial) ?_ ?_
 ·rintro done x rest σ S6 K e ⟨ns,v4,v10,near,rfl,Ck,Cl,w6,BI,Cm,D6,O6⟩ hK
  have hlen:done.length < m.toNat:=by
   have:=Fl List.length e
   rw[cD,EM,EU]at this
   omega
  have hx:x = .int (0+(done.length:Nat)):=by
   have h2:=Fl (fun l=>l[done.length]?) e
   simp only[E7 (EJ _),Nat.sub_self,List.getElem?_cons_zero]at h2
   unfold be at h2
   rw[E1,GX hlen]at h2
   simpa using h2.symm
  subst hx
  -- the tail: a word is changed Eh it is new,then laid down
  have ql:∀(z:Str) (v4:Option PV) (S7:aq),yy z->S7 q=some (.lst (ns.map PV.str))->S7 pT=some (.lst (yb.map PV.str))->xJ S7 d l->xZ d l S S7->
    ah (gL (hV (aZ (aj (jM false) (v3 10) (v3 3))) (aZ (aj (jM false) (v3 10) (v3 9)))) (aw 10 (aj aJ (aj al (v3 2) (aj d9 (aj aJ (iD "str" fD (v3 2) [(aj al (v3 10) (c3 (.int 0)))]) (c3 (.int 1))) (c3 (.int 26)))) (a9 (v3 10) (jb (c3 (.int 1))) jN))))
     (cZ (iD "list" cI (v3 9) [(v3 10)])) { nx:=K,rt:=Q,ex:=e7,bk:=N,ct:=K } [some (.ref d),some (.int m),some (.str abc),some (.ref pT),v4,some (.str ⟨cs.toArray⟩),some (.int an),some (.int tn),some (.bl near),some (.ref q),some (.str z)] S7:=by
   intro z v4 S7 hz Di Dj D7 O7
   obtain⟨i,r,rfl,hi,Ei,hrs⟩:=hz.cand
   obtain⟨j,hj,free⟩:=kQ r i ns (by omega)
   refine⟨fun mm σ S'=>∃t,σ=[some (.ref d),some (.int m),some (.str abc),some (.ref pT),v4,some (.str ⟨cs.toArray⟩),some (.int an),some (.int tn),some (.bl near),some (.ref q),some (.str (cand r (i+t)))]/\S'=S7/\t<=j/\mm=j - t,⟨j,0,rfl,rfl,Fp _,rfl⟩,?_⟩
   rintro mm σ S' ⟨t,rfl,rfl,ht,rfl⟩
   have hw:=m_ Ei hrs (i+t)
   have Cn:∀y∈ns,PyData.strOk y=true:=fun y hy=>cP (w6 y hy).1
   have go:t < j->∃N:bv->aq->Prop,(∀σ' AL,N σ' AL->∃m',m' < j - t/\∃t',σ'=[some (.ref d),some (.int m),some (.str abc),some (.ref pT),v4,some (.str ⟨cs.toArray⟩),some (.int an),some (.int tn),some (.bl near),some (.ref q),some (.str (cand r (i+t')))]/\AL=S'/\t'<=j/\m'=j - t')/\
     N ([some (.ref d),some (.int m),some (.str abc),some (.ref pT),v4,some (.str ⟨cs.toArray⟩),some (.int an),some (.int tn),some (.bl near),some (.ref q),some (.str (cand r (i+(t+1))))]) S':=fun lt=>
    ⟨fun σ' AL=>σ'=[some (.ref d),some (.int m),some (.str abc),some (.ref pT),v4,some (.str ⟨cs.toArray⟩),some (.int an),some (.int tn),some (.bl near),some (.ref q),some (.str (cand r (i+(t+1))))]/\AL=S',fun σ' AL ⟨e1,e2⟩=>⟨j - (t+1),by omega,t+1,e1,e2,by omega,rfl⟩,rfl,rfl⟩
   have BJ:((((i+t) % 26:Nat):Int)+1).fmod 26=(((i+t+1) % 26:Nat):Int):=by rw[e8 (by decide)];omega
   walk_at "x"
   refine ji Dj (cP hw) qm ?_
   simp only[E6,E2]
   split
   ·rename_i g
    have lt:t < j:=Nat.lt_of_le_of_ne ht fun e=>by subst e;exact free (Gq _ g)
    obtain⟨N,hN,hn⟩:=go lt
    rw[if_pos trivial]
    refine⟨N,hN,trivial,hw.line,?_⟩
    rw[iA]
    simp only[fD,m8 _ (Nat.mod_lt _ (by decide))]
    refine⟨by decide,gh.1,?_⟩
    rw[BJ,i7 (i+t+1)]
    refine⟨hw.line,?_,?_⟩
    ·rw[dU]
     exact b9 (show 1+r.toArray.size<=1000 by rw[EH];omega)
    ·rw[dU,iB]
     exact hn
   ·rename_i g
    refine ji Di (cP hw) Cn ?_
    simp only[E6,E2]
    split
    ·rename_i g2
     have lt:t < j:=Nat.lt_of_le_of_ne ht fun e=>by subst e;exact free (E4 _ g2)
     obtain⟨N,hN,hn⟩:=go lt
     refine⟨N,hN,trivial,hw.line,?_⟩
     rw[iA]
     simp only[fD,m8 _ (Nat.mod_lt _ (by decide))]
     refine⟨by decide,gh.1,?_⟩
     rw[BJ,i7 (i+t+1)]
     refine⟨hw.line,?_,?_⟩
     ·rw[dU]
      exact b9 (show 1+r.toArray.size<=1000 by rw[EH];omega)
     ·rw[dU,iB]
      exact hn
    ·rename_i g2
     simp only[Di]
     refine⟨trivial,by rw[EG];exact cy (by omega),hK _ _ ⟨ns++[cand r (i+t)],_,_,_,rfl,by simp[Ck],HN.mpr ⟨Cl,by simp,fun a ha b hb e=>?_⟩,fun z hz=>?_,by rw[FZ];exact aa,by rw[ao Dg];exact Dj,D7.upd dq.1 dq.2,fun a o ha h1 h2=>?_⟩⟩
     ·rw[FO.mp hb]at e
      exact g2 (e▸ha)
     ·rcases Ff.mp hz with hz|hz
      ·exact w6 z hz
      ·rw[FO.mp hz]
       exact⟨hw,g⟩
     ·rw[ao (fun e=>by rw[e,Dh]at ha;cases ha)]
      exact O7 a o ha h1 h2
  obtain⟨pw,Ej,pl2⟩:=pH hcl hc (a:=an) (i:=(tn+done.length) % 26) (by omega) (Nat.mod_lt _ (by decide))
  have BJ:((tn:Int)+(0+(done.length:Int))).fmod 26=(((tn+done.length) % 26:Nat):Int):=by rw[e8 (by decide)];omega
  have Dk:(⟨cs.toArray⟩:Str).length<=sizeLine:=by rw[lc];exact b9 (by omega)
  simp only[Tg.put]
  refine aE fun N2 y4=>?_
  walk_at "x"
  refine⟨Dk,by decide,gh.1,?_⟩
  rw[BJ,i7 (tn+done.length)]
  refine⟨EW (Nat.add_le_add Ej (EJ 1)) (by decide),Dk,EW (Nat.le_of_eq (Array.size_append).symm) (EW pw.len (by decide)),?_⟩
  refine y4 _ _ (aE fun N3 Dm=>?_)
  walk_at "x"
  split
  ·refine⟨trivial,xG D6 (by decide) (by decide) fun n2 Sa m0 m1 Da Oa=>⟨by omega,by omega,?_⟩⟩
   refine gW xG Da (by omega) rfl rfl ⟨_,rfl⟩ fun A3 Sb hl2 hc2 Db Ob Ek hj2=>?_
   simp only[iE,aa,fJ]
   refine⟨iN (by omega),?_⟩
   rw[show Txt.join (Str.ofString "") (A3.map fy)=⟨A3.toArray⟩from gB A3]
   refine Dm _ _ ?_
   have wz:yy (⟨A3.toArray⟩:Str):=⟨fun e=>by have e':A3=[]:=e;rw[e']at hl2;simp at hl2;omega,by show A3.length<=6;omega,hc2⟩
   have OB:xZ d l S6 (xF Sb Ek (.lst ((A3.map fy).map PV.str))):=Oa.trans (Ob.trans (.new hj2))
   exact ql _ _ _ wz (OB _ _ BI dq.1 dq.2) (OB _ _ Cm dT.1 dT.2) (Db.new hj2) (O6.trans OB)
  ·exact Dm _ _ (ql _ _ S6 pw BI Cm D6 O6)
 ·rintro σ S6 ⟨ns,v4,v10,near,rfl,Ck,Cl,w6,BI,Cm,D6,O6⟩
  refine hN _ _ ?_
  walk_at "x"
  exact k q ns S6 (by rw[Ck,cD]) Cl w6 Dh dq.1 dq.2 BI D6 O6
inductive Bd where
 |rest|pay (x y:Int)|put (z:Str) (m:Int)|use (z:Str)|zf (a:Bd)|xI (a b:Bd)|y6 (a b:Bd)|yS (z:Str) (m:Int) (a b:Bd)
noncomputable def Bd.pv:Bd->PV
 | .rest=>.tup [.str "rest"]
 | .pay x y=>.tup [.str "pay",.tup [.int x,.int y]]
 | .put z m=>.tup [.str "put",.str z,.int m]
 | .use z=>.tup [.str "use",.str z]
 | .zf a=>.tup [.str "often",a.pv]
 | .xI a b=>.tup [.str "then",a.pv,b.pv]
 | .y6 a b=>.tup [.str "either",a.pv,b.pv]
 | .yS z m a b=>.tup [.str "take",.str z,.int m,a.pv,b.pv]
noncomputable def Bd.dep:Bd->Nat
 | .zf a=>a.dep+1
 | .xI a b=>max a.dep b.dep+1
 | .y6 a b=>max a.dep b.dep+1
 | .yS _ _ a b=>max a.dep b.dep+1
 |_=>1
noncomputable def Bd.size:Bd->Nat
 | .zf a=>a.size+1
 | .xI a b=>a.size+b.size+1
 | .y6 a b=>a.size+b.size+1
 | .yS _ _ a b=>a.size+b.size+1
 |_=>1
noncomputable def Bd.good(js us:Vs):Bd->Prop
 | .rest=>True
 | .pay x y=>qk x y
 | .put z m=>z∈js/\1<=m/\m<=9
 | .use z=>z∈us
 | .zf a=>a.good js us
 | .xI a b=>a.good js us/\b.good js us
 | .y6 a b=>a.good js us/\b.good js us
 | .yS z m a b=>z∈js/\1<=m/\m<=9/\a.good js us/\b.good js us
def Bd.zg(t:Bd):1<=t.dep:=by cases t<;>simp[Bd.dep]
def cQ{α:Type}{xs:List α}{r:Int}(h0:0<=r)(h1:r < xs.length):∃v,yt xs r=some v/\v∈xs:=by
 obtain⟨n,rfl⟩:=F6 h0
 have hn:n < xs.length:=by omega
 exact⟨xs[n],dS (by simp[hn]),List.getElem_mem hn⟩
noncomputable def Bd.leaf:Bd->Prop
 | .rest=>True
 | .pay _ _=>True
 | .put _ _=>True
 |_=>False
def Bd.yT{t:Bd}(h:t.leaf):t.dep=1/\t.size=1:=by cases t<;>first|exact⟨rfl,rfl⟩|exact h.elim
abbrev e9(w:aQ):Prop:=∀{S:aq} {d l:Addr} {js:Vs} {Q:bY} {E:de},xJ S d l->js.length < 2 ^ 61->(∀(t:Bd) S',t.leaf->t.good js []->xJ S' d l->xZ d l S S'->Q t.pv S')->w [.ref d,.tup (js.map PV.str)] S Q E
def yM{wd wc:aQ}(xG:bf wd)(zt:gV wc):e9 (bI 4 (dI wd wc)):=by
 intro S d l js Q E D hj k
 unfold dI
 refine jY ?_
 rw[show aF 4 [PV.ref d,PV.tup (js.map PV.str)]=[some (.ref d),some (.tup (js.map PV.str)),none,none] from rfl]
 refine aE fun N hN=>?_
 walk_at "x"
 refine xG D (by decide) (by decide) fun r S1 r0 r1 D1 O1=>?_
 refine hN _ _ (aE fun N hN=>?_)
 walk_at "x"
 simp only[E6,E2]
 split
 ·exact k .rest S1 trivial trivial D1 O1
 refine hN _ _ (aE fun N hN=>?_)
 walk_at "x"
 simp only[E6,E2,EG]
 have pay:wc [.ref d] S1 (fun x S=>Q (.tup [.str "pay",x]) S) e7:=zt D1 fun x y S2 c D2 O2=>k (.pay x y) S2 trivial c D2 (O1.trans O2)
 split
 ·rw[if_pos trivial];exact pay
 split
 ·exact pay
 rename_i hr hz
 refine hN _ _ (aE fun N hN=>?_)
 walk_at "x"
 refine xG D1 (by decide) (by decide) fun r2 S2 a0 a1 D2 O2 p hp=>xG (D2.new hp) (by decide) (by decide) fun r3 S3 b0 b1 D3 O3=>?_
 have dp:=D2.free hp
 have hp3:=O3 _ _ (aa (S:=S2) (o:=.lst [.int 1,.int 2,.int (1+r2)])) dp.1 dp.2
 simp only[hp3]
 obtain⟨v,hv,hm⟩:=cQ (xs:=[PV.int 1,.int 2,.int (1+r2)]) b0 (by simpa using b1)
 rw[hv]
 obtain⟨m,rfl,m0,m1⟩:∃m,v = .int m/\1<=m/\m<=9:=by
  simp only[EX,HV,or_false]at hm
  rcases hm with rfl|rfl|rfl
  ·exact⟨1,rfl,by omega,by omega⟩
  ·exact⟨2,rfl,by omega,by omega⟩
  ·exact⟨1+r2,rfl,by omega,by omega⟩
 refine hN _ _ ?_
 walk_at "x"
 simp only[EG]
 refine xG D3 (by omega) (by omega) fun r4 S4 c0 c1 D4 O4=>?_
 obtain⟨w,hw,Co⟩:=cQ (xs:=js.map PV.str) c0 (by rw[EG];exact c1)
 dsimp only
 rw[hw]
 obtain⟨z,hz,rfl⟩:=EZ.mp Co
 exact k (.put z m) S4 trivial ⟨hz,m0,m1⟩ D4 (O1.trans (O2.trans ((xZ.new hp).trans (O3.trans O4))))
def zi(d l x:Addr)(S S':aq):Prop:=∀a o,S a=some o->a≠d->a≠l->a≠x->S' a=some o
theorem _root_.L3.xZ.x{d l x:Addr}{S S':aq}(h:xZ d l S S'):zi d l x S S':=fun a o e h1 h2 _=>h a o e h1 h2
def zi.trans{d l x:Addr}{S S1 S2:aq}(a:zi d l x S S1)(b:zi d l x S1 S2):zi d l x S S2:=fun y o h h1 h2 h3=>b y o (a y o h h1 h2 h3) h1 h2 h3
def zi.upd{d l x:Addr}{S:aq}{o:SO}:zi d l x S (xF S x o):=fun y u h h1 h2 h3=>by rw[ao h3];exact h
abbrev e_(n:Nat)(w:aQ):Prop:=∀{S:aq} {d l x:Addr} {js:Vs} {left down:Int} {Q:bY} {E:de},xJ S d l->S x=some (.lst [.int left])->x≠d->x≠l->js.length < 2 ^ 61->0<=left->left < 2 ^ 61->0<=down->down < n->
  (∀(t:Bd) S' left',t.good js []->(t.dep:Int)<=down+1->0<=left'->(t.size:Int)+left'<=left+1->xJ S' d l->S' x=some (.lst [.int left'])->zi d l x S S'->Q t.pv S')->w [.ref d,.tup (js.map PV.str),.ref x,.int down] S Q E
def zu{wd wl rb:aQ}(xG:bf wd)(yM:e9 wl)(n:Nat)(ih:e_ n rb):e_ (n+1) (bI 8 (dJ wd wl rb)):=by
 intro S d l x js left down Q E D hx hxd Aq hj h0 h1 h2 h3 k
 unfold dJ
 refine jY ?_
 rw[show aF 8 [PV.ref d,PV.tup (js.map PV.str),PV.ref x,PV.int down]=[some (.ref d),some (.tup (js.map PV.str)),some (.ref x),some (.int down),none,none,none,none] from rfl]
 refine aE fun N hN=>?_
 walk_at "x"
 refine xG D (by decide) (by decide) fun r S1 r0 r1 D1 O1=>?_
 have AA:=O1 _ _ hx hxd Aq
 refine hN _ _ (aE fun N hN=>?_)
 walk_at "x"
 have a0:yt [PV.int left] 0=some (.int left):=rfl
 simp only[E6,E2,AA,a0]
 have lf:wl [.ref d,.tup (js.map PV.str)] S1 Q e7:=yM D1 hj fun t S2 hl hg D2 O2=>k t S2 left hg (by rw[(Bd.yT hl).1];omega) h0 (by rw[(Bd.yT hl).2];omega) D2 (O2 _ _ AA hxd Aq) (O1.x.trans O2.x)
 split
 ·rw[if_pos trivial];exact lf
 split
 ·rw[if_pos trivial];exact lf
 split
 ·exact lf
 rename_i hd hl hf
 refine hN _ _ (aE fun N hN=>?_)
 simp only[cw,aZ,aj,v3,c3,lk,nV,cA,E2]
 have Dn:mx [PV.int left].length 0=some 0:=rfl
 split
 ·refine aE fun N2 y4=>?_
  walk_at "x"
  simp only[AA,a0,Dn]
  refine y4 _ _ ?_
  walk_at "x"
  refine ih (left:=left - 1) (D1.upd hxd Aq) aa hxd Aq hj (by omega) (by omega) (by omega) (by omega) fun t S2 l2 hg hdp q0 q1 D2 Cp O2=>?_
  exact k (.zf t) S2 l2 hg (by simp only[Bd.dep];omega) q0 (by simp only[Bd.size];omega) D2 Cp (O1.x.trans (zi.upd.trans O2))
 ·refine hN _ _ (aE fun N hN=>?_)
  walk_at "x"
  simp only[AA,a0,Dn]
  refine hN _ _ (aE fun N hN=>?_)
  walk_at "x"
  refine ih (left:=left - 2) (D1.upd hxd Aq) aa hxd Aq hj (by omega) (by omega) (by omega) (by omega) fun ta S2 l2 ga da q0 q1 D2 Cp O2=>?_
  refine hN _ _ (aE fun N hN=>?_)
  walk_at "x"
  refine ih (left:=l2) D2 Cp hxd Aq hj q0 (by omega) (by omega) (by omega) fun tb S3 l3 gb db p0 p1 D3 Cq O3=>?_
  have OA:zi d l x S S3:=O1.x.trans (zi.upd.trans (O2.trans O3))
  refine hN _ _ (aE fun N hN=>?_)
  walk_at "x"
  simp only[E2]
  split
  ·exact k (.xI ta tb) S3 l3 ⟨ga,gb⟩ (by simp only[Bd.dep];omega) p0 (by simp only[Bd.size];omega) D3 Cq OA
  refine hN _ _ (aE fun N hN=>?_)
  walk_at "x"
  simp only[E6,E2,EG]
  have ei:Q (Bd.y6 ta tb).pv S3:=k (.y6 ta tb) S3 l3 ⟨ga,gb⟩ (by simp only[Bd.dep];omega) p0 (by simp only[Bd.size];omega) D3 Cq OA
  split
  ·rw[if_pos trivial];exact ei
  split
  ·exact ei
  rename_i hz8 hz
  refine hN _ _ (aE fun N hN=>?_)
  walk_at "x"
  refine xG D3 (by decide) (by decide) fun r2 S4 e0 e1 D4 O4 p hp=>xG (D4.new hp) (by decide) (by decide) fun r3 S5 b0 b1 D5 O5=>?_
  have dp:=D4.free hp
  have hp3:=O5 _ _ (aa (S:=S4) (o:=.lst [.int 1,.int 1,.int 2,.int (1+r2)])) dp.1 dp.2
  simp only[hp3]
  obtain⟨v,hv,hm⟩:=cQ (xs:=[PV.int 1,.int 1,.int 2,.int (1+r2)]) b0 (by simpa using b1)
  rw[hv]
  obtain⟨m,rfl,m0,m1⟩:∃m,v = .int m/\1<=m/\m<=9:=by
   simp only[EX,HV,or_false]at hm
   rcases hm with rfl|rfl|rfl|rfl
   ·exact⟨1,rfl,by omega,by omega⟩
   ·exact⟨1,rfl,by omega,by omega⟩
   ·exact⟨2,rfl,by omega,by omega⟩
   ·exact⟨1+r2,rfl,by omega,by omega⟩
  refine hN _ _ ?_
  walk_at "x"
  simp only[EG]
  refine xG D5 (by omega) (by omega) fun r4 S6 c0 c1 D6 O6=>?_
  obtain⟨w,hw,Co⟩:=cQ (xs:=js.map PV.str) c0 (by rw[EG];exact c1)
  dsimp only
  rw[hw]
  obtain⟨z,hz,rfl⟩:=EZ.mp Co
  have Cr:=O4 _ _ Cq hxd Aq
  have El:x≠p:=fun e=>by rw[e,hp]at Cr;cases Cr
  have Em:=O6 _ _ (O5 _ _ (show xF S4 p _ x=some (.lst [.int l3]) by rw[ao El];exact Cr) hxd Aq) hxd Aq
  exact k (.yS z m ta tb) S6 l3 ⟨hz,m0,m1,ga,gb⟩ (by simp only[Bd.dep];omega) p0 (by simp only[Bd.size];omega) D6 Em (OA.trans (O4.x.trans ((xZ.new hp).x.trans (O5.x.trans O6.x))))
end C
local macro_rules | `(tactic| walk_at "w")=>`(tactic| simp only [L3.ah,L3.aw,L3.aN,L3.cZ,L3.cw,L3.bd,L3.aj,L3.v3,L3.c3,L3.lk,L3.ap,L3.ag,L3.ad,L3.iD,L3.aZ,L3.hU,L3.hV,L3.nC,L3.jc,L3.h_,L3.gH,L3.az,L3.eV,L3.lp,L3.eX,L3.al,L3.fB,L3.a9,L3.jN,L3.jb,L3.hZ,L3.cA,L3.eg,L3.bG,L3.d9,L3.fT,L3.nU,L3.nV,L3.jv,L3.u4,L3.bR,L3.aJ,L3.f_,L3.bj,L3.gE,L3.aG,L3.eI,L3.eY,List.set_cons_zero,List.set_cons_succ,List.set_nil,L3.sy,L3.fE,L3.l7,L3.aO,L3.aS,L3.bJ,L3.fG,L3.d8,L3.Tg.put,L3.Tg.yE,L3.jR,L3.fI,L3.gN,L3.gK,L3.cI,List.reduceReplicate,EO,Fw,List.cons_append,List.nil_append,L3.ic,L3.kP,L3.vc,L3.sU,L3.sV,L3.sW,L3.sX,L3.sY,L3.sZ,L3.s9,L3.s_,L3.tj,L3.aV,String.reduceEq,decide_true,decide_false,E6,HQ,Bool.not_true,Bool.not_false,G2,Gs,E8,reduceIte,ite_true,ite_false])
local macro_rules | `(tactic| walk_at "y")=>`(tactic| ((try walk_at "x"); (try walk_at "w")))
namespace C
open PySem L2 L3 Wd
noncomputable def Bd.xH:Bd->Nat
 | .xI a b=>a.xH * b.xH
 | .y6 a b=>a.xH+b.xH
 | .yS _ _ a b=>a.xH+b.xH
 |_=>1
noncomputable def Bd.xL:Bd->Nat
 | .zf a=>a.xH+a.xL
 | .xI a b=>a.xL+b.xL
 | .y6 a b=>a.xL+b.xL
 | .yS _ _ a b=>a.xL+b.xL
 |_=>0
theorem Bd.xU:∀t:Bd,t.xH<=2 ^ t.size
 | .rest=>by simp[Bd.xH,Bd.size]
 | .pay _ _=>by simp[Bd.xH,Bd.size]
 | .put _ _=>by simp[Bd.xH,Bd.size]
 | .use _=>by simp[Bd.xH,Bd.size]
 | .zf a=>by simp only[Bd.xH,Bd.size];exact Nat.one_le_two_pow
 | .xI a b=>by
  simp only[Bd.xH,Bd.size]
  refine EW (Nat.mul_le_mul a.xU b.xU) ?_
  rw[<-Nat.pow_add]
  exact F5 (by decide) (by omega)
 | .y6 a b=>by
  simp only[Bd.xH,Bd.size]
  have h1:2 ^ a.size<=2 ^ (a.size+b.size):=F5 (by decide) (by omega)
  have h2:2 ^ b.size<=2 ^ (a.size+b.size):=F5 (by decide) (by omega)
  have:=a.xU
  have:=b.xU
  rw[Nat.pow_succ]
  omega
 | .yS _ _ a b=>by
  simp only[Bd.xH,Bd.size]
  have h1:2 ^ a.size<=2 ^ (a.size+b.size):=F5 (by decide) (by omega)
  have h2:2 ^ b.size<=2 ^ (a.size+b.size):=F5 (by decide) (by omega)
  have:=a.xU
  have:=b.xU
  rw[Nat.pow_succ]
  omega
def Bd.z9{t:Bd}(h:t.size<=60):(t.xH:Int) < 2 ^ 64:=by
 have h1:=t.xU
 have h2:2 ^ t.size<=2 ^ 60:=F5 (by decide) h
 omega
abbrev bC(n:Nat)(w:aQ):Prop:=∀{S:aq} {t:Bd} {Q:bY} {E:de},t.dep<=n->t.size<=60->Q (.int t.xH) S->w [t.pv] S Q E
def mq{s0:aQ}(n:Nat)(ih:bC n s0):bC (n+1) (bI 1 (bu s0)):=by
 intro S t Q E hd hs k
 unfold bu
 refine jY ?_
 rw[show aF 1 [t.pv]=[some t.pv] from rfl]
 cases t with
 |xI a b=>
  simp only[Bd.dep,Bd.size]at hd hs
  simp only[Bd.pv]
  walk_at "w"
  refine ih (by omega) (by omega) (ih (by omega) (by omega) ⟨sQ (by omega) (Bd.z9 (by omega)),?_⟩)
  simpa [Bd.xH]using k
 |y6 a b=>
  simp only[Bd.dep,Bd.size]at hd hs
  simp only[Bd.pv]
  walk_at "w"
  refine ih (by omega) (by omega) (ih (by omega) (by omega) ?_)
  simpa [Bd.xH]using k
 |yS z m a b=>
  simp only[Bd.dep,Bd.size]at hd hs
  simp only[Bd.pv]
  walk_at "w"
  refine ih (by omega) (by omega) (ih (by omega) (by omega) ?_)
  simpa [Bd.xH]using k
 |_=>
  simp only[Bd.pv]
  walk_at "w"
  exact k
abbrev cR(n:Nat)(w:aQ):Prop:=∀{S:aq} {t:Bd} {Q:bY} {E:de},t.dep<=n->t.size<=60->Q (.int t.xL) S->w [t.pv] S Q E
def fb:∀y∈(["then","either","take"]:Vs),PyData.strOk y=true:=by decide +kernel
def fc:∀y∈(["rest","pay","put","use","often","then","either","take"]:Vs),PyData.strOk y=true:=by decide +kernel
def mr{x0 s0:aQ}(n m:Nat)(hp:bC m x0)(ih:cR n s0)(hnm:n<=m):cR (n+1) (bI 1 (bp x0 s0)):=by
 intro S t Q E hd hs k
 unfold bp
 refine jY ?_
 rw[show aF 1 [t.pv]=[some t.pv] from rfl]
 have e3:[PV.str "then",PV.str "either",PV.str "take"]=(["then","either","take"]:Vs).map PV.str:=rfl
 cases t with
 |zf a=>
  simp only[Bd.dep,Bd.size]at hd hs
  simp only[Bd.pv]
  walk_at "y"
  refine hp (by omega) (by omega) (ih (by omega) (by omega) ?_)
  simpa [Bd.xL]using k
 |xI a b=>
  simp only[Bd.dep,Bd.size]at hd hs
  simp only[Bd.pv]
  walk_at "y"
  rw[e3]
  refine bT (fc _ (by simp)) fb ?_
  simp[aV]
  refine ih (by omega) (by omega) (ih (by omega) (by omega) ?_)
  simpa [Bd.xL]using k
 |y6 a b=>
  simp only[Bd.dep,Bd.size]at hd hs
  simp only[Bd.pv]
  walk_at "y"
  rw[e3]
  refine bT (fc _ (by simp)) fb ?_
  simp[aV]
  refine ih (by omega) (by omega) (ih (by omega) (by omega) ?_)
  simpa [Bd.xL]using k
 |yS z m a b=>
  simp only[Bd.dep,Bd.size]at hd hs
  simp only[Bd.pv]
  walk_at "y"
  rw[e3]
  refine bT (fc _ (by simp)) fb ?_
  simp[aV]
  refine ih (by omega) (by omega) (ih (by omega) (by omega) ?_)
  simpa [Bd.xL]using k
 |_=>
  simp only[Bd.pv]
  walk_at "y"
  rw[e3]
  refine bT (fc _ (by simp)) fb ?_
  simp[aV]
  simpa [Bd.xL]using k
abbrev cS(w:aQ):Prop:=∀{S:aq} {d l:Addr} {js:Vs} {size bound:Int} {Q:bY} {E:de},xJ S d l->js.length < 2 ^ 61->1<=size->size<=60->
  (∀(t:Bd) S',t.good js []->t.dep<=6->t.size<=60->(t.size:Int)<=max size 4->((t.xH:Int)+t.xL<=bound\/(t.xH:Int)+t.xL<=2)->xJ S' d l->xZ d l S S'->Q t.pv S')->w [.ref d,.tup (js.map PV.str),.int size,.int bound] S Q E
def jk{x0 x1 x2 x3:aQ}(n:Nat)(hn:6<=n)(zu:e_ n x0)(Bp:bC n x1)(Bq:cR n x2)(yM:e9 x3):cS (bI 5 (bB x0 x1 x2 x3)):=by
 intro S d l js size bound Q E D hj h1 h2 k
 unfold bB
 refine jY ?_
 rw[show aF 5 [PV.ref d,PV.tup (js.map PV.str),PV.int size,PV.int bound]=[some (.ref d),some (.tup (js.map PV.str)),some (.int size),some (.int bound),none] from rfl]
 refine aE fun N hN=>?_
 walk_at "x"
 intro p hp
 have dp:=D.free hp
 refine zu (D.new hp) aa dp.1 dp.2 hj (by omega) (by omega) (by decide) (by omega) fun t S1 l1 hg hd q0 q1 D1 AA O1=>?_
 have Do:xZ d l S S1:=fun a o ha h1 h2=>O1 a o (by rw[ao (fun e=>by rw[e,hp]at ha;cases ha)];exact ha) h1 h2 (fun e=>by rw[e,hp]at ha;cases ha)
 refine hN _ _ (aE fun N hN=>?_)
 simp only[cw,aZ,aj,ad,ap,v3,lk,List.set_cons_zero,List.set_cons_succ,jv,aJ,cA]
 refine Bp (by omega) (by omega) (Bq (by omega) (by omega) ?_)
 simp only[E2]
 split
 ·walk_at "x"
  refine yM D1 hj fun t2 S2 hl2 Ay D2 O2=>yM D2 hj fun t3 S3 hl3 En D3 O3=>?_
  refine hN _ _ ?_
  walk_at "x"
  have e2:=Bd.yT hl2
  have e3:=Bd.yT hl3
  refine k (.xI (.zf t2) t3) S3 ⟨Ay,En⟩ (by simp only[Bd.dep];omega) (by simp only[Bd.size];omega) (by simp only[Bd.size];omega) (.inr ?_) D3 (Do.trans (O2.trans O3))
  have c2:t2.xH=1/\t2.xL=0:=by cases t2<;>first|exact⟨rfl,rfl⟩|exact hl2.elim
  have c3:t3.xH=1/\t3.xL=0:=by cases t3<;>first|exact⟨rfl,rfl⟩|exact hl3.elim
  simp only[Bd.xH,Bd.xL,c2,c3]
  decide
 ·rename_i hb
  walk_at "x"
  refine hN _ _ ?_
  walk_at "x"
  exact k t S1 hg (by omega) (by omega) (by omega) (.inl (by omega)) D1 Do
structure Sh (S:aq) (v:PV) (d:PyData) (n k:Nat):Prop where
 dat:Dat S v d
 lay:d.canLay0=true
 A4:d.showable=true
 dep:d.depth<=k
 len:d.shown.length<=n
structure zJ (S:aq) (vs:List PV) (ds:List PyData) (n k:Nat):Prop where
 dat:yO S vs ds
 lay:PyData.canLayAll0 ds=true
 A4:PyData.showableAll ds=true
 dep:PyData.depthAll ds<=k
 len:piled (PyData.shownAll ds)<=n
def Sh.le{S:aq}{v:PV}{d:PyData}{n k m j:Nat}(h:Sh S v d n k)(a:n<=m)(b:k<=j):Sh S v d m j:=⟨h.dat,h.lay,h.A4,EW h.dep b,EW h.len a⟩
def zJ.le{S:aq}{v:List PV}{d:List PyData}{n k m j:Nat}(h:zJ S v d n k)(a:n<=m)(b:k<=j):zJ S v d m j:=⟨h.dat,h.lay,h.A4,EW h.dep b,EW h.len a⟩
theorem Sh.int{S:aq}{i:Int}(h:i.natAbs.log2 < 1920):Sh S (.int i) (.int i) 1921 0:=
 ⟨.int i,by simp[PyData.canLay0],by simpa [PyData.showable]using h,by simp[PyData.depth],by rw[PyData.shown_int];exact PyProof.Rows.int_text_len_1921 h⟩
theorem Sh.str{S:aq}{z:Str}(h:PyData.strOk z=true):Sh S (.str z) (.str z) (10 * z.length+2) 0:=
 ⟨.str z,by simpa [PyData.canLay0]using h,by simp[PyData.showable],by simp[PyData.depth],by
  rw[PyData.shown_str]
  refine StrLaws.reprText_len z fun c hc=>?_
  have h3:=Array.all_eq_true_iff_forall_mem.mp h c (Array.mem_toList_iff.mp hc)
  have h4:c < 0x110000:=by simpa using h3
  have e:(16:Nat) ^ 8=4294967296:=by decide
  omega⟩
theorem zJ.nil{S:aq}:zJ S [] [] 0 0:=⟨.nil,by simp[PyData.canLayAll0],by simp[PyData.showableAll],by simp[PyData.depthAll],by simp[PyData.shownAll,piled]⟩
theorem Sh.cons{S:aq}{v:PV}{d:PyData}{n k:Nat}{vs:List PV}{ds:List PyData}{m:Nat}(a:Sh S v d n k)(b:zJ S vs ds m k):zJ S (v::vs) (d::ds) (n+2+m) k:=
 ⟨.cons a.dat b.dat,by simp[PyData.canLayAll0,a.lay,b.lay],by simp[PyData.showableAll,a.A4,b.A4],by simp only[PyData.depthAll];exact Nat.max_le.mpr ⟨a.dep,b.dep⟩,by
  rw[PyData.shownAll_cons,piled_cons]
  have:=a.len
  have:=b.len
  omega⟩
theorem Sh.tup{S:aq}{n k:Nat}{vs:List PV}{ds:List PyData}(a:zJ S vs ds n k):Sh S (.tup vs) (.tuple ds) (n+3) (k+1):=
 ⟨.tup a.dat,by simp[PyData.canLay0,a.lay],by simp[PyData.showable,a.A4],by simp only[PyData.depth];exact F1 a.dep,by
  rw[PyData.shown_tuple,strLen_append,strLen_append]
  have e1:((("(":String):Str)).length=1:=rfl
  have e3:(((if ds.length == 1 then ",)" else ")":String):Str)).length<=2:=by split<;>decide
  have q:=a.len
  rcases ds with _|⟨d,ds⟩
  ·have:(Str.join ", " (PyData.shownAll [])).length=0:=by simp[PyData.shownAll];rfl
   omega
  ·have:=join_length_add (PyData.shownAll (d::ds)) (by simp[PyData.shownAll])
   omega⟩
theorem zJ.map{α:Type}{S:aq}{n k:Nat}(f:α->PV)(g:α->PyData):∀{xs:List α},(∀x∈xs,Sh S (f x) (g x) n k)->zJ S (xs.map f) (xs.map g) (xs.length * (n+2)) k
 |[],_=>zJ.nil.le (Fp _) (Fp _)
 |x::r,h=>((h x (by simp)).cons (zJ.map f g fun y hy=>h y (by simp[hy]))).le (by rw[EU,Nat.succ_mul];omega) (EJ _)
def Sh.dict{S:aq}{v:PV}{d:PyData}{n k:Nat}(h:Sh S v d n k):d.hasDict=false:=PyData.hasDict_of_canLay d h.lay
def tm:(2:Nat) ^ 24<=sizeLine:=by decide
def ol{S:aq}{vs:List PV}{d:PyData}{n k:Nat}{Q:bY}(h:Sh S (.tup vs) d n k)(hn:n<=2 ^ 24)(hk:k<=100)(q:Q (.str d.shown) S):bZ [.tup vs] S Q:=by
 unfold bZ
 exact⟨d,h.dat,h.A4,h.dict,EW h.dep hk,EW h.len (EW hn tm),q⟩
def j2{a b:Str}(neg:Bool){S:aq}{Q:bY}(q:Q (.bl (neg != decide (a=b))) S):bR neg (.str a) (.str b) S Q:=q
noncomputable def Bd.dt:Bd->PyData
 | .rest=>.tuple [.str "rest"]
 | .pay x y=>.tuple [.str "pay",.tuple [.int x,.int y]]
 | .put z m=>.tuple [.str "put",.str z,.int m]
 | .use z=>.tuple [.str "use",.str z]
 | .zf a=>.tuple [.str "often",a.dt]
 | .xI a b=>.tuple [.str "then",a.dt,b.dt]
 | .y6 a b=>.tuple [.str "either",a.dt,b.dt]
 | .yS z m a b=>.tuple [.str "take",.str z,.int m,a.dt,b.dt]
def ms{i:Int}(h:i.natAbs < 2 ^ 64):i.natAbs.log2 < 1920:=by
 by_cases h0:i.natAbs=0
 ·rw[h0];decide
 ·exact(Nat.log2_lt h0).mpr (Gv h (Hy (by decide) (by decide)))
def Sh.w{S:aq}{z:Str}(h:yy z):Sh S (.str z) (.str z) 62 0:=(Sh.str (cP h)).le (by have:=h.len;omega) (EJ _)
def Sh.s{S:aq}(z:String)(k:Nat)(h:PyData.strOk (z:Str)=true)(hl:(z:Str).length<=6):Sh S (.str z) (.str z) 62 k:=(Sh.str h).le (by omega) (Fp _)
def zJ.zP{S:aq}(k:Nat):zJ S [] [] 0 k:=.le .nil (EJ _) (Fp _)
theorem Sh.i{S:aq}{i:Int}(h:i.natAbs < 2 ^ 64):Sh S (.int i) (.int i) 1921 0:=Sh.int (ms h)
def tq{x y:Int}(h:qk x y):x.natAbs < 2 ^ 64:=by have:=h.x0;have:=h.x1;omega
def tw{x y:Int}(h:qk x y):y.natAbs < 2 ^ 64:=by have:=h.low.pos;have:=h.y1;omega
def vd{m:Int}(h:1<=m/\m<=9):m.natAbs < 2 ^ 64:=by omega
theorem Bd.sh{S:aq}{js us:Vs}(hj:∀z∈js,yy z)(hu:∀z∈us,yy z):∀t:Bd,t.good js us->Sh S t.pv t.dt (t.size * 4200) (t.dep+1)
 | .rest,_=>(Sh.tup ((Sh.s "rest" 0 (by decide +kernel) (by decide +kernel)).cons .nil)).le (by decide) (by decide)
 | .pay x y,h=>(Sh.tup ((Sh.s "pay" 1 (by decide +kernel) (by decide +kernel)).cons ((Sh.tup ((Sh.i (tq h)).cons ((Sh.i (tw h)).cons .nil))).cons (.zP 1)))).le (by simp only[Bd.size];omega) (by simp only[Bd.dep];omega)
 | .put z m,h=>(Sh.tup ((Sh.s "put" 0 (by decide +kernel) (by decide +kernel)).cons ((Sh.w (hj z h.1)).cons ((Sh.i (vd h.2)).cons .nil)))).le (by simp only[Bd.size];omega) (by simp only[Bd.dep];omega)
 | .use z,h=>(Sh.tup ((Sh.s "use" 0 (by decide +kernel) (by decide +kernel)).cons ((Sh.w (hu z h)).cons .nil))).le (by simp only[Bd.size];omega) (by simp only[Bd.dep];omega)
 | .zf a,h=>(Sh.tup ((Sh.s "often" _ (by decide +kernel) (by decide +kernel)).cons ((Bd.sh hj hu a h).cons (.zP _)))).le (by simp only[Bd.size];omega) (by simp only[Bd.dep];omega)
 | .xI a b,h=>(Sh.tup ((Sh.s "then" (max a.dep b.dep+1) (by decide +kernel) (by decide +kernel)).cons (((Bd.sh hj hu a h.1).le (EJ _) (F1 (Nat.le_max_left a.dep b.dep))).cons (((Bd.sh hj hu b h.2).le (EJ _) (F1 (HW a.dep b.dep))).cons (.zP _))))).le (by simp only[Bd.size];omega) (by simp only[Bd.dep];omega)
 | .y6 a b,h=>(Sh.tup ((Sh.s "either" (max a.dep b.dep+1) (by decide +kernel) (by decide +kernel)).cons (((Bd.sh hj hu a h.1).le (EJ _) (F1 (Nat.le_max_left a.dep b.dep))).cons (((Bd.sh hj hu b h.2).le (EJ _) (F1 (HW a.dep b.dep))).cons (.zP _))))).le (by simp only[Bd.size];omega) (by simp only[Bd.dep];omega)
 | .yS z m a b,h=>(Sh.tup ((Sh.s "take" (max a.dep b.dep+1) (by decide +kernel) (by decide +kernel)).cons (((Sh.w (hj z h.1)).le (EJ _) (Fp _)).cons (((Sh.i (vd ⟨h.2.1,h.2.2.1⟩)).le (EJ _) (Fp _)).cons (((Bd.sh hj hu a h.2.2.2.1).le (EJ _) (F1 (Nat.le_max_left a.dep b.dep))).cons (((Bd.sh hj hu b h.2.2.2.2).le (EJ _) (F1 (HW a.dep b.dep))).cons (.zP _))))))).le (by simp only[Bd.size];omega) (by simp only[Bd.dep];omega)
noncomputable def g7(p:Str×Bd):PV:=.tup [.str p.1,p.2.pv]
noncomputable def wG(p:Str×Bd):PyData:=.tuple [.str p.1,p.2.dt]
noncomputable def jm(js:Vs)(ds:List (Str×Bd)):PV:=.tup [.tup (js.map PV.str),.tup (ds.map g7)]
noncomputable def hdt(js:Vs)(ds:List (Str×Bd)):PyData:=.tuple [.tuple (js.map PyData.str),.tuple (ds.map wG)]
structure yU (js:Vs) (us:Vs) (ds:List (Str×Bd)):Prop where
 jl:js.length<=16
 dl:ds.length<=16
 jw:∀z∈js,yy z
 uw:∀z∈us,yy z
 dw:∀p∈ds,yy p.1
 gd:∀p∈ds,p.2.good js us
 dp:∀p∈ds,p.2.dep<=60
 sz:∀p∈ds,p.2.size<=60
theorem yU.sh{S:aq}{js us:Vs}{ds:List (Str×Bd)}(h:yU js us ds):Sh S (jm js ds) (hdt js ds) 5000000 64:=by
 have a:Sh S (.tup (js.map PV.str)) (.tuple (js.map PyData.str)) 2000 63:=(Sh.tup (zJ.map PV.str PyData.str (n:=62) (k:=0) fun z hz=>Sh.w (h.jw z hz))).le (by have:=h.jl;omega) (by decide)
 have b:Sh S (.tup (ds.map g7)) (.tuple (ds.map wG)) 4900000 63:=(Sh.tup (zJ.map g7 wG (n:=253000) (k:=62) fun p hp=>(Sh.tup (((Sh.w (h.dw p hp)).le (EJ _) (Fp _)).cons (((Bd.sh h.jw h.uw p.2 (h.gd p hp)).le (EJ _) (show _<=61 by have:=h.dp p hp;omega)).cons (.zP _)))).le (by have:=h.sz p hp;omega) (by decide))).le (by have:=h.dl;omega) (by decide)
 exact(Sh.tup (a.cons (b.cons (.zP _)))).le (by decide) (by decide)
def yU.repr{S:aq}{js us:Vs}{ds:List (Str×Bd)}{Q:bY}(h:yU js us ds)(q:Q (.str (hdt js ds).shown) S):bZ [jm js ds] S Q:=ol h.sh (by decide) (by decide) q
def xJ.ext{S S':aq}{d l:Addr}(D:xJ S d l)(e:Ext S S'):xJ S' d l:=by
 obtain⟨s,n,f,D⟩:=D
 exact⟨s,n,f,e _ _ D.d,e _ _ D.l,D.s0,D.s1,D.nm,D.lf,D.ln⟩
def kR{α:Type}{xs:List α}{n:Nat}(h:n<=xs.length):dg xs none (some (n:Int))=xs.take n:=by
 unfold dg
 rw[HT.mL,HT.o_,List.drop_zero,Nat.min_eq_left h]
 rfl
def qo{x:PV}{n:Nat}{a b:List PV}(e:be 0 n=a++x::b):x = .int a.length/\a.length < n:=by
 have h1:(be 0 n)[a.length]?=some x:=by rw[e];simp
 unfold be at h1
 rw[E1]at h1
 have hl:a.length < n:=by
  have:=Fl List.length e
  rw[cD,EM,EU]at this
  omega
 rw[GX hl]at h1
 simp at h1
 exact⟨h1.symm,hl⟩
def om{α:Type}{xs:List α}{n:Nat}{v:α}(h:xs[n]?=some v):yt xs (n:Int)=some v:=dS h
noncomputable def Bd.sides:Bd->List Bd
 | .zf a=>[a]
 | .xI a b=>[a,b]
 | .y6 a b=>[a,b]
 | .yS _ _ a b=>[a,b]
 |_=>[]
abbrev iO(w:aQ):Prop:=∀{S:aq} {t:Bd} {Q:bY} {E:de},Q (.tup (t.sides.map Bd.pv)) S->w [t.pv] S Q E
def zj:iO (bI 1 eL):=by
 intro S t Q E k
 unfold eL
 refine jY ?_
 rw[show aF 1 [t.pv]=[some t.pv] from rfl]
 cases t<;>(unfold Bd.pv;walk_at "y"; simp only[lx,aj,v3,lk,c3,al,ic,fB,ag,ap,bj,k_SIDES_FROM,List.find?,sS,String.reduceEq,decide_true,decide_false,Option.map,Option.getD];exact k)
noncomputable def heads:List Str:=["rest","pay","put","use","often","then","either","take"]
def mv:∀z∈heads,PyData.strOk z=true:=by decide +kernel
structure yF (n:Nat) (js us:Vs) (ds:List (Str×Bd)):Prop extends yU js us ds where
 jn:js.Nodup
 dn:(ds.map Prod.fst).Nodup
 dq:∀p∈ds,p.2.dep<=n
noncomputable def Bd.hd:Bd->Str
 | .rest=>"rest" | .pay _ _=>"pay" | .put _ _=>"put" | .use _=>"use" | .zf _=>"often" | .xI _ _=>"then" | .y6 _ _=>"either" | .yS _ _ _ _=>"take"
noncomputable def Bd.tl:Bd->List PV
 | .rest=>[] | .pay x y=>[.tup [.int x,.int y]] | .put z m=>[.str z,.int m] | .use z=>[.str z] | .zf a=>[a.pv] | .xI a b=>[a.pv,b.pv] | .y6 a b=>[a.pv,b.pv] | .yS z m a b=>[.str z,.int m,a.pv,b.pv]
def Bd.zW(t:Bd):t.pv = .tup (.str t.hd::t.tl):=by cases t<;>rfl
def Bd.AM(t:Bd):PyData.strOk t.hd=true:=by cases t<;>exact mv _ (by simp[heads,Bd.hd])
def Bd.A5(t:Bd):t.hd=("often":Str)↔∃a,t = .zf a:=by cases t<;>simp[Bd.hd,aV]
end C
namespace G49
open PySem L2 L3
noncomputable def cE(i:Nat):Stmt:=PySem.Challenge.pw_dueworth_k49_houses_called_anew.main.body.getD i (.Pass ⟨0,0,0,0⟩)
noncomputable def tD:Stmt:=(aY (cE 5)).getD 2 (.Pass ⟨0,0,0,0⟩)
noncomputable def zv:CN:=⟨"with_new_jar","called_anew.<locals>.with_new_jar",bK tD,aY tD,ay tD,"new_jars"⟩
noncomputable def tE:Pos:=⟨14,4,17,67⟩
structure Txt (P:Program) (w:World) (K:Vo) (mg:Vr) (base:Heap) (tc tp:Addr):Prop where
 tb:sN K mg base "called_anew" tc tp
 o_sides_of:bN K mg "sides_of" (cE 2) ["body"]
 o_changed:bN K mg "changed" (cE 3) ["body","change"]
 o_called_anew:bN K mg "called_anew" (cE 5) ["house","jars","deeds"]
 o__law_deal:bN K mg "_law_deal" (cE 7) ["_law_script","_law_base"]
 o__law_draw:bN K mg "_law_draw" (cE 8) ["_law_deal_here","_law_many"]
 o__law_low:bN K mg "_law_low" (cE 9) ["_law_top","_law_bottom"]
 o__law_words:bN K mg "_law_words" (cE 10) ["_law_deal_here","_law_many"]
 o__law_cost:bN K mg "_law_cost" (cE 11) ["_law_deal_here"]
 o__law_leaf:bN K mg "_law_leaf" (cE 12) ["_law_deal_here","_law_jars"]
 o__law_body:bN K mg "_law_body" (cE 13) ["_law_deal_here","_law_jars","_law_left","_law_down"]
 o__law_pass_count:bN K mg "_law_pass_count" (cE 14) ["_law_body_here"]
 o__law_round_count:bN K mg "_law_round_count" (cE 15) ["_law_body_here"]
 o__law_deed_body:bN K mg "_law_deed_body" (cE 16) ["_law_deal_here","_law_jars","_law_size","_law_bound"]
 o__law_house:bN K mg "_law_house" (cE 17) ["_law_deal_here","_law_most_jars","_law_most_deeds","_law_size"]
 o__law_pairs:bN K mg "_law_pairs" (cE 18) ["_law_deal_here","_law_names","_law_words_here"]
 o__law_name:bN K mg "_law_name" (cE 19) ["_law_name_here","_law_pairs_here"]
 o__law_anew:bN K mg "_law_anew" (cE 20) ["_law_body_here","_law_pairs_here"]
 o__law_due:bN K mg "_law_due" (cE 21) ["_law_house_here","_law_jars","_law_deeds"]
 o__law_back:bN K mg "_law_back" (cE 22) ["_law_names","_law_words_here"]
 Ai:mg "dict" = none
 yc:mg "len" = none
 zx:mg "list" = none
 AN:mg "max" = none
 yV:mg "range" = none
 yA:mg "repr" = none
 zk:mg "reversed" = none
 xV:mg "tuple" = none
 Br:mg "zip" = none
 zy:∃a,mg "SIDES_FROM" = some (.ref a)/\KD P w K a (C.k_SIDES_FROM.map fun kv=>(kv.1,V.int kv.2))
section
variable {P:Program} {w:World} {K:Vo} {mg:Vr} {base:Heap} {tc tp:Addr}
def wH:(["side","change"]:Vs).Nodup:=by decide +kernel
def wI:(["jar","new_jars"]:Vs).Nodup:=by decide +kernel
def wJ:(["deed","new_deeds","with_new_jar"]:Vs).Nodup:=by decide +kernel
def ve:(["_law_one"]:Vs).Nodup:=by decide +kernel
def wK:(["_law_k","_law_deal_here","_law_letters"]:Vs).Nodup:=by decide +kernel
def wL:(["_law_j","_law_deal_here","_law_letters"]:Vs).Nodup:=by decide +kernel
def wM:(["_law_k","_law_deal_here","_law_first","_law_jars","_law_many","_law_size","_law_words_here"]:Vs).Nodup:=by decide +kernel
def wN:(["_law_pair","_law_names"]:Vs).Nodup:=by decide +kernel
def wO:(["_law_jar","_law_jars"]:Vs).Nodup:=by decide +kernel
def vf:(["_law_name_here","_law_body_here","_law_deeds","_law_jars"]:Vs).Nodup:=by decide +kernel
def qH:(["_law_old","_law_new"]:Vs).Nodup:=by decide +kernel
def qI:(["_law_name_here","_law_body_here"]:Vs).Nodup:=by decide +kernel
def vg:(["_law_word","_law_house_here","_law_names"]:Vs).Nodup:=by decide +kernel
def gX:aQ:=bI 1 C.eL
def j3(T:Txt P w K mg base tc tp):y2 P w K mg base 1 "sides_of" 1 gX:=jx ["body"] T.o_sides_of (fun _ _ _ _ _ _ _ hr nd=>(ar (aC (bL (af 0) (cr (xv hr T.zy (bH hr (af 0)) (cB bS T.yc (l1 (af 0))))) du)))) rfl
def aR:bt:=(ah (cw (aZ (aj (jM true) (aj al (v3 0) (c3 (.int 0))) (az [(c3 (.str "put")),(c3 (.str "take"))]))) (aN (v3 0)) bd)
  (aN (aj aJ (az [(aj al (v3 0) (c3 (.int 0))),(iJ (v3 1) (aj al (v3 0) (c3 (.int 1))) (aj al (v3 0) (c3 (.int 1))))]) (a9 (v3 0) (jb (c3 (.int 2))) jN))))
def bg:aQ:=bI 2 aR
def bO(T:Txt P w K mg base tc tp):z0 P w K mg base 1 zv 1 bg:=xy ["part","new_jars"] ["part"] (hb:=fun _ _ _ _ _ us hl=>tV (P:=fun us=>bindArgs _ ⟨us,[]⟩=pure ((["part"]:Vs).zip us)) (fun _=>rfl) us hl) (e:=rfl) (fun _ _ _ _ _ _ _ _ hr nd=>(ae (bA (bc (gD (gQ hr)) (bH hr (af 0)) (aH (lc av (l1 av))) rfl) (ar (aC (af 0))) aW)
  (ar (aC (aA aB (aH (lc (bH hr (af 0)) (l1 (kH (nW hr) (af 1) (bH hr (af 0)) (bH hr (af 0)) ⟨rfl,rfl,rfl,rfl⟩)))) (bL (af 0) (cr ac) du))))))
def fK(zQ yd s0:aQ):bt:=(ah (aw 2 (ad zQ [(v3 0)]))
  (ah (aw 3 (a9 (v3 0) jN (jb (aj bG (ag bj [(v3 0)]) (ag bj [(v3 2)])))))
  (aN (nZ 1 zv yd [(aj aJ (v3 3) (ag aG [(aO (aS (v3 2)) (.n 0) cK (ad s0 [(v3 0),(v3 1)]) 1 [1])]))]))))
noncomputable def dZ:Nat->aQ
 |0=>sK
 |n+1=>bI 4 (fK gX bg (dZ n))
def iP:aQ:=dZ 12
def kS(T:Txt P w K mg base tc tp):y2 P w K mg base 13 "changed" 2 iP:=ma (b:=1) (r:=dZ) T.o_changed (fun n R0=>jx ["body","change","sides","words"] T.o_changed (fun _ _ _ _ _ _ _ hr nd=>(ae (s4 2 nd (c4 (j3 T) hr (l1 (af 0))))
  (ae (s4 3 nd (bL (af 0) du (cr (aA en (cB bS T.yc (l1 (af 0))) (cB bS T.yc (l1 (af 2)))))))
  (ar (aC (cV 1 (bO T) hr (l1 (aA aB (af 3) (cT bM T.xV (l1 (nY ["change"] 1 [1] ["side","change"] (b7 (af 2)) (fun _=>(gn 0 wH)) (fun _=>dC) (fun _=>(c4 R0 hr (lc (af 0) (l1 (af 1)))))))))))))))) rfl) rfl rfl 12
def cu(z_:aQ):bt:=(ah (aw 6 (ag dX [(v3 1)]))
  (ah (aw 3 (ag dX [(v3 2)]))
  (ah (u6 "called_anew" tE zv 6 4)
  (ah (aw 5 (ag aG [(aO (aS (aj al (v3 0) (c3 (.int 0)))) (.n 0) cK (iJ (v3 1) (v3 0) (v3 0)) 1 [6])]))
  (aN (az [(v3 5),(ag aG [(aO (aS (aj al (v3 0) (c3 (.int 1)))) (.n 0) cK (az [(iJ (v3 1) (aj al (v3 0) (c3 (.int 0))) (aj al (v3 0) (c3 (.int 0)))),(ad z_ [(aj al (v3 0) (c3 (.int 1))),(v3 2)])]) 1 [3,4])])]))))))
def eu:aQ:=bI 7 (cu iP)
def bh(T:Txt P w K mg base tc tp):y2 P w K mg base 14 "called_anew" 3 eu:=wC ["house","jars","deeds","new_deeds","with_new_jar","names","new_jars"] T.o_called_anew T.tb (fun _ _ _ _ _ _ hr nd=>(n6 (s4 6 nd (cT (lB rfl) T.Ai (l1 (af 1))))
  (n6 (s4 3 nd (cT (lB rfl) T.Ai (l1 (af 2))))
  (u7 (nd:=zv) (i:=6) (j:=4) T.tb rfl nd (wB (ae (s4 5 nd (cT bM T.xV (l1 (nY ["new_jars"] 1 [6] ["jar","new_jars"] (b7 (bH hr (af 0))) (fun _=>(gn 0 wI)) (fun _=>dC) (fun _=>(kH (nW hr) (af 1) (af 0) (af 0) ⟨rfl,rfl,rfl,rfl⟩))))))
  (ar (aC (aH (lc (af 5) (l1 (cT bM T.xV (l1 (nY ["with_new_jar","new_deeds"] 1 [3,4] ["deed","new_deeds","with_new_jar"] (b7 (bH hr (af 0))) (fun _=>(gn 0 wJ)) (fun _=>dC) (fun _=>(aH (lc (kH (nW hr) (af 1) (bH hr (af 0)) (bH hr (af 0)) ⟨rfl,rfl,rfl,rfl⟩) (l1 (c4 (kS T) hr (lc (bH hr (af 0)) (l1 (af 2)))))))))))))))))))))) rfl
def fW:aQ:=bI 5 C.dF
def jo(T:Txt P w K mg base tc tp):y2 P w K mg base 1 "_law_deal" 2 fW:=jx ["_law_script","_law_base","_law_one","_law_some","_law_number"] T.o__law_deal (fun _ _ _ _ _ _ _ hr nd=>(ae (wA [] 1 [] ["_law_one"] 3 nd (b7 (bL (af 0) (cr (af 1)) (cr ac))) (fun _=>(gn 0 ve)) (fun _=>dC) (fun _=>(cB (nI rfl) T.AN (lc (af 0) (l1 (aA en ac (af 0)))))))
  (ae (s4 4 nd (aA aB ac (af 1)))
  (ae (jP F9 rfl (b7 (af 3)) (gn 2 nd) (ar (s4 4 nd (aA dE (aA aB (aA eG (af 4) ac) (aA dE (af 2) ac)) ac))))
  (ar (aC (sI (je av (af 4) (je av ac (je av (nT l0 rfl (nY [] 1 [] ["_law_one"] (b7 (af 3)) (fun _=>(gn 0 ve)) (fun _=>(nS (bc wx (af 0) (aA u5 ac ac) (bb _)))) (fun _=>(af 0))) rfl T.zx rfl T.zk) sH)))))))))) rfl
def w__law_draw:aQ:=bI 5 C.dG
def ai(T:Txt P w K mg base tc tp):y2 P w K mg base 1 "_law_draw" 2 w__law_draw:=jx ["_law_deal_here","_law_many","_law_number","_law_one","_law_other"] T.o__law_draw (fun _ _ _ _ _ _ _ hr nd=>(ae (jd F9 (my (nE (jy hr (fV hr (af 0) av) ac) (kB (bc kI (cB bS T.yc (l1 (fV hr (af 0) av))) ac (bb _))))) (ar (jO (nW hr) (wy sM uY (fV hr (af 0) av)) (af 0) av)))
  (ae (s4 2 nd (fV hr (af 0) av))
  (ae (bA (bc kI (af 2) ac (bb _)) (ae (jO (nW hr) (aA jf (af 2) (af 1)) (af 0) av)
  (ar (aC (aA dE (af 2) (af 1))))) aW)
  (ae (s4 3 nd (aA dE (aA aB (aA eG (fV hr (af 0) av) ac) ac) ac))
  (ae (jO (nW hr) (aA dE (aA aB (aA eG (af 3) ac) ac) ac) (af 0) av)
  (ae (s4 4 nd (aA dE (aA eG (fV hr (af 0) av) (fV hr (af 0) av)) ac))
  (ar (aC (aA dE (aA aB (aA eG (aA dE (aA eG (af 3) (af 3)) ac) ac) (af 4)) (af 1))))))))))) rfl
def eM:aQ:=bI 4 C.eJ
def j5(T:Txt P w K mg base tc tp):y2 P w K mg base 1 "_law_low" 2 eM:=jx ["_law_top","_law_bottom","_law_one","_law_other"] T.o__law_low (fun _ _ _ _ _ _ _ hr nd=>(ae (lv (i:=2) (j:=3) rfl nd rfl rfl (by decide) rfl rfl (lc (cB (nI rfl) T.AN (lc (af 0) (l1 (aA en ac (af 0))))) (l1 (af 1))))
  (ae (jd F9 (bc kI (af 3) ac (bb _)) (ar (lv (i:=2) (j:=3) rfl nd rfl rfl (by decide) rfl rfl (lc (af 3) (l1 (aA dE (af 2) (af 3)))))))
  (ar (aC (aH (lc (aA jf (af 0) (af 2)) (l1 (aA jf (af 1) (af 2)))))))))) rfl
def bP:aQ:=bI 11 (C.cL w__law_draw)
def eA(T:Txt P w K mg base tc tp):y2 P w K mg base 2 "_law_words" 2 bP:=jx ["_law_deal_here","_law_many","_law_letters","_law_taken","_law_k","_law_core","_law_at","_law_turn","_law_near","_law_found","_law_name_here"] T.o__law_words (fun _ _ _ _ _ _ _ hr nd=>(ae (s4 2 nd av)
  (ae (s4 3 nd (fQ (lc av (lc av (lc av (lc av (lc av (lc av (lc av (lc av (lc av (l1 av))))))))))))
  (ae (s4 5 nd (tU lz nN av (l1 (nY ["_law_letters","_law_deal_here"] 1 [0,2] ["_law_k","_law_deal_here","_law_letters"] (dy rfl rfl T.yV (l1 (c4 (ai T) hr (lc (af 0) (l1 ac))))) (fun _=>(gn 0 wK)) (fun _=>dC) (fun _=>(fV hr (af 2) (c4 (ai T) hr (lc (af 1) (l1 ac)))))))))
  (ae (pX (i:=6) (j:=7) (k:=8) rfl nd rfl rfl rfl rfl rfl rfl (aH (lc (c4 (ai T) hr (lc (af 0) (l1 (aA aB (cB bS T.yc (l1 (af 5))) ac)))) (lc (c4 (ai T) hr (lc (af 0) (l1 ac))) (l1 (uM (qF (c_ hr)) (c4 (ai T) hr (lc (af 0) (l1 ac))) ac (bb _)))))))
  (ae (s4 9 nd (fQ jK))
  (ae (jP F9 rfl (dy rfl rfl T.yV (l1 (af 1))) (gn 4 nd) (ae (s4 10 nd (aA aB (aA aB (bL (af 5) du (cr (af 6))) (fV hr (af 2) (aA dE (aA aB (af 7) (af 4)) ac))) (bL (af 5) (cr (af 6)) du)))
  (ae (bA (uO (uN (af 8))) (ar (s4 10 nd (tU lz nN av (l1 (nY ["_law_letters","_law_deal_here"] 1 [0,2] ["_law_j","_law_deal_here","_law_letters"] (dy rfl rfl T.yV (l1 (aA aB ac (c4 (ai T) hr (lc (af 0) (l1 ac)))))) (fun _=>(gn 0 wL)) (fun _=>dC) (fun _=>(fV hr (af 2) (c4 (ai T) hr (lc (af 1) (l1 ac)))))))))) aW)
  (ae (jd F9 (my (hW (bc (lq (gQ hr)) (af 10) (af 3) rfl) (eW (bc (lq (gQ hr)) (af 10) (af 9) rfl)))) (ar (s4 10 nd (aA aB (fV hr (af 2) (aA dE (aA aB (tU nX pW (af 2) (l1 (bH hr (af 10)))) ac) ac)) (bL (af 10) (cr ac) du)))))
  (ar (kF (tU md nM (af 9) (l1 (af 10)))))))))
  (ar (aC (af 9)))))))))) rfl
def dM:aQ:=bI 2 (C.dH w__law_draw eM)
def jp(T:Txt P w K mg base tc tp):y2 P w K mg base 2 "_law_cost" 1 dM:=jx ["_law_deal_here","_law_form"] T.o__law_cost (fun _ _ _ _ _ _ _ hr nd=>(ae (s4 1 nd (c4 (ai T) hr (lc (af 0) (l1 ac))))
  (ae (bA (jy hr (af 1) ac) (ar (aC (aH (lc ac (l1 ac))))) aW)
  (ae (bA (bc l9 (af 1) ac (bb _)) (ar (aC (aH (lc (aA aB ac (c4 (ai T) hr (lc (af 0) (l1 ac)))) (l1 ac))))) aW)
  (ar (aC (c4 (j5 T) hr (lc (c4 (ai T) hr (lc (af 0) (l1 ac))) (l1 (aA aB ac (c4 (ai T) hr (lc (af 0) (l1 ac))))))))))))) rfl
def b_:aQ:=bI 4 (C.dI w__law_draw dM)
def cU(T:Txt P w K mg base tc tp):y2 P w K mg base 3 "_law_leaf" 2 b_:=jx ["_law_deal_here","_law_jars","_law_form","_law_many"] T.o__law_leaf (fun _ _ _ _ _ _ _ hr nd=>(ae (s4 2 nd (c4 (ai T) hr (lc (af 0) (l1 ac))))
  (ae (bA (jy hr (af 2) ac) (ar (aC (aH (l1 av)))) aW)
  (ae (bA (my (hW (bc l9 (af 2) ac (bb _)) (eW (jy hr (cB bS T.yc (l1 (af 1))) ac)))) (ar (aC (aH (lc av (l1 (c4 (jp T) hr (l1 (af 0)))))))) aW)
  (ae (s4 3 nd (fV hr (fQ (lc ac (lc ac (l1 (aA aB ac (c4 (ai T) hr (lc (af 0) (l1 ac)))))))) (c4 (ai T) hr (lc (af 0) (l1 ac)))))
  (ar (aC (aH (lc av (lc (fV hr (af 1) (c4 (ai T) hr (lc (af 0) (l1 (cB bS T.yc (l1 (af 1))))))) (l1 (af 3)))))))))))) rfl
noncomputable def cb:Nat->aQ
 |0=>sK
 |n+1=>bI 8 (C.dJ w__law_draw b_ (cb n))
def fX:aQ:=cb 12
def jq(T:Txt P w K mg base tc tp):y2 P w K mg base 15 "_law_body" 4 fX:=ma (b:=3) (r:=cb) T.o__law_body (fun n R0=>jx ["_law_deal_here","_law_jars","_law_left","_law_down","_law_form","_law_one","_law_other","_law_many"] T.o__law_body (fun _ _ _ _ _ _ _ hr nd=>(ae (s4 4 nd (c4 (ai T) hr (lc (af 0) (l1 ac))))
  (ae (bA (my (hW (jy hr (af 3) ac) (hW (bc l9 (bH hr (af 2)) ac (bb _)) (eW (bc l9 (af 4) ac (bb _)))))) (ar (aC (c4 (cU T) hr (lc (af 0) (l1 (af 1)))))) aW)
  (ae (bA (bc l9 (af 4) ac (bb _)) (ae (jO (nW hr) (aA en (bH hr (af 2)) ac) (af 2) ac)
  (ar (aC (aH (lc av (l1 (c4 R0 hr (lc (af 0) (lc (af 1) (lc (af 2) (l1 (aA en (af 3) ac)))))))))))) aW)
  (ae (jO (nW hr) (aA en (bH hr (af 2)) ac) (af 2) ac)
  (ae (s4 5 nd (c4 R0 hr (lc (af 0) (lc (af 1) (lc (af 2) (l1 (aA en (af 3) ac)))))))
  (ae (s4 6 nd (c4 R0 hr (lc (af 0) (lc (af 1) (lc (af 2) (l1 (aA en (af 3) ac)))))))
  (ae (bA (bc l9 (af 4) ac (bb _)) (ar (aC (aH (lc av (lc (af 5) (l1 (af 6))))))) aW)
  (ae (bA (my (hW (jy hr (af 4) ac) (eW (jy hr (cB bS T.yc (l1 (af 1))) ac)))) (ar (aC (aH (lc av (lc (af 5) (l1 (af 6))))))) aW)
  (ae (s4 7 nd (fV hr (fQ (lc ac (lc ac (lc ac (l1 (aA aB ac (c4 (ai T) hr (lc (af 0) (l1 ac))))))))) (c4 (ai T) hr (lc (af 0) (l1 ac)))))
  (ar (aC (aH (lc av (lc (fV hr (af 1) (c4 (ai T) hr (lc (af 0) (l1 (cB bS T.yc (l1 (af 1))))))) (lc (af 7) (lc (af 5) (l1 (af 6))))))))))))))))))) rfl) rfl rfl 12
noncomputable def a_:Nat->aQ
 |0=>sK
 |n+1=>bI 1 (C.bu (a_ n))
def ba:aQ:=a_ 12
def bU(T:Txt P w K mg base tc tp):y2 P w K mg base 12 "_law_pass_count" 1 ba:=ma (b:=0) (r:=a_) T.o__law_pass_count (fun n R0=>jx ["_law_body_here"] T.o__law_pass_count (fun _ _ _ _ _ _ _ hr nd=>(ae (bA (jy hr (bH hr (af 0)) av) (ar (aC (aA eG (c4 R0 hr (l1 (bH hr (af 0)))) (c4 R0 hr (l1 (bH hr (af 0))))))) aW)
  (ae (bA (my (hW (jy hr (bH hr (af 0)) av) (eW (jy hr (bH hr (af 0)) av)))) (ar (aC (aA aB (c4 R0 hr (l1 (fV hr (af 0) (kC eF ac)))) (c4 R0 hr (l1 (fV hr (af 0) (kC eF ac))))))) aW)
  (ar (aC ac))))) rfl) rfl rfl 12
noncomputable def a8:Nat->aQ
 |0=>sK
 |n+1=>bI 1 (C.bp ba (a8 n))
def bV:aQ:=a8 12
def d_(T:Txt P w K mg base tc tp):y2 P w K mg base 24 "_law_round_count" 1 bV:=ma (b:=12) (r:=a8) T.o__law_round_count (fun n R0=>jx ["_law_body_here"] T.o__law_round_count (fun _ _ _ _ _ _ _ hr nd=>(ae (bA (jy hr (bH hr (af 0)) av) (ar (aC (aA aB (c4 (bU T) hr (l1 (bH hr (af 0)))) (c4 R0 hr (l1 (bH hr (af 0))))))) aW)
  (ae (bA (bc (lq (gQ hr)) (bH hr (af 0)) (aH (lc av (lc av (l1 av)))) rfl) (ar (aC (aA aB (c4 R0 hr (l1 (fV hr (af 0) (kC eF ac)))) (c4 R0 hr (l1 (fV hr (af 0) (kC eF ac))))))) aW)
  (ar (aC ac))))) rfl) rfl rfl 12
def bD:aQ:=bI 5 (C.bB fX ba bV b_)
def fe(T:Txt P w K mg base tc tp):y2 P w K mg base 25 "_law_deed_body" 4 bD:=jx ["_law_deal_here","_law_jars","_law_size","_law_bound","_law_body_here"] T.o__law_deed_body (fun _ _ _ _ _ _ _ hr nd=>(ae (s4 4 nd (c4 (jq T) hr (lc (af 0) (lc (af 1) (lc (fQ (l1 (aA en (af 2) ac))) (l1 ac))))))
  (ae (bA (bc kI (aA aB (c4 (bU T) hr (l1 (af 4))) (c4 (d_ T) hr (l1 (af 4)))) (af 3) (bb _)) (ar (s4 4 nd (aH (lc av (lc (aH (lc av (l1 (c4 (cU T) hr (lc (af 0) (l1 (af 1))))))) (l1 (c4 (cU T) hr (lc (af 0) (l1 (af 1)))))))))) aW)
  (ar (aC (af 4)))))) rfl
def fg:aQ:=bI 9 (C.cM bP w__law_draw bD)
def ie(T:Txt P w K mg base tc tp):y2 P w K mg base 26 "_law_house" 4 fg:=jx ["_law_deal_here","_law_most_jars","_law_most_deeds","_law_size","_law_words_here","_law_jars","_law_first","_law_many","_law_deeds"] T.o__law_house (fun _ _ _ _ _ _ _ hr nd=>(ae (s4 4 nd (c4 (eA T) hr (lc (af 0) (l1 ac))))
  (ae (s4 5 nd (cT bM T.xV (l1 (bL (af 4) du (cr (c4 (ai T) hr (lc (af 0) (l1 (aA aB (af 1) ac)))))))))
  (ae (s4 6 nd (fV hr (fQ (lc ac (l1 ac))) (c4 (ai T) hr (lc (af 0) (l1 ac)))))
  (ae (s4 7 nd (aA aB ac (c4 (ai T) hr (lc (af 0) (l1 (af 2))))))
  (ae (wA ["_law_words_here","_law_size","_law_many","_law_jars","_law_first","_law_deal_here"] 1 [0,6,5,7,3,4] ["_law_k","_law_deal_here","_law_first","_law_jars","_law_many","_law_size","_law_words_here"] 8 nd (dy rfl rfl T.yV (l1 (af 7))) (fun _=>(gn 0 wM)) (fun _=>dC) (fun _=>(aH (lc (fV hr (af 6) (aA aB (af 2) (af 0))) (l1 (c4 (fe T) hr (lc (af 1) (lc (af 3) (lc (af 5) (l1 (aA jf ac (af 4))))))))))))
  (ar (aC (aH (lc (af 5) (l1 (cT bM T.xV (l1 (af 8)))))))))))))) rfl
def cW(xE:aQ):bt:=(ah (aw 3 (eV []))
  (ah (fG (aS (aj aJ (v3 1) (a9 (v3 2) jN (jb (c3 (.int 1)))))) (.n 4) (ah (aw 5 (ad xE [(v3 0),(c3 (.int 5))]))
  (ah (aw 6 (aj al (v3 2) (aj aJ (c3 (.int 1)) (ad xE [(v3 0),(aj bG (ag bj [(v3 2)]) (c3 (.int 1)))]))))
  (ah (cw (hU (aZ (aj (bR false) (v3 5) (c3 (.int 0)))) (aZ (aj jv (ag bj [(v3 1)]) (c3 (.int 0))))) (aw 6 (aj al (v3 1) (ad xE [(v3 0),(ag bj [(v3 1)])]))) bd)
  (cw (hV (aZ (aj jv (v3 5) (c3 (.int 1)))) (aZ (aj (bR false) (v3 5) (c3 (.int 0))))) (cZ (iD "list" b8 (v3 3) [(ad xE [(v3 0),(aj aJ (ag bj [(v3 3)]) (c3 (.int 1)))]),(az [(v3 4),(v3 6)])])) bd)))))
  (ah (cw (hU (aZ (aj jv (ag bj [(v3 1)]) (c3 (.int 1)))) (aZ (aj (bR false) (ad xE [(v3 0),(c3 (.int 3))]) (c3 (.int 0))))) (ah (aw 3 (aj aJ (eV [(az [(aj al (v3 1) (c3 (.int 0))),(aj al (v3 1) (lp eX (c3 (.int 1))))])]) (aO (aS (v3 3)) (.n 0) (aZ (aj (jM true) (aj al (v3 0) (c3 (.int 0))) (az [(aj al (v3 1) (c3 (.int 0))),(aj al (v3 1) (lp eX (c3 (.int 1))))]))) (v3 0) 1 [1])))
  (cZ (iD "list" b8 (v3 3) [(ad xE [(v3 0),(aj aJ (ag bj [(v3 3)]) (c3 (.int 1)))]),(az [(aj al (v3 1) (lp eX (c3 (.int 1)))),(aj al (v3 1) (c3 (.int 0)))])]))) bd)
  (aN (ag aG [(v3 3)])))))
def fh:aQ:=bI 7 (cW w__law_draw)
def eB(T:Txt P w K mg base tc tp):y2 P w K mg base 2 "_law_pairs" 3 fh:=jx ["_law_deal_here","_law_names","_law_words_here","_law_found","_law_name_here","_law_form","_law_other"] T.o__law_pairs (fun _ _ _ _ _ _ _ hr nd=>(ae (s4 3 nd (fQ jK))
  (ae (jP F9 rfl (b7 (aA aB (af 1) (bL (af 2) du (cr ac)))) (gn 4 nd) (ae (s4 5 nd (c4 (ai T) hr (lc (af 0) (l1 ac))))
  (ae (s4 6 nd (fV hr (af 2) (aA aB ac (c4 (ai T) hr (lc (af 0) (l1 (aA en (cB bS T.yc (l1 (af 2))) ac)))))))
  (ae (bA (my (nE (jy hr (af 5) ac) (kB (bc kI (cB bS T.yc (l1 (af 1))) ac (bb _))))) (ar (s4 6 nd (fV hr (af 1) (c4 (ai T) hr (lc (af 0) (l1 (cB bS T.yc (l1 (af 1))))))))) aW)
  (ar (bA (my (hW (bc kI (af 5) ac (bb _)) (eW (jy hr (af 5) ac)))) (ar (kF (tU iK jS (af 3) (lc (c4 (ai T) hr (lc (af 0) (l1 (aA aB (cB bS T.yc (l1 (af 3))) ac)))) (l1 (aH (lc (af 4) (l1 (af 6))))))))) aW))))))
  (ae (bA (my (nE (bc kI (cB bS T.yc (l1 (af 1))) ac (bb _)) (kB (jy hr (c4 (ai T) hr (lc (af 0) (l1 ac))) ac)))) (ae (s4 3 nd (aA aB (fQ (l1 (aH (lc (bH hr (af 1)) (l1 (fV hr (af 1) (kC eF ac))))))) (nY ["_law_names"] 1 [1] ["_law_pair","_law_names"] (b7 (af 3)) (fun _=>(gn 0 wN)) (fun _=>(nS (bc (gD (gQ hr)) (bH hr (af 0)) (aH (lc (bH hr (af 1)) (l1 (fV hr (af 1) (kC eF ac))))) rfl))) (fun _=>(af 0)))))
  (ar (kF (tU iK jS (af 3) (lc (c4 (ai T) hr (lc (af 0) (l1 (aA aB (cB bS T.yc (l1 (af 3))) ac)))) (l1 (aH (lc (fV hr (af 1) (kC eF ac)) (l1 (bH hr (af 1))))))))))) aW)
  (ar (aC (cT bM T.xV (l1 (af 3))))))))) rfl
def dN:bt:=(ah (fG (aS (v3 1)) (.tp (.cons (.n 2) (.cons (.n 3) .nil))) (cw (aZ (aj (bR false) (v3 2) (v3 0))) (aN (v3 3)) bd))
  (aN (v3 0)))
def dO:aQ:=bI 4 dN
def bQ(T:Txt P w K mg base tc tp):y2 P w K mg base 1 "_law_name" 2 dO:=jx ["_law_name_here","_law_pairs_here","_law_old","_law_new"] T.o__law_name (fun _ _ _ _ _ _ _ hr nd=>(ae (jP F9 rfl (b7 (af 1)) (vH rfl (dv (gn 2 nd) (dv (gn 3 nd) lw))) (ar (bA (jy hr (af 2) (af 0)) (ar (aC (af 3))) aW)))
  (ar (aC (af 0))))) rfl
def dP(xW s0:aQ):bt:=(ah (cw (aZ (aj (bR false) (aj al (v3 0) (c3 (.int 0))) (c3 (.str "put")))) (aN (az [(c3 (.str "put")),(ad xW [(aj al (v3 0) (c3 (.int 1))),(v3 1)]),(aj al (v3 0) (c3 (.int 2)))])) bd)
  (ah (cw (aZ (aj (bR false) (aj al (v3 0) (c3 (.int 0))) (c3 (.str "take")))) (ah (aw 2 (az [(ad s0 [(aj al (v3 0) (c3 (.int 3))),(v3 1)]),(ad s0 [(aj al (v3 0) (c3 (.int 4))),(v3 1)])]))
  (aN (aj aJ (az [(c3 (.str "take")),(ad xW [(aj al (v3 0) (c3 (.int 1))),(v3 1)]),(aj al (v3 0) (c3 (.int 2)))]) (v3 2)))) bd)
  (ah (cw (aZ (aj (jM false) (aj al (v3 0) (c3 (.int 0))) (az [(c3 (.str "then")),(c3 (.str "either"))]))) (aN (az [(aj al (v3 0) (c3 (.int 0))),(ad s0 [(aj al (v3 0) (c3 (.int 1))),(v3 1)]),(ad s0 [(aj al (v3 0) (c3 (.int 2))),(v3 1)])])) bd)
  (ah (cw (aZ (aj (bR false) (aj al (v3 0) (c3 (.int 0))) (c3 (.str "often")))) (aN (az [(c3 (.str "often")),(ad s0 [(aj al (v3 0) (c3 (.int 1))),(v3 1)])])) bd)
  (aN (v3 0))))))
noncomputable def cg:Nat->aQ
 |0=>sK
 |n+1=>bI 3 (dP dO (cg n))
def fY:aQ:=cg 12
def jr(T:Txt P w K mg base tc tp):y2 P w K mg base 13 "_law_anew" 2 fY:=ma (b:=1) (r:=cg) T.o__law_anew (fun n R0=>jx ["_law_body_here","_law_pairs_here","_law_sides"] T.o__law_anew (fun _ _ _ _ _ _ _ hr nd=>(ae (bA (jy hr (bH hr (af 0)) av) (ar (aC (aH (lc av (lc (c4 (bQ T) hr (lc (bH hr (af 0)) (l1 (af 1)))) (l1 (bH hr (af 0)))))))) aW)
  (ae (bA (jy hr (bH hr (af 0)) av) (ae (s4 2 nd (aH (lc (c4 R0 hr (lc (bH hr (af 0)) (l1 (af 1)))) (l1 (c4 R0 hr (lc (bH hr (af 0)) (l1 (af 1))))))))
  (ar (aC (aA aB (aH (lc av (lc (c4 (bQ T) hr (lc (bH hr (af 0)) (l1 (af 1)))) (l1 (bH hr (af 0)))))) (af 2))))) aW)
  (ae (bA (bc (lq (gQ hr)) (bH hr (af 0)) (aH (lc av (l1 av))) rfl) (ar (aC (aH (lc (bH hr (af 0)) (lc (c4 R0 hr (lc (bH hr (af 0)) (l1 (af 1)))) (l1 (c4 R0 hr (lc (bH hr (af 0)) (l1 (af 1)))))))))) aW)
  (ae (bA (jy hr (bH hr (af 0)) av) (ar (aC (aH (lc av (l1 (c4 R0 hr (lc (bH hr (af 0)) (l1 (af 1))))))))) aW)
  (ar (aC (af 0)))))))) rfl) rfl rfl 12
def eN(xW zH:aQ):bt:=(ah (aw 3 (ag aG [(aO (aS (aj al (v3 0) (c3 (.int 0)))) (.n 0) cK (ad xW [(v3 0),(v3 1)]) 1 [1])]))
  (aN (az [(v3 3),(ag aG [(aO (aS (aj al (v3 0) (c3 (.int 1)))) (.tp (.cons (.n 0) (.cons (.n 1) .nil))) cK (az [(ad xW [(v3 0),(v3 2)]),(ad zH [(v3 1),(v3 3)])]) 2 [2,1])])])))
def gY:aQ:=bI 4 (eN dO fY)
def fZ(T:Txt P w K mg base tc tp):y2 P w K mg base 14 "_law_due" 3 gY:=jx ["_law_house_here","_law_jars","_law_deeds","_law_row"] T.o__law_due (fun _ _ _ _ _ _ _ hr nd=>(ae (s4 3 nd (cT bM T.xV (l1 (nY ["_law_jars"] 1 [1] ["_law_jar","_law_jars"] (b7 (bH hr (af 0))) (fun _=>(gn 0 wO)) (fun _=>dC) (fun _=>(c4 (bQ T) hr (lc (af 0) (l1 (af 1)))))))))
  (ar (aC (aH (lc (af 3) (l1 (cT bM T.xV (l1 (nY ["_law_jars","_law_deeds"] 2 [2,1] ["_law_name_here","_law_body_here","_law_deeds","_law_jars"] (b7 (bH hr (af 0))) (fun _=>(vH rfl (dv (gn 0 vf) (dv (gn 1 vf) lw)))) (fun _=>dC) (fun _=>(aH (lc (c4 (bQ T) hr (lc (af 0) (l1 (af 2)))) (l1 (c4 (jr T) hr (lc (af 1) (l1 (af 3)))))))))))))))))) rfl
def dQ:bt:=(ah (aw 2 (kO (v3 0) (v3 1)))
  (aN (az [(v3 2),(ag aG [(aO (aS (v3 2)) (.tp (.cons (.n 0) (.cons (.n 1) .nil))) cK (az [(v3 1),(v3 0)]) 2 [])])])))
def f7:aQ:=bI 3 dQ
def fi(T:Txt P w K mg base tc tp):y2 P w K mg base 1 "_law_back" 2 f7:=jx ["_law_names","_law_words_here","_law_away"] T.o__law_back (fun _ _ _ _ _ _ _ hr nd=>(ae (s4 2 nd (qi rfl rfl rfl rfl T.xV rfl T.Br (lc (af 0) (l1 (af 1)))))
  (ar (aC (aH (lc (af 2) (l1 (cT bM T.xV (l1 (nY [] 2 [] ["_law_old","_law_new"] (b7 (af 2)) (fun _=>(vH rfl (dv (gn 0 qH) (dv (gn 1 qH) lw)))) (fun _=>dC) (fun _=>(aH (lc (af 1) (l1 (af 0))))))))))))))) rfl
def on(zI zz yz yW zm xQ y7:aQ):bt:=(ah (aw 1 (ad zI [(v3 0),(c3 (.int 0))]))
  (ah (fG (gK (c3 (.int 2))) (.n 2) (ah (aw 3 (ad zz [(v3 1),(c3 (.int 4)),(c3 (.int 4)),(c3 (.int 14))]))
  (ah (aw 4 (ag bZ [(v3 3)]))
  (ah (aw 5 (aO (aS (aj al (v3 3) (c3 (.int 1)))) (.tp (.cons (.n 0) (.cons (.n 1) .nil))) cK (v3 0) 2 []))
  (ah (aw 6 (aO (aS (ad yz [(v3 1),(c3 (.int 16))])) (.n 0) (aZ (aj (jM true) (v3 0) (aj aJ (ag eI [(aj al (v3 1) (c3 (.int 0)))]) (v3 2)))) (v3 0) 1 [3,5]))
  (ah (h_ 7 8 (ad yW [(v3 1),(ag eI [(aj al (v3 3) (c3 (.int 0)))]),(v3 6)]) (ad yW [(v3 1),(v3 5),(v3 6)]))
  (ah (aw 9 (ag bZ [(ad zm [(v3 3),(v3 7),(v3 8)])]))
  (ah (cw (hV (aZ (aj (bR true) (ag bZ [(ad xQ [(v3 3),(v3 7),(v3 8)])]) (v3 9))) (aZ (aj (bR true) (ag bZ [(ad xQ [(v3 3),(az []),(az [])])]) (v3 4)))) (aN (c3 (.bl false))) bd)
  (ah (h_ 10 11 (ad y7 [(aj al (v3 3) (c3 (.int 0))),(v3 6)]) (ad y7 [(v3 5),(gN (v3 6))]))
  (ah (aw 12 (ad xQ [(v3 3),(aj al (v3 10) (c3 (.int 0))),(aj al (v3 11) (c3 (.int 0)))]))
  (ah (cw (hV (aZ (aj (bR true) (ag bZ [(ad xQ [(v3 12),(aj al (v3 10) (c3 (.int 1))),(aj al (v3 11) (c3 (.int 1)))])]) (v3 4))) (aZ (aj (bR true) (ag bZ [(v3 12)]) (ag bZ [(ad zm [(v3 3),(aj al (v3 10) (c3 (.int 0))),(aj al (v3 11) (c3 (.int 0)))])])))) (aN (c3 (.bl false))) bd)
  (cw (hV (aZ (aj (bR true) (ag bZ [(ad xQ [(v3 3),(v3 7),(v3 8)])]) (v3 9))) (aZ (aj (bR true) (ag bZ [(v3 3)]) (v3 4)))) (aN (c3 (.bl false))) bd))))))))))))
  (aN (c3 (.bl true)))))
def j6:aQ:=bI 13 (on fW fg bP fh gY eu f7)
def tF(T:Txt P w K mg base tc tp){f:Addr}{fd:FuncData}(O:vK K mg "law" (cE 23) ["_law_script"] f fd):A2 P w K mg base 27 f fd ["_law_script"] j6:=xu ["_law_script","_law_deal_here","_law_k","_law_house_here","_law_kept","_law_names","_law_words_here","_law_jars","_law_deeds","_law_due_here","_law_one","_law_other","_law_there"] O (fun _ _ _ _ _ _ _ hr nd=>(ae (s4 1 nd (c4 (jo T) hr (lc (af 0) (l1 ac))))
  (ae (jP F9 rfl (dy rfl rfl T.yV (l1 ac)) (gn 2 nd) (ae (s4 3 nd (c4 (ie T) hr (lc (af 1) (lc ac (lc ac (l1 ac))))))
  (ae (s4 4 nd (cB (cH (c_ hr) hr.gd) T.yA (l1 (af 3))))
  (ae (s4 5 nd (nY [] 2 [] ["_law_name_here","_law_body_here"] (b7 (bH hr (af 3))) (fun _=>(vH rfl (dv (gn 0 qI) (dv (gn 1 qI) lw)))) (fun _=>dC) (fun _=>(af 0))))
  (ae (wA ["_law_names","_law_house_here"] 1 [3,5] ["_law_word","_law_house_here","_law_names"] 6 nd (b7 (c4 (eA T) hr (lc (af 1) (l1 ac)))) (fun _=>(gn 0 vg)) (fun _=>(nS (bc (gD (gQ hr)) (af 0) (aA aB (cT (nJ rfl) T.zx (l1 (bH hr (af 1)))) (af 2)) rfl))) (fun _=>(af 0)))
  (ae (lv (i:=7) (j:=8) rfl nd rfl rfl (by decide) rfl rfl (lc (c4 (eB T) hr (lc (af 1) (lc (cT (nJ rfl) T.zx (l1 (bH hr (af 3)))) (l1 (af 6))))) (l1 (c4 (eB T) hr (lc (af 1) (lc (af 5) (l1 (af 6))))))))
  (ae (s4 9 nd (cB (cH (c_ hr) hr.gd) T.yA (l1 (c4 (fZ T) hr (lc (af 3) (lc (af 7) (l1 (af 8))))))))
  (ae (bA (my (hW (tT hr (cB (cH (c_ hr) hr.gd) T.yA (l1 (c4 (bh T) hr (lc (af 3) (lc (af 7) (l1 (af 8))))))) (af 9)) (eW (tT hr (cB (cH (c_ hr) hr.gd) T.yA (l1 (c4 (bh T) hr (lc (af 3) (lc (aH jK) (l1 (aH jK))))))) (af 4))))) (ar (aC pM)) aW)
  (ae (lv (i:=10) (j:=11) rfl nd rfl rfl (by decide) rfl rfl (lc (c4 (fi T) hr (lc (bH hr (af 3)) (l1 (af 6)))) (l1 (c4 (fi T) hr (lc (af 5) (l1 (nT pF rfl (af 6) rfl T.zx rfl T.zk)))))))
  (ae (s4 12 nd (c4 (bh T) hr (lc (af 3) (lc (bH hr (af 10)) (l1 (bH hr (af 11)))))))
  (ae (bA (my (hW (tT hr (cB (cH (c_ hr) hr.gd) T.yA (l1 (c4 (bh T) hr (lc (af 12) (lc (bH hr (af 10)) (l1 (bH hr (af 11)))))))) (af 4)) (eW (tT hr (cB (cH (c_ hr) hr.gd) T.yA (l1 (af 12))) (cB (cH (c_ hr) hr.gd) T.yA (l1 (c4 (fZ T) hr (lc (af 3) (lc (bH hr (af 10)) (l1 (bH hr (af 11)))))))))))) (ar (aC pM)) aW)
  (ar (bA (my (hW (tT hr (cB (cH (c_ hr) hr.gd) T.yA (l1 (c4 (bh T) hr (lc (af 3) (lc (af 7) (l1 (af 8))))))) (af 9)) (eW (tT hr (cB (cH (c_ hr) hr.gd) T.yA (l1 (af 3))) (af 4))))) (ar (aC pM)) aW)))))))))))))
  (ar (aC pM))))) rfl
end
end G49
namespace G49
open PySem L2 L3 Wd
open C
def qJ{c:fP}{t u:bt}{v:Bool}{σ:bv}{S:aq}{D:dm}(h:∀Q E,Q v S->c σ S Q E)(qt:v=true->t D σ S)(qf:v=false->u D σ S):cw c t u D σ S:=by
 refine h _ _ ?_
 cases v with
 |true=>rw[if_pos rfl];exact qt rfl
 |false=>rw[if_neg EV];exact qf rfl
def ci{te:aM}{D:dm}{σ:bv}{S:aq}(h:te σ S D.rt D.ex):aN te D σ S:=h
def dR{n:Nat}(h:n<=1000000):n<=sizeLine:=EW h (by decide)
theorem bq{α:Type}{g:Tg}{te:aM}{σ':bv}{keep:aq->Prop}{fin:List PV->aq->Prop}(enc f:α->PV){S0:aq}(hk:∀S,Ext S0 S->keep S):∀(xs:List α) (ys:List PV) (S:aq),Ext S0 S->ys.length+xs.length<=1000000->
  (∀x∈xs,∀S,Ext S0 S->∃σ2,g.put (enc x) σ'=some σ2/\∀K:bY,(∀S',Ext S S'->K (f x) S')->te σ2 S K e7)->
  (∀S',Ext S0 S'->fin (ys++xs.map f) S')->cC g cK te σ' keep fin (xs.map enc) ys S
 |[],ys,S,X,hl,_,hf=>⟨hk S X,dR (by simpa using hl),by simpa using hf S X⟩
 |x::r,ys,S,X,hl,h,hf=>by
  obtain⟨σ2,e,h1⟩:=h x (by simp) S X
  refine⟨hk S X,dR (by simp at hl ⊢;omega),?_⟩
  rw[e]
  simp only[cK,G2]
  refine h1 _ fun S' X'=>?_
  exact bq enc f hk r (ys++[f x]) S' (X.trans X') (by simp at hl ⊢;omega) (fun y hy=>h y (by simp[hy])) fun S2 X2=>by simpa using hf S2 X2
noncomputable def _root_.C.Bd.wd:Bd->List PV
 | .rest=>[.str "rest"]
 | .pay x y=>[.str "pay",.tup [.int x,.int y]]
 | .put z m=>[.str "put",.str z,.int m]
 | .use z=>[.str "use",.str z]
 | .zf _=>[.str "often"]
 | .xI _ _=>[.str "then"]
 | .y6 _ _=>[.str "either"]
 | .yS z m _ _=>[.str "take",.str z,.int m]
def vh(t:Bd):t.pv = .tup (t.wd++t.sides.map Bd.pv):=by cases t<;>rfl
def tG(t:Bd):t.wd.length<=3:=by cases t<;>simp[Bd.wd]
def oq(t:Bd):t.sides.length<=2:=by cases t<;>simp[Bd.sides]
def tH{t s:Bd}(h:s∈t.sides):s.dep < t.dep:=by
 cases t<;>simp[Bd.sides]at h
 all_goals first|(subst h;simp[Bd.dep])|(rcases h with rfl|rfl<;>simp[Bd.dep]<;>omega)
theorem gZ:∀(l acc:List (aK×PV)),((acc++l).map Prod.fst).Nodup->dD acc l=acc++l
 |[],acc,_=>by simp[dD]
 |(k,v)::l,acc,h=>by
  have hk:(acc.any fun kv=>decide (kv.1=k))=false:=by
   rw[List.any_eq_false]
   intro x hx
   rw[E2]
   intro e
   rw[FZ,HN]at h
   exact h.2.2 x.1 (GA hx) k (by simp) e
  show dD (gJ acc k v) l=_
  rw[gJ,hk,if_neg (by decide),gZ l _ (by simpa using h)]
  simp
noncomputable def _root_.C.Bd.rn(r:Str->Str):Bd->Bd
 | .put z m=>.put (r z) m
 | .zf a=>.zf (a.rn r)
 | .xI a b=>.xI (a.rn r) (b.rn r)
 | .y6 a b=>.y6 (a.rn r) (b.rn r)
 | .yS z m a b=>.yS (r z) m (a.rn r) (b.rn r)
 |t=>t
noncomputable def _root_.C.Bd.rs(r:Str->Str):Bd->Bd
 | .put z m=>.put z m
 | .yS z m a b=>.yS z m (a.rn r) (b.rn r)
 |t=>t.rn r
def vi(r:Str->Str)(t:Bd):PV.tup (t.wd++t.sides.map fun s=>(s.rn r).pv)=(t.rs r).pv:=by cases t<;>rfl
noncomputable def nm(ps:List (Str×Str))(z:Str):Str:=match ps with
 |[]=>z
 |p::r=>if p.1=z then p.2 else nm r z
noncomputable def bW(p:Str×Str):PV:=.tup [.str p.1,.str p.2]
noncomputable def mw(p:Str×Str):aK×PV:=(Sum.inr p.1,.str p.2)
theorem kT(z:Str):∀ps:List (Str×Str),(dr (ps.map mw) (Sum.inr z:aK)).getD (.str z) = .str (nm ps z)
 |[]=>rfl
 |p::r=>by
  show(if (Sum.inr p.1:aK)=Sum.inr z then some (PV.str p.2) else dr (r.map mw) (Sum.inr z)).getD (.str z)=_
  by_cases e:p.1=z
  ·rw[if_pos (by rw[e]),nm,if_pos e];rfl
  ·rw[if_neg (fun q=>e (Sum.inr.inj q)),nm,if_neg e];exact kT z r
theorem jt:∀l:List (Str×Str),dW (l.map bW)=some (l.map mw)
 |[]=>rfl
 |p::r=>by
  show(match fB (.str p.1),dW (r.map bW)with|some k,some l=>some ((k,PV.str p.2)::l)|_,_=>none)=_
  rw[jt r]
  rfl
def ou{l:List (Str×Str)}(h:(l.map (·.1)).Nodup):((([]:List (aK×PV))++l.map mw).map Prod.fst).Nodup:=by
 rw[GI,FD,show(Prod.fst ∘ mw)=(Sum.inr ∘ fun p:Str×Str=>p.1)from rfl,<-FD]
 exact h.map (f:=Sum.inr) fun a b e=>fun q=>e (Sum.inr.inj q)
def AO(S:aq)(a:Addr)(r:Str->Str):Prop:=∃kvs,S a=some (.dct kvs)/\∀z,(dr kvs (Sum.inr z)).getD (.str z) = .str (r z)
def AO.ext{S S':aq}{a:Addr}{r:Str->Str}(h:AO S a r)(X:Ext S S'):AO S' a r:=let ⟨k,h1,h2⟩:=h;⟨k,X _ _ h1,h2⟩
def ju{S:aq}{a:Addr}{r:Str->Str}{to te tf:aM}{σ:bv}{z:Str}{Q:bY}{E:de}(h:AO S a r)(ho:∀Q E,Q (.ref a) S->to σ S Q E)(he:∀Q E,Q (.str z) S->te σ S Q E)(hf:∀Q E,Q (.str z) S->tf σ S Q E)(q:Q (.str (r z)) S):iJ to te tf σ S Q E:=by
 obtain⟨kvs,h1,h2⟩:=h
 unfold iJ
 refine ho _ _ ?_
 simp only[h1]
 refine he _ _ (hf _ _ ?_)
 simp only[h1,fB,h2]
 exact q
def As:∀z∈(["put","take"]:Vs),PyData.strOk z=true:=by decide +kernel
def vj:([PV.str "put",PV.str "take"]:List PV)=(["put","take"]:Vs).map PV.str:=rfl
def vk(r:Str->Str)(t:Bd):(t.rs r).hd=t.hd:=by cases t<;>rfl
abbrev ow(w:aQ):Prop:=∀{S:aq} {t:Bd} {a:Addr} {r:Str->Str} {Q:bY} {E:de},AO S a r->Q (t.rn r).pv S->w [(t.rs r).pv,.ref a] S Q E
def vm:ow (bI 2 aR):=by
 intro S t a r Q E hD k
 unfold aR
 refine jY ?_
 rw[show aF 2 [(t.rs r).pv,PV.ref a]=[some (t.rs r).pv,some (.ref a)] from rfl]
 refine aE fun N hN=>?_
 rw[Bd.zW]
 refine qJ (v:=!decide (t.hd∈(["put","take"]:Vs))) (fun Q E q=>?_) (fun h=>?_) (fun h=>hN _ _ (ci ?_))
 ·simp only[aZ,aj,v3,lk,c3,al,ic,az,ap]
  rw[vj,vk]
  refine bT (Bd.AM _) As ?_
  rw[HQ]
  exact q
 ·refine ci ?_
  simp only[v3,lk]
  rw[<-Bd.zW]
  cases t with
  |put z m=>simp[Bd.hd]at h
  |yS z m b c=>simp[Bd.hd]at h
  |_=>exact k
 ·cases t with
  |put z m=>
   simp only[Bd.rs,Bd.hd,Bd.tl,aj,az,ap,v3,lk,c3,al,ic]
   refine ju (z:=z) hD (fun Q E q=>by simp only[v3,lk];exact q) (fun Q E q=>by simp only[aj,v3,lk,c3,al,kP];exact q) (fun Q E q=>by simp only[aj,v3,lk,c3,al,kP];exact q) ?_
   simp only[a9,jb,jN,v3,lk,c3,hZ]
   rw[show dg [PV.str "put",PV.str z,PV.int m] (some 2) none=[PV.int m] from rfl]
   exact⟨dR (by simp),k⟩
  |yS z m b c=>
   simp only[Bd.rs,Bd.hd,Bd.tl,aj,az,ap,v3,lk,c3,al,ic]
   refine ju (z:=z) hD (fun Q E q=>by simp only[v3,lk];exact q) (fun Q E q=>by simp only[aj,v3,lk,c3,al,kP];exact q) (fun Q E q=>by simp only[aj,v3,lk,c3,al,kP];exact q) ?_
   simp only[a9,jb,jN,v3,lk,c3,hZ]
   rw[show dg [PV.str "take",PV.str z,PV.int m,(b.rn r).pv,(c.rn r).pv] (some 2) none=[PV.int m,(b.rn r).pv,(c.rn r).pv] from rfl]
   exact⟨dR (by simp),k⟩
  |_=>simp[Bd.hd,aV]at h
abbrev gk(n:Nat)(w:aQ):Prop:=∀{S:aq} {t:Bd} {a:Addr} {r:Str->Str} {Q:bY} {E:de},t.dep<=n->AO S a r->(∀S',Ext S S'->Q (t.rn r).pv S')->w [t.pv,.clo zv (.ref a)] S Q E
def kU{xs xw s0:aQ}(zj:iO xs)(Cs:ow xw)(n:Nat)(ih:gk n s0):gk (n+1) (bI 4 (fK xs xw s0)):=by
 intro S t a r Q E hd hD k
 unfold fK
 refine jY ?_
 rw[show aF 4 [t.pv,PV.clo zv (.ref a)]=[some t.pv,some (.clo zv (.ref a)),none,none] from rfl]
 refine aE fun N hN=>?_
 walk_at "x"
 refine zj ?_
 refine hN _ _ (aE fun N hN=>?_)
 rw[vh]
 simp only[aw,a9,jN,jb,aj,ag,ap,v3,lk,bj,bG,cA,hZ,List.set_cons_succ,List.set_cons_zero]
 rw[show(((t.wd++t.sides.map Bd.pv).length:Int) - ((t.sides.map Bd.pv).length:Int))=((t.wd.length:Nat):Int) by rw[EM];omega,kR (by rw[EM];omega),List.take_left]
 refine hN _ _ ?_
 refine ci ⟨_,rfl,?_⟩
 simp only[ap,aj,ag,v3,lk,aO,aS,bJ]
 refine bq (S0:=S) (Bd.pv) (fun s=>(s.rn r).pv) (fun S X=>trivial) t.sides [] S .refl (by have:=oq t;simp;omega) (fun s hs S1 X1=>⟨_,rfl,fun K hK=>?_⟩) fun S1 X1 p hp=>?_
 ·have hds:=tH hs
  exact ih (by omega) (hD.ext X1) hK
 ·simp only[aG,eY,aa,aJ,List.nil_append]
  have:=tG t
  have:=oq t
  refine⟨dR (by rw[EG];omega),?_⟩
  rw[vi]
  exact Cs ((hD.ext X1).ext (.new hp)) (k _ (X1.trans (.new hp)))
def Tb(S:aq):Prop:=∃a,S a=some (.tab "called_anew" tE zv.qual)
def Tb.ext{S S':aq}(h:Tb S)(X:Ext S S'):Tb S':=let ⟨a,e⟩:=h;⟨a,X _ _ e⟩
noncomputable abbrev kW(ps qs:List (Str×Str))(ds:List (Str×Bd)):List (Str×Bd):=ds.map fun p=>(nm qs p.1,p.2.rn (nm ps))
abbrev ox(w:aQ):Prop:=∀{S:aq} {js:Vs} {ds:List (Str×Bd)} {ps qs:List (Str×Str)} {Q:bY} {E:de},Tb S->js.length<=1000->ds.length<=1000->(∀p∈ds,p.2.dep<=12)->(ps.map (·.1)).Nodup->(qs.map (·.1)).Nodup->(∀S',Ext S S'->Q (jm (js.map (nm ps)) (kW ps qs ds)) S')->w [jm js ds,.tup (ps.map bW),.tup (qs.map bW)] S Q E
def zn{xc:aQ}(Ct:gk 12 xc):ox (bI 7 (cu xc)):=by
 intro S js ds ps qs Q E hT hj hl hds hp hq k
 unfold cu
 refine jY ?_
 rw[show aF 7 [jm js ds,PV.tup (ps.map bW),PV.tup (qs.map bW)]=[some (.tup [.tup (js.map PV.str),.tup (ds.map g7)]),some (.tup (ps.map bW)),some (.tup (qs.map bW)),none,none,none,none] from rfl]
 refine aE fun N hN=>?_
 simp only[aw,ag,ap,v3,lk,dX]
 rw[jt]
 intro a ha
 rw[gZ _ _ (ou hp),GI]
 refine hN _ _ (aE fun N hN=>?_)
 simp only[aw,ag,ap,v3,lk,dX,List.set_cons_succ,List.set_cons_zero]
 rw[jt]
 intro b hb
 rw[gZ _ _ (ou hq),GI]
 have X2:Ext S (xF (xF S a (.dct (ps.map mw))) b (.dct (qs.map mw))):=(Ext.new ha).trans (.new hb)
 have dA:AO (xF (xF S a (.dct (ps.map mw))) b (.dct (qs.map mw))) a (nm ps):=⟨_,Ext.new hb _ _ aa,fun z=>kT z ps⟩
 have dB:AO (xF (xF S a (.dct (ps.map mw))) b (.dct (qs.map mw))) b (nm qs):=⟨_,aa,fun z=>kT z qs⟩
 generalize xF (xF S a (.dct (ps.map mw))) b (.dct (qs.map mw))=S2 at X2 dA dB
 refine hN _ _ (aE fun N hN=>⟨hT.ext X2,_,rfl,hN _ _ (aE fun N hN=>?_)⟩)
 simp only[aw,ag,ap,aO,aS,aj,v3,lk,c3,al,ic,bJ,List.set_cons_succ,List.set_cons_zero]
 refine bq (S0:=S2) PV.str (fun z=>PV.str (nm ps z)) (fun S X=>trivial) js [] S2 .refl (by simp;omega) (fun z hz S1 X1=>⟨_,rfl,fun K hK=>?_⟩) fun S3 X3 p hp'=>?_
 ·exact ju (z:=z) (dA.ext X1) (fun Q E q=>by simp only[v3,lk];exact q) (fun Q E q=>by simp only[v3,lk];exact q) (fun Q E q=>by simp only[v3,lk];exact q) (hK S1 .refl)
 ·simp only[aG,eY,aa,List.nil_append]
  have X4:Ext S2 (xF S3 p (.lst (js.map fun z=>PV.str (nm ps z)))):=X3.trans (.new hp')
  generalize xF S3 p (.lst (js.map fun z=>PV.str (nm ps z)))=S4 at X4
  refine hN _ _ (ci ?_)
  simp only[az,ap,ag,aO,aS,aj,v3,lk,c3,al,kP,bJ,List.set_cons_succ,List.set_cons_zero]
  refine bq (S0:=S4) g7 (fun p=>g7 (nm qs p.1,p.2.rn (nm ps))) (fun S X=>trivial) ds [] S4 .refl (by simp;omega) (fun p hp S1 X1=>⟨_,rfl,fun K hK=>?_⟩) fun S5 X5 q hq'=>?_
  ·simp only[az,ap]
   refine ju (z:=p.1) ((dB.ext X4).ext X1) (fun Q E q=>by simp only[v3,lk,d8,List.replicate_succ,List.replicate_zero,EO,Fw,List.cons_append,List.nil_append,List.set_cons_zero];exact q) (fun Q E q=>by simp only[aj,v3,lk,c3,al,g7,ic];exact q) (fun Q E q=>by simp only[aj,v3,lk,c3,al,g7,ic];exact q) ?_
   simp only[aj,ad,ap,v3,lk,c3,al,g7,kP,d8,List.replicate_succ,List.replicate_zero,EO,Fw,List.cons_append,List.nil_append,List.set_cons_zero]
   exact Ct (hds p hp) ((dA.ext X4).ext X1) fun S' X'=>hK S' X'
  ·simp only[aG,eY,aa,List.nil_append]
   have:=k _ (X2.trans (X4.trans (X5.trans (.new (o:=.lst (ds.map fun p=>g7 (nm qs p.1,p.2.rn (nm ps)))) hq'))))
   rw[show jm (js.map (nm ps)) (kW ps qs ds) = .tup [.tup ((js.map (nm ps)).map PV.str),.tup ((kW ps qs ds).map g7)] from rfl,FD,FD]at this
   exact this
def xD:∀z∈(["then","either"]:Vs),PyData.strOk z=true:=by decide +kernel
def vn:([PV.str "then",PV.str "either"]:List PV)=(["then","either"]:Vs).map PV.str:=rfl
def nb:bt:=cw (aZ (aj (bR false) (v3 2) (v3 0))) (aN (v3 3)) bd
theorem iQ{z:Str}{v:PV}{D:dm}{keep:aq->Prop}(hk:∀S,keep S):∀(l:List (Str×Str)) (x2 x3:Option PV) (S:aq),(nm l z=z->(∀p∈l,p.1≠z)->∀x2 x3,D.nx [some (.str z),some v,x2,x3] S)->(∀w,nm l z=w->(∃p∈l,p.1=z)->D.rt (.str w) S)->
  fF (.tp (.cons (.n 2) (.cons (.n 3) .nil))) nb D keep (l.map bW) [some (.str z),some v,x2,x3] S
 |[],x2,x3,S,k1,_=>⟨hk S,k1 rfl (by simp) x2 x3⟩
 |p::r,x2,x3,S,k1,k2=>by
  refine⟨hk S,?_⟩
  show nb _ [some (.str z),some v,some (.str p.1),some (.str p.2)] S
  unfold nb
  refine qJ (v:=decide (p.1=z)) (fun Q E q=>by simp only[aZ,aj,v3,lk,bR,E6];exact q) (fun h=>?_) (fun h=>?_)
  ·have h:=GP h
   refine ci ?_
   simp only[v3,lk]
   exact k2 p.2 (by rw[nm,if_pos h]) ⟨p,by simp,h⟩
  ·have h:=GH h
   have e:nm (p::r) z=nm r z:=by rw[nm,if_neg h]
   exact iQ hk r _ _ S (fun e1 e2=>k1 (by rw[e];exact e1) fun q hq=>by rcases EX.mp hq with rfl|hq;exact h;exact e2 q hq) fun w e1 ⟨q,hq,e2⟩=>k2 w (by rw[e];exact e1) ⟨q,Fi _ hq,e2⟩
abbrev g6(w:aQ):Prop:=∀{S:aq} {z:Str} {l:List (Str×Str)} {Q:bY} {E:de},Q (.str (nm l z)) S->w [.str z,.tup (l.map bW)] S Q E
def lD:g6 (bI 4 dN):=by
 intro S z l Q E k
 unfold dN
 refine jY ?_
 rw[show aF 4 [PV.str z,PV.tup (l.map bW)]=[some (.str z),some (.tup (l.map bW)),none,none] from rfl]
 refine aE fun N hN=>?_
 simp only[fG,aS,v3,lk,bJ]
 refine iQ (fun _=>trivial) l none none S (fun e _ x2 x3=>hN _ _ (ci ?_)) fun w e _=>by rw[<-e];exact k
 simp only[v3,lk]
 rw[e]at k
 exact k
abbrev fj(n:Nat)(w:aQ):Prop:=∀{S:aq} {t:Bd} {l:List (Str×Str)} {Q:bY} {E:de},t.dep<=n->Q (t.rn (nm l)).pv S->w [t.pv,.tup (l.map bW)] S Q E
def qp{xn s0:aQ}(Aj:g6 xn)(n:Nat)(ih:fj n s0):fj (n+1) (bI 3 (dP xn s0)):=by
 intro S t l Q E hd k
 unfold dP
 refine jY ?_
 rw[show aF 3 [t.pv,PV.tup (l.map bW)]=[some t.pv,some (.tup (l.map bW)),none] from rfl,Bd.zW]
 refine aE fun N hN=>?_
 refine qJ (v:=decide (t.hd=("put":Str))) (fun Q E q=>by simp only[aZ,aj,v3,lk,c3,al,ic,bR,E6];exact q) (fun h=>?_) (fun h=>hN _ _ (aE fun N hN=>?_))
 ·cases t with
  |put z m=>
   refine ci ?_
   simp only[az,ap,ad,aj,v3,lk,c3,al,Bd.tl,kP,vc]
   exact Aj k
  |_=>simp[Bd.hd,aV]at h
 have h:=GH h
 refine qJ (v:=decide (t.hd=("take":Str))) (fun Q E q=>by simp only[aZ,aj,v3,lk,c3,al,ic,bR,E6];exact q) (fun h2=>?_) (fun h2=>hN _ _ (aE fun N hN=>?_))
 ·cases t with
  |yS z m a b=>
   simp only[Bd.dep]at hd
   refine aE fun N2 y4=>?_
   simp only[aw,az,ap,ad,aj,v3,lk,c3,al,Bd.hd,Bd.tl]
   refine ih (t:=a) (by omega) (ih (t:=b) (by omega) (y4 _ _ (ci ?_)))
   simp only[az,ap,ad,aj,v3,lk,c3,al,kP,vc,List.set_cons_succ,List.set_cons_zero]
   refine Aj ?_
   simp only[aJ]
   exact⟨dR (by simp),k⟩
  |_=>simp[Bd.hd,aV]at h2
 have h2:=GH h2
 refine qJ (v:=decide (t.hd∈(["then","either"]:Vs))) (fun Q E q=>?_) (fun h4=>?_) (fun h4=>hN _ _ (aE fun N hN=>?_))
 ·simp only[aZ,aj,v3,lk,c3,al,ic,az,ap]
  rw[vn]
  refine bT (Bd.AM _) xD ?_
  rw[E6]
  exact q
 ·have h4:=GP h4
  refine ci ?_
  cases t with
  |xI a b=>
   simp only[Bd.dep]at hd
   simp only[az,ap,ad,aj,v3,lk,c3,al,Bd.tl,ic,kP,vc]
   exact ih (t:=a) (by omega) (ih (t:=b) (by omega) k)
  |y6 a b=>
   simp only[Bd.dep]at hd
   simp only[az,ap,ad,aj,v3,lk,c3,al,Bd.tl,ic,kP,vc]
   exact ih (t:=a) (by omega) (ih (t:=b) (by omega) k)
  |_=>simp[Bd.hd,aV]at h4
 have h4:=GH h4
 refine qJ (v:=decide (t.hd=("often":Str))) (fun Q E q=>by simp only[aZ,aj,v3,lk,c3,al,ic,bR,E6];exact q) (fun h3=>?_) (fun h3=>hN _ _ ?_)
 ·obtain⟨a,rfl⟩:=(Bd.A5 t).mp (GP h3)
  simp only[Bd.dep]at hd
  refine ci ?_
  simp only[az,ap,ad,aj,v3,lk,c3,al,Bd.tl,kP]
  exact ih (t:=a) (by omega) k
 ·have h3:=GH h3
  refine ci ?_
  simp only[v3,lk]
  rw[<-Bd.zW]
  cases t with
  |rest=>exact k
  |pay x y=>exact k
  |use z=>exact k
  |put z m=>exact absurd rfl h
  |zf a=>exact absurd rfl h3
  |yS z m a b=>exact absurd rfl h2
  |xI a b=>exact absurd (by simp[Bd.hd]) h4
  |y6 a b=>exact absurd (by simp[Bd.hd]) h4
abbrev lE(w:aQ):Prop:=∀{S:aq} {js:Vs} {ds:List (Str×Bd)} {ps qs:List (Str×Str)} {Q:bY} {E:de},js.length<=1000->ds.length<=1000->(∀p∈ds,p.2.dep<=12)->(∀S',Ext S S'->Q (jm (js.map (nm ps)) (kW ps qs ds)) S')->w [jm js ds,.tup (ps.map bW),.tup (qs.map bW)] S Q E
def zA{xn xa:aQ}(Aj:g6 xn)(Cu:fj 12 xa):lE (bI 4 (eN xn xa)):=by
 intro S js ds ps qs Q E hj hl hds k
 unfold eN
 refine jY ?_
 rw[show aF 4 [jm js ds,PV.tup (ps.map bW),PV.tup (qs.map bW)]=[some (.tup [.tup (js.map PV.str),.tup (ds.map g7)]),some (.tup (ps.map bW)),some (.tup (qs.map bW)),none] from rfl]
 refine aE fun N hN=>?_
 simp only[aw,ag,ap,aO,aS,aj,v3,lk,c3,al,ic,bJ]
 refine bq (S0:=S) PV.str (fun z=>PV.str (nm ps z)) (fun S X=>trivial) js [] S .refl (by simp;omega) (fun z hz S1 X1=>⟨_,rfl,fun K hK=>?_⟩) fun S3 X3 p hp'=>?_
 ·simp only[ad,ap,v3,lk,d8,List.replicate_succ,List.replicate_zero,EO,Fw,List.cons_append,List.nil_append,List.set_cons_zero]
  exact Aj (hK S1 .refl)
 ·simp only[aG,eY,aa,List.nil_append]
  have X4:Ext S (xF S3 p (.lst (js.map fun z=>PV.str (nm ps z)))):=X3.trans (.new hp')
  generalize xF S3 p (.lst (js.map fun z=>PV.str (nm ps z)))=S4 at X4
  refine hN _ _ (ci ?_)
  simp only[az,ap,ag,aO,aS,aj,v3,lk,c3,al,kP,bJ,List.set_cons_succ,List.set_cons_zero]
  refine bq (S0:=S4) g7 (fun p=>g7 (nm qs p.1,p.2.rn (nm ps))) (fun S X=>trivial) ds [] S4 .refl (by simp;omega) (fun p hp S1 X1=>⟨_,rfl,fun K hK=>?_⟩) fun S5 X5 q hq'=>?_
  ·simp only[az,ap,ad,v3,lk,d8,List.replicate_succ,List.replicate_zero,EO,Fw,List.cons_append,List.nil_append,List.set_cons_zero,List.set_cons_succ]
   exact Aj (Cu (hds p hp) (hK S1 .refl))
  ·simp only[aG,eY,aa,List.nil_append]
   have:=k _ (X4.trans (X5.trans (.new (o:=.lst (ds.map fun p=>g7 (nm qs p.1,p.2.rn (nm ps)))) hq')))
   rw[show jm (js.map (nm ps)) (kW ps qs ds) = .tup [.tup ((js.map (nm ps)).map PV.str),.tup ((kW ps qs ds).map g7)] from rfl,FD,FD]at this
   exact this
inductive wP (S:aq) (zs:Vs):PV->Prop
 |tup:wP S zs (.tup (zs.map PV.str))
 |lst {a:Addr}:S a=some (.lst (zs.map PV.str))->wP S zs (.ref a)
theorem oy:∀(ns ws:Vs),cJ (ns.map PV.str) (ws.map PV.str)=(ns.zip ws).map bW
 |[],_=>by simp[cJ]
 |_::_,[]=>by simp[cJ]
 |n::ns,b::bs=>by
  have:=oy ns bs
  unfold cJ at this ⊢
  simp only[EO,List.zip_cons_cons,this]
  rfl
noncomputable def sw(p:Str×Str):Str×Str:=(p.2,p.1)
abbrev j7(w:aQ):Prop:=∀{S:aq} {ns ws:Vs} {v:PV} {b:Addr} {Q:bY} {E:de},wP S ns v->S b=some (.lst (ws.map PV.str))->ns.length<=ws.length->ws.length<=1000->(∀S',Ext S S'->Q (.tup [.tup ((ns.zip ws).map bW),.tup (((ns.zip ws).map sw).map bW)]) S')->w [v,.ref b] S Q E
def zh:j7 (bI 3 dQ):=by
 intro S ns ws v b Q E hv hb hl hw k
 unfold dQ
 refine jY ?_
 rw[show aF 3 [v,PV.ref b]=[some v,some (.ref b),none] from rfl]
 have main:∀N:bv->aq->Prop,(∀σ S,aN (az [v3 2,ag aG [aO (aS (v3 2)) (.tp (.cons (.n 0) (.cons (.n 1) .nil))) cK (az [v3 1,v3 0]) 2 []]]) { nx:=fun _ S'=>Q .non S',rt:=Q,ex:=e7 } σ S->N σ S)->N [some v,some (.ref b),some (.tup ((ns.zip ws).map bW))] S:=by
  intro N hN
  refine hN _ _ (ci ?_)
  simp only[az,ap,ag,aO,aS,v3,lk,bJ]
  refine bq (S0:=S) bW (fun p=>bW (sw p)) (fun S X=>trivial) (ns.zip ws) [] S .refl (by simp;omega) (fun p hp S1 X1=>⟨_,rfl,fun K hK=>?_⟩) fun S5 X5 q hq'=>?_
  ·simp only[az,ap,v3,lk]
   exact hK S1 .refl
  ·simp only[aG,eY,aa,List.nil_append]
   have:=k _ (X5.trans (.new (o:=.lst ((ns.zip ws).map fun p=>bW (sw p))) hq'))
   rw[FD]at this
   exact this
 refine aE fun N hN=>?_
 simp only[aw,kO,v3,lk]
 cases hv with
 |tup=>
  simp only[hb]
  refine⟨by simpa using hl,?_⟩
  rw[oy]
  exact main N hN
 |lst h=>
  simp only[h,hb]
  refine⟨by simpa using hl,?_⟩
  rw[oy]
  exact main N hN
theorem cX{α:Type}{g:Tg}{tc:fP}{te:aM}{σ':bv}{keep:aq->Prop}{fin:List PV->aq->Prop}(enc f:α->PV)(c:α->Bool){S0:aq}(hk:∀S,Ext S0 S->keep S):∀(xs:List α) (ys:List PV) (S:aq),Ext S0 S->ys.length+xs.length<=1000000->
  (∀x∈xs,∃σ2,g.put (enc x) σ'=some σ2/\(∀S,Ext S0 S->∀K:Bool->aq->Prop,(∀S',Ext S S'->K (c x) S')->tc σ2 S K e7)/\∀S,Ext S0 S->∀K:bY,(∀S',Ext S S'->K (f x) S')->te σ2 S K e7)->
  (∀S',Ext S0 S'->fin (ys++(xs.filter c).map f) S')->cC g tc te σ' keep fin (xs.map enc) ys S
 |[],ys,S,X,hl,_,hf=>⟨hk S X,dR (by simpa using hl),by simpa using hf S X⟩
 |x::r,ys,S,X,hl,h,hf=>by
  obtain⟨σ2,e,h1,h2⟩:=h x (by simp)
  refine⟨hk S X,dR (by simp at hl ⊢;omega),?_⟩
  rw[e]
  refine h1 S X _ fun S' X'=>?_
  cases hc:c x with
  |true=>
   simp only[G2]
   refine h2 S' (X.trans X') _ fun S2 X2=>?_
   exact cX enc f c hk r (ys++[f x]) S2 ((X.trans X').trans X2) (by simp at hl ⊢;omega) (fun y hy=>h y (by simp[hy])) fun S3 X3=>by simpa [hc]using hf S3 X3
  |false=>
   simp only[E8,Gs]
   exact cX enc f c hk r ys S' (X.trans X') (by simp at hl ⊢;omega) (fun y hy=>h y (by simp[hy])) fun S3 X3=>by simpa [hc]using hf S3 X3
def tI{α:Type}{ys:List α}{y:α}:yt (ys++[y]) (-1)=some y:=by
 unfold yt mx
 rw[if_neg (by decide),if_pos (by rw[EM,Fd];omega)]
 show(ys++[y])[((-1:Int)+((ys++[y]).length:Int)).toNat]?=_
 rw[show((-1:Int)+((ys++[y]).length:Int)).toNat=ys.length by rw[EM,Fd];omega]
 simp
def Ot(d l f:Addr)(S S':aq):Prop:=∀a o,S a=some o->a≠d->a≠l->a≠f->S' a=some o
def Ot.yx{d l f:Addr}{S S1 S2:aq}(h:Ot d l f S S1)(O:xZ d l S1 S2):Ot d l f S S2:=fun a o e h1 h2 h3=>O _ _ (h a o e h1 h2 h3) h1 h2
def Ot.upd{d l f:Addr}{S S1:aq}{o:SO}(h:Ot d l f S S1):Ot d l f S (xF S1 f o):=fun a u e h1 h2 h3=>by rw[ao h3];exact h a u e h1 h2 h3
def W2(a:Str×Str):Prop:=yy a.1/\yy a.2
def j8{α:Type}(acc:List α)(x:α)(i:Nat):(acc.take i++x::acc.drop i).Perm (x::acc):=List.perm_middle.trans (by rw[List.take_append_drop])
def oz{xd:aQ}(y_:bf xd){S:aq}{d l f:Addr}{acc:List (Str×Str)}{a b:Str}{σ:bv}{D:dm}{tp:aM}(hd:lk σ 0=some (.ref d))(hf:lk σ 3=some (.ref f))(f1:f≠d)(f2:f≠l)(Dl:xJ S d l)(fq:S f=some (.lst (acc.map bW)))(hl:acc.length<=100)
  (ht:∀S',xZ d l S S'->∀(Q:bY) (E:de),Q (bW (a,b)) S'->tp σ S' Q E)
  (k:∀i S',xJ (xF S' f (.lst ((acc.take i++(a,b)::acc.drop i).map bW))) d l->xZ d l S S'->D.nx σ (xF S' f (.lst ((acc.take i++(a,b)::acc.drop i).map bW)))) :
  cZ (iD "list" b8 (v3 3) [ad xd [v3 0,aj aJ (ag bj [v3 3]) (c3 (.int 1))],tp]) D σ S:=by
 simp only[cZ,iD,ad,ag,ap,aj,v3,hd,hf,c3,bj,aJ,fq,EG]
 refine⟨by simp[sy,fq],?_⟩
 refine y_ Dl (by omega) (by omega) fun i S5 i0 i1 D5 O5=>?_
 have Eo:=O5 _ _ fq f1 f2
 refine ht S5 O5 _ _ ?_
 simp only[b8,Eo,EG]
 refine⟨i0,by omega,G6 (show _<=100 by omega) (by decide),?_⟩
 rw[<-List.map_take,<-List.map_drop,<-EO,<-FZ]
 exact k i.toNat S5 (D5.upd f1 f2) O5
def pb(xd:aQ):bt:=ah (aw 5 (ad xd [v3 0,c3 (.int 5)]))
  (ah (aw 6 (aj al (v3 2) (aj aJ (c3 (.int 1)) (ad xd [v3 0,aj bG (ag bj [v3 2]) (c3 (.int 1))]))))
  (ah (cw (hU (aZ (aj (bR false) (v3 5) (c3 (.int 0)))) (aZ (aj jv (ag bj [v3 1]) (c3 (.int 0))))) (aw 6 (aj al (v3 1) (ad xd [v3 0,ag bj [v3 1]]))) bd)
  (cw (hV (aZ (aj jv (v3 5) (c3 (.int 1)))) (aZ (aj (bR false) (v3 5) (c3 (.int 0))))) (cZ (iD "list" b8 (v3 3) [ad xd [v3 0,aj aJ (ag bj [v3 3]) (c3 (.int 1))],az [v3 4,v3 6]])) bd)))
theorem oA{xd:aQ}(y_:bf xd){D:dm}{d l p q f:Addr}{ns ws:Vs}{S0:aq}{keep:aq->Prop}(hk:∀S,Ot d l f S0 S->keep S)(nw:∀z∈ns,yy z)(ww:∀z∈ws,yy z)(nl:ns.length<=100)(wl:2<=ws.length)(Cv:ws.length<=100)
  (hp:S0 p=some (.lst (ns.map PV.str))) (hq:S0 q=some (.lst (ws.map PV.str))) (p1:p≠d) (p2:p≠l) (p3:p≠f) (q1:q≠d) (q2:q≠l) (q3:q≠f) (f1:f≠d) (f2:f≠l):∀(r:Vs) (acc:List (Str×Str)) (x4 x5 x6:Option PV) (S:aq),(∀z∈r,yy z)->(r++acc.map (·.1)).Nodup->acc.length+r.length<=50->(∀a∈acc,W2 a)->xJ S d l->Ot d l f S0 S->S f=some (.lst (acc.map bW))->
  (∀(acc':List (Str×Str)) x4 x5 x6 S',(acc'.map (·.1)).Nodup->(∀a∈acc',W2 a)->acc'.length<=50->xJ S' d l->Ot d l f S0 S'->S' f=some (.lst (acc'.map bW))->D.nx [some (.ref d),some (.ref p),some (.ref q),some (.ref f),x4,x5,x6] S')->
  fF (.n 4) (pb xd) D keep (r.map PV.str) [some (.ref d),some (.ref p),some (.ref q),some (.ref f),x4,x5,x6] S
 |[],acc,x4,x5,x6,S,_,nd,hl,hc,Dl,O,fq,k=>⟨hk S O,k acc x4 x5 x6 S (by simpa using nd) hc (by simpa using hl) Dl O fq⟩
 |z::r,acc,x4,x5,x6,S,hw,nd,hl,hc,Dl,O,fq,k=>by
  refine⟨hk S O,?_⟩
  have hz:=hw z (by simp)
  have hl:acc.length+(r.length+1)<=50:=by simpa using hl
  have Dp:z ∉ r++acc.map (·.1)/\(r++acc.map (·.1)).Nodup:=EY.mp (by simpa using nd)
  show pb xd _ [some (.ref d),some (.ref p),some (.ref q),some (.ref f),some (.str z),x5,x6] S
  -- what comes behind: nothing is put in
  have skip:∀x5 x6 S',xJ S' d l->xZ d l S S'->fF (.n 4) (pb xd) D keep (r.map PV.str) [some (.ref d),some (.ref p),some (.ref q),some (.ref f),some (.str z),x5,x6] S':=fun x5 x6 S' D' O'=>
   oA y_ hk nw ww nl wl Cv hp hq p1 p2 p3 q1 q2 q3 f1 f2 r acc _ _ _ S' (fun x hx=>hw x (by simp[hx])) Dp.2 (by omega) hc D' (O.yx O') (O' _ _ fq f1 f2) k
  have last:∀(o:Str) (g:Int) S',yy o->xJ S' d l->xZ d l S S'->cw (hV (aZ (aj jv (v3 5) (c3 (.int 1)))) (aZ (aj (bR false) (v3 5) (c3 (.int 0))))) (cZ (iD "list" b8 (v3 3) [ad xd [v3 0,aj aJ (ag bj [v3 3]) (c3 (.int 1))],az [v3 4,v3 6]])) bd
    { D with nx:=fF (.n 4) (pb xd) D keep (r.map PV.str),ct:=fF (.n 4) (pb xd) D keep (r.map PV.str),bk:=D.nx } [some (.ref d),some (.ref p),some (.ref q),some (.ref f),some (.str z),some (.int g),some (.str o)] S':=by
   intro o g S' ho D' O'
   refine qJ (v:=decide (1 < g) || decide (g=0)) (fun Q E q=>?_) (fun _=>?_) (fun _=>skip _ _ S' D' O')
   ·simp only[hV,aZ,aj,v3,lk,c3,jv,cA,bR,E6]
    by_cases h1:1 < g
    ·rw[GB h1]at q ⊢
     simpa using q
    ·rw[Fe h1]at q ⊢
     simpa using q
   ·refine oz y_ (acc:=acc) (a:=z) (b:=o) rfl rfl f1 f2 D' (O' _ _ fq f1 f2) (by omega) (fun S' _ Q E q=>by simp only[az,ap,v3,lk];exact q) fun i S2 D2 O2=>?_
    have pm:=j8 acc (z,o) i
    have Cw:=pm.map (·.1)
    have hlen:=pm.length_eq
    rw[EU]at hlen
    refine oA y_ hk nw ww nl wl Cv hp hq p1 p2 p3 q1 q2 q3 f1 f2 r _ _ _ _ _ (fun x hx=>hw x (by simp[hx])) ?_ (by omega) (fun a ha=>?_) D2 ((O.yx O').yx O2).upd aa k
    ·have:(r++(acc.take i++(z,o)::acc.drop i).map (·.1)).Perm (z::(r++acc.map (·.1))):=(List.Perm.append_left _ Cw).trans List.perm_middle
     exact this.nodup_iff.mpr (EY.mpr Dp)
    ·rcases EX.mp (pm.mem_iff.mp ha)with rfl|ha
     ·exact⟨hz,ho⟩
     ·exact hc a ha
  unfold pb
  refine aE fun N hN=>?_
  simp only[aw,ad,ap,v3,lk,c3]
  refine y_ Dl (by decide) (by decide) fun g S1 g0 g1 D1 O1=>hN _ _ (aE fun N hN=>?_)
  have hq1:=O1 _ _ (O _ _ hq q1 q2 q3) q1 q2
  simp only[aw,aj,ad,ag,ap,v3,lk,c3,bj,bG,cA,hq1,EG,List.set_cons_succ,List.set_cons_zero]
  refine y_ (m:=(ws.length:Int) - 1) D1 (by omega) (by omega) fun e S2 e0 e1 D2 O2=>?_
  have hq2:=O2 _ _ hq1 q1 q2
  obtain⟨w,Ep,hm⟩:=cQ (xs:=ws.map PV.str) (r:=1+e) (by omega) (by rw[EG];omega)
  obtain⟨o,ho,rfl⟩:=EZ.mp hm
  simp only[aJ,al,hq2,Ep]
  refine hN _ _ (aE fun N hN=>?_)
  have Cy:xZ d l S S2:=O1.trans O2
  have hp2:=Cy _ _ (O _ _ hp p1 p2 p3) p1 p2
  refine qJ (v:=decide (g=0)&&decide (0 < (ns.length:Int))) (fun Q E q=>?_) (fun h=>?_) (fun _=>hN _ _ (last o g S2 (ww o ho) D2 Cy))
  ·simp only[hU,aZ,aj,ag,ap,v3,lk,c3,jv,cA,bR,E6,bj,hp2,EG,List.set_cons_succ,List.set_cons_zero]
   by_cases h1:g=0
   ·rw[GB h1]at q ⊢
    simpa using q
   ·rw[Fe h1]at q ⊢
    simpa using q
  ·have h0:0 < (ns.length:Int):=GP (F4.mp h).2
   simp only[aw,aj,ad,ag,ap,v3,lk,bj,hp2,EG,List.set_cons_succ,List.set_cons_zero]
   refine y_ (m:=(ns.length:Int)) D2 (by omega) (by omega) fun e2 S3 Er Es D3 O3=>?_
   obtain⟨w2,Eu,hm2⟩:=cQ (xs:=ns.map PV.str) (r:=e2) Er (by rw[EG];exact Es)
   obtain⟨o2,ho2,rfl⟩:=EZ.mp hm2
   simp only[al,O3 _ _ hp2 p1 p2,Eu]
   exact hN _ _ (last o2 g S3 (nw o2 ho2) D3 (Cy.trans O3))
abbrev iR(w:aQ):Prop:=∀{S:aq} {d l p q:Addr} {ns ws:Vs} {Q:bY} {E:de},xJ S d l->S p=some (.lst (ns.map PV.str))->S q=some (.lst (ws.map PV.str))->p≠d->p≠l->q≠d->q≠l->ns.Nodup->(∀z∈ns,yy z)->(∀z∈ws,yy z/\z ∉ ns)->ns.length<=20->2<=ws.length->ws.length<=100->
  (∀(ps:List (Str×Str)) S',(ps.map (·.1)).Nodup->(∀a∈ps,W2 a)->ps.length<=100->xJ S' d l->xZ d l S S'->Q (.tup (ps.map bW)) S')->w [.ref d,.ref p,.ref q] S Q E
def yX{xd:aQ}(y_:bf xd):iR (bI 7 (cW xd)):=by
 intro S d l p q ns ws Q E D hp hq p1 p2 q1 q2 nn nw ww nl w1 w2 k
 unfold cW
 refine jY ?_
 rw[show aF 7 [PV.ref d,PV.ref p,PV.ref q]=[some (.ref d),some (.ref p),some (.ref q),none,none,none,none] from rfl]
 refine aE fun N hN=>?_
 simp only[aw,eV,ap]
 intro f hf
 have df:=D.free hf
 have Ev:p≠f:=fun e=>by rw[e,hf]at hp;cases hp
 have Dq:q≠f:=fun e=>by rw[e,hf]at hq;cases hq
 refine hN _ _ (aE fun N hN=>?_)
 simp only[fG,aS,aj,a9,jN,jb,v3,lk,c3,hZ,List.set_cons_succ,List.set_cons_zero,ao Dq,hq]
 intro m hm
 have X1:Ext S (xF (xF S f (.lst [])) m (.lst (dg (ws.map PV.str) none (some 1)))):=(Ext.new hf).trans (.new hm)
 have ec:dg (ws.map PV.str) none (some 1)=(ws.take 1).map PV.str:=by rw[jZ];exact Fl _ (kR (n:=1) (by omega))
 have Ew:f≠m:=fun e=>by rw[<-e,aa]at hm;cases hm
 simp only[aJ,X1 _ _ hp,aa]
 rw[ec]at X1 ⊢
 refine⟨dR (by simp;omega),fun t ht=>?_⟩
 have hf1:(xF (xF S f (.lst [])) m (.lst ((ws.take 1).map PV.str))) f=some (.lst []):=by rw[ao Ew,aa]
 have Dr:f≠t:=fun e=>by rw[<-e,hf1]at ht;cases ht
 have npt:p≠t:=fun e=>by have:=X1 _ _ hp;rw[e,ht]at this;cases this
 have nqt:q≠t:=fun e=>by have:=X1 _ _ hq;rw[e,ht]at this;cases this
 have X2:Ext S (xF (xF (xF S f (.lst [])) m (.lst ((ws.take 1).map PV.str))) t (.lst (ns.map PV.str++(ws.take 1).map PV.str))):=X1.trans (.new ht)
 have D2:=D.ext X2
 have dt:=(D.ext X1).free ht
 have hf2:(xF (xF (xF S f (.lst [])) m (.lst ((ws.take 1).map PV.str))) t (.lst (ns.map PV.str++(ws.take 1).map PV.str))) f=some (.lst (([]:List (Str×Str)).map bW)):=by rw[ao Dr];exact hf1
 simp only[bJ,aa]
 have Cz:(xF (xF (xF S f (.lst [])) m (.lst ((ws.take 1).map PV.str))) t (.lst (ns.map PV.str++(ws.take 1).map PV.str))) t=some (.lst (ns.map PV.str++(ws.take 1).map PV.str)):=aa
 generalize xF (xF (xF S f (.lst [])) m (.lst ((ws.take 1).map PV.str))) t (.lst (ns.map PV.str++(ws.take 1).map PV.str))=S2 at X2 D2 hf2 Cz
 rw[<-FZ]
 refine oA y_ (S0:=S2) (fun S' O'=>by rw[<-FZ]at Cz;exact O' _ _ Cz dt.1 dt.2 (F3 Dr)) nw (fun z hz=>(ww z hz).1) (by omega) w1 w2 (X2 _ _ hp) (X2 _ _ hq) p1 p2 Ev q1 q2 Dq df.1 df.2 (ns++ws.take 1) [] none none none S2 (fun z hz=>?_) ?_ (by simp;omega) (by simp) D2 (fun a o e _ _ _=>e) hf2 fun acc x4 x5 x6 S3 h1 h2 h3 D3 O3 f3=>hN _ _ (aE fun N hN=>?_)
 ·rcases Ff.mp hz with hz|hz
  ·exact nw z hz
  ·exact(ww z (Gw hz)).1
 ·rw[Fw,Gn]
  refine HN.mpr ⟨nn,?_,fun a ha b hb e=>(ww b (Gw hb)).2 (e▸ha)⟩
  cases ws with
  |nil=>simp
  |cons w r=>simp
 have OS:xZ d l S S3:=fun a o e a1 a2=>O3 _ _ (X2 _ _ e) a1 a2 (fun z=>by rw[z,hf]at e;cases e)
 have fin:∀(g:Addr) (acc:List (Str×Str)) x4 x5 x6 S',(acc.map (·.1)).Nodup->(∀a∈acc,W2 a)->acc.length<=100->xJ S' d l->xZ d l S S'->S' g=some (.lst (acc.map bW))->N [some (.ref d),some (.ref p),some (.ref q),some (.ref g),x4,x5,x6] S':=fun g acc x4 x5 x6 S' h1 h2 h3 D' O' f'=>hN _ _ (ci (by
  simp only[ag,ap,v3,lk,aG,eY,f']
  exact k acc S' h1 h2 h3 D' O'))
 have hp3:=OS _ _ hp p1 p2
 simp only[cw,hU,aZ,aj,ag,ap,v3,lk,c3,bj,jv,cA,hp3,EG]
 by_cases hn:1 < (ns.length:Int)
 ·rw[GB hn]
  simp only[G2]
  simp only[ad,ap,v3,lk,c3]
  refine y_ D3 (by decide) (by decide) fun g S4 g0 g1 D4 O4=>?_
  simp only[bR,E6,E2]
  by_cases h0:g=0
  ·rw[if_pos h0]
   have Ds:=OS.trans O4
   have A6:=Ds _ _ hp p1 p2
   have f4:=O4 _ _ f3 df.1 df.2
   obtain⟨a,r,b,rfl⟩:∃a r b,ns=a::(r++[b]):=by
    cases ns with
    |nil=>simp at hn
    |cons a s=>
     have hs:s≠[]:=fun e=>by rw[e]at hn;simp at hn
     exact⟨a,s.dropLast,s.getLast hs,by rw[List.dropLast_concat_getLast hs]⟩
   have hab:a≠b:=fun e=>(EY.mp nn).1 (by rw[e];simp)
   have wa:yy a:=nw a (by simp)
   have wb:yy b:=nw b (by simp)
   have i0:yt ((a::(r++[b])).map PV.str) 0=some (.str a):=om (n:=0) rfl
   have i1:yt ((a::(r++[b])).map PV.str) (-1)=some (.str b):=by
    rw[show(a::(r++[b])).map PV.str=(a::r).map PV.str++[PV.str b] by simp]
    exact tI
   refine aE fun N2 y4=>?_
   simp only[aw,aj,eV,az,ap,lp,eX,v3,lk,c3,al,A6,i0,i1]
   intro x hx
   have nfx:f≠x:=fun e=>by rw[e,hx]at f4;cases f4
   have npx:p≠x:=fun e=>by rw[e,hx]at A6;cases A6
   have X5:Ext S4 (xF S4 x (.lst [PV.tup [.str a,.str b]])):=.new hx
   have CA:(xF S4 x (.lst [PV.tup [.str a,.str b]])) x=some (.lst [PV.tup [.str a,.str b]]):=aa
   generalize xF S4 x (.lst [PV.tup [.str a,.str b]])=S5 at X5 CA
   simp only[aO,aS,v3,lk,bJ,X5 _ _ f4]
   refine cX (S0:=S5) bW bW (fun w=>!decide (w.1∈([a,b]:Vs))) (fun S X=>X _ _ (X5 _ _ f4)) acc [] S5 .refl (by simp;omega) (fun w hw=>⟨_,rfl,fun S6 X6 Q2 hQ=>?_,fun S6 X6 Q2 hQ=>?_⟩) fun S6 X6 y hy=>?_
   ·have AB:=X6 _ _ (X5 _ _ A6)
    simp only[aZ,aj,az,ap,lp,eX,v3,lk,c3,al,d8,List.replicate_succ,List.replicate_zero,EO,Fw,List.cons_append,List.nil_append,List.set_cons_zero,bW,ic]
    simp only[EO,FZ,Fw]at AB i0 i1
    simp only[AB,i0,i1]
    rw[show([PV.str a,PV.str b]:List PV)=([a,b]:Vs).map PV.str from rfl]
    refine bT (cP (h2 w hw).1) (fun z hz=>?_) ?_
    ·simp at hz
     rcases hz with rfl|rfl
     ·exact cP wa
     ·exact cP wb
    ·rw[HQ]
     exact hQ S6 .refl
   ·simp only[v3,lk,d8,List.replicate_succ,List.replicate_zero,EO,Fw,List.cons_append,List.nil_append,List.set_cons_zero]
    exact hQ S6 .refl
   ·have X7:Ext S4 (xF S6 y (.lst ((acc.filter fun w=>!decide (w.1∈([a,b]:Vs))).map bW))):=X5.trans (X6.trans (.new hy))
    have Ex:x≠y:=fun e=>by have:=X6 _ _ CA;rw[e,hy]at this;cases this
    simp only[List.nil_append,aJ,ao Ex,X6 _ _ CA,aa]
    refine⟨dR (by have:=GK (fun w:Str×Str=>!decide (w.1∈([a,b]:Vs))) acc;simp only[List.length_cons,EM,EG,List.length_nil];omega),fun z hz=>?_⟩
    have dz:=(D4.ext X7).free hz
    have nz:S4 z=none:=X7.free hz
    have X8:=X7.trans (Ext.new (o:=.lst ([PV.tup [.str a,.str b]]++(acc.filter fun w=>!decide (w.1∈([a,b]:Vs))).map bW)) hz)
    have z8:(xF (xF S6 y (.lst ((acc.filter fun w=>!decide (w.1∈([a,b]:Vs))).map bW))) z (.lst ([PV.tup [.str a,.str b]]++(acc.filter fun w=>!decide (w.1∈([a,b]:Vs))).map bW))) z=some (.lst (((a,b)::acc.filter fun w=>!decide (w.1∈([a,b]:Vs))).map bW)):=aa
    generalize xF (xF S6 y (.lst ((acc.filter fun w=>!decide (w.1∈([a,b]:Vs))).map bW))) z (.lst ([PV.tup [.str a,.str b]]++(acc.filter fun w=>!decide (w.1∈([a,b]:Vs))).map bW))=S8 at X8 z8
    have D8:=D4.ext X8
    have hp8:=X8 _ _ A6
    have fl:=GK (fun w:Str×Str=>!decide (w.1∈([a,b]:Vs))) acc
    refine y4 _ _ ?_
    simp only[List.set_cons_succ,List.set_cons_zero]
    refine oz y_ (acc:=(a,b)::acc.filter fun w=>!decide (w.1∈([a,b]:Vs))) (a:=b) (b:=a) (l:=l) (S:=S8) rfl rfl dz.1 dz.2 D8 z8 (by simp only[List.length_cons];omega) (fun S9 O9 Q9 E9 q=>?_) fun i S9 D9 O9=>?_
    ·simp only[aj,az,ap,lp,eX,v3,lk,c3,al,O9 _ _ hp8 p1 p2,i0,i1]
     exact q
    ·have pm:=j8 ((a,b)::acc.filter fun w=>!decide (w.1∈([a,b]:Vs))) (b,a) i
     have Cw:=pm.map (·.1)
     have hlen:=pm.length_eq
     refine fin z _ x4 x5 x6 _ ?_ (fun w hw=>?_) (by rw[hlen];simp only[List.length_cons];omega) D9 ?_ aa
     ·refine Cw.nodup_iff.mpr ?_
      have nf:∀c∈([a,b]:Vs),c ∉ (acc.filter fun w=>!decide (w.1∈([a,b]:Vs))).map (·.1):=fun c hc hm=>by
       obtain⟨w,hw,rfl⟩:=EZ.mp hm
       have:=(FW.mp hw).2
       simp only[Bool.not_eq_true',decide_eq_false_iff_not]at this
       exact this hc
      refine EY.mpr ⟨fun hm=>?_,EY.mpr ⟨nf a (by simp),h1.sublist (HE.map _)⟩⟩
      rcases EX.mp hm with e|hm
      ·exact hab e.symm
      ·exact nf b (by simp) hm
     ·rcases EX.mp (pm.mem_iff.mp hw)with rfl|hw
      ·exact⟨wb,wa⟩
      ·rcases EX.mp hw with rfl|hw
       ·exact⟨wa,wb⟩
       ·exact h2 w (FW.mp hw).1
     ·intro c o e c1 c2
      have h4:=Ds _ _ e c1 c2
      rw[ao (fun q=>by rw[q,nz]at h4;cases h4)]
      exact O9 _ _ (X8 _ _ h4) c1 c2
  ·rw[if_neg h0]
   exact fin f acc x4 x5 x6 S4 h1 h2 (by omega) D4 (OS.trans O4) (O4 _ _ f3 df.1 df.2)
 ·rw[Fe hn]
  simp only[E8,Gs]
  exact fin f acc x4 x5 x6 S3 h1 h2 (by omega) D3 OS f3
abbrev lF(w:aQ):Prop:=∀{S:aq} {d l:Addr} {most many size:Nat} {Q:bY} {E:de},xJ S d l->most<=8->1<=many->many<=4->1<=size->size<=60->
  (∀js ds S',yF 6 js [] ds->1<=ds.length->ds.length<=many->js.length<=most->xJ S' d l->xZ d l S S'->Q (jm js ds) S')->w [.ref d,.int most,.int many,.int size] S Q E
def kX{xw xd xb:aQ}(yH:dY xw)(xG:bf xd)(Bs:cS xb):lF (bI 9 (cM xw xd xb)):=by
 intro S0 d l most many size Q E D0 hmo hm1 hm4 hs1 hs2 k
 unfold cM
 refine jY ?_
 rw[show aF 9 [PV.ref d,PV.int most,PV.int many,PV.int size]=[some (.ref d),some (.int most),some (.int many),some (.int size),none,none,none,none,none] from rfl]
 refine aE fun N hN=>?_
 walk_at "x"
 refine yH D0 (by decide) (by decide) fun p ns S hl hnd hw0 _ Ba hpl hp D O0=>?_
 have hl8':ns.length=8:=hl
 have hl8:8<=ns.length:=by omega
 have Dt:ns.length<=100:=by omega
 have hw:∀z∈ns,yy z:=fun z hz=>(hw0 z hz).1
 refine hN _ _ ?_
 refine aE fun N hN=>?_
 walk_at "x"
 refine xG (m:=most+1) D (by omega) (by omega) fun r S1 r0 r1 D1 O1=>?_
 obtain⟨j,rfl⟩:∃j:Nat,r=(j:Int):=⟨r.toNat,by omega⟩
 have hp1:=O1 _ _ hp Ba hpl
 rw[hp1]
 dsimp only
 rw[kR (by rw[EG];omega),<-List.map_take]
 intro p2 hp2
 rw[aa]
 dsimp only
 have D2:xJ (xF S1 p2 (.lst ((ns.take j).map PV.str))) d l:=D1.new hp2
 have O2:xZ d l S (xF S1 p2 (.lst ((ns.take j).map PV.str))):=O1.trans (.new hp2)
 have hp2':=xZ.new (o:=.lst ((ns.take j).map PV.str)) hp2 _ _ hp1 Ba hpl
 generalize xF S1 p2 (.lst ((ns.take j).map PV.str))=S2 at D2 O2 hp2'
 refine hN _ _ (aE fun N hN=>?_)
 walk_at "x"
 intro p3 hp3
 have Du:=D2.free hp3
 refine xG (D2.new hp3) (by decide) (by decide) fun f S3 f0 f1 D3 O3=>?_
 have e3:=O3 _ _ (aa (S:=S2) (o:=.lst [.int 0,.int 4])) Du.1 Du.2
 have CB:=O3 _ _ (xZ.new hp3 _ _ hp2' Ba hpl) Ba hpl
 have Ey:xZ d l S S3:=O2.trans ((xZ.new hp3).trans O3)
 simp only[e3]
 obtain⟨v,hv,Dv⟩:=cQ (xs:=[PV.int 0,.int 4]) f0 (by simpa using f1)
 rw[hv]
 obtain⟨g,rfl,hg⟩:∃g:Nat,v = .int g/\g<=4:=by
  simp only[EX,HV,or_false]at Dv
  rcases Dv with rfl|rfl
  ·exact⟨0,rfl,by omega⟩
  ·exact⟨4,rfl,by omega⟩
 refine hN _ _ (aE fun N hN=>?_)
 walk_at "x"
 refine xG (m:=many) D3 (by omega) (by omega) fun r4 S4 a0 a1 D4 O4=>?_
 obtain⟨mm,em⟩:∃mm:Nat,1+r4=(mm:Int):=⟨(1+r4).toNat,by omega⟩
 dsimp only
 rw[em]
 have A6:=O4 _ _ CB Ba hpl
 refine hN _ _ (aE fun N hN=>?_)
 walk_at "x"
 refine⟨by omega,by omega,?_⟩
 rw[GN]
 have hjl:(ns.take j).length<=8:=by rw[Fz];omega
 have Ez:(ns.take j).length<=most:=by rw[Fz];omega
 refine jX (fun done ys S'=>∃ds:List (Str×Bd),ys=ds.map g7/\ds.length=done.length/\ds.map Prod.fst=(ns.drop g).take done.length/\done.length<=mm/\(∀q∈ds,q.2.good (ns.take j) []/\q.2.dep<=6/\q.2.size<=60)/\xJ S' d l/\xZ d l S4 S') ⟨[],rfl,rfl,rfl,Fp _,by simp,D4,.refl⟩ ?_ ?_ ?_
 ·rintro done ys S' ⟨ds,rfl,e,_,hd,_⟩
  exact⟨trivial,b9 (by rw[EG,e];omega)⟩
 ·rintro done x rest ys S' K e ⟨ds,rfl,e2,e3,hd,hc,D',O'⟩ hK
  obtain⟨rfl,hi⟩:=qo e
  walk_at "x"
  try simp only[cK,G2]
  have hp':=O' _ _ A6 Ba hpl
  simp only[hp']
  have hlt:g+done.length < ns.length:=by omega
  have hat:yt (ns.map PV.str) ((g:Int)+(done.length:Int))=some (.str ns[g+done.length]):=by
   have:((g:Int)+(done.length:Int))=((g+done.length:Nat):Int):=by omega
   rw[this]
   exact om (by rw[E1,Fo hlt];rfl)
  rw[hat]
  dsimp only
  refine⟨vb (by omega) (by omega),Bs D' (by omega) (by omega) (by omega) fun t S5 tg td tz tz2 _ D5 EA=>?_⟩
  refine hK _ _ ⟨ds++[(ns[g+done.length],t)],by simp[g7],by simp[e2],?_,by rw[EM];exact hi,fun y hy=>?_,D5,O'.trans EA⟩
  ·rw[FZ,e3,EM,Fd,List.take_succ,HJ,Fo hlt]
   rfl
  ·rcases Ff.mp hy with hy|hy
   ·exact hc y hy
   ·rw[FO.mp hy];exact⟨tg,td,tz⟩
 rintro ys S5 ⟨ds,rfl,e,ef,_,hds,D5,O5⟩
 rw[cD]at e ef
 intro p6 AB
 refine hN _ _ ?_
 walk_at "x"
 rw[aa]
 dsimp only
 have sub:∀q∈ds,q.1∈ns:=fun q hq=>by
  have:q.1∈ds.map Prod.fst:=EZ.mpr ⟨q,hq,rfl⟩
  rw[ef]at this
  exact List.mem_of_mem_drop (Gw this)
 refine k (ns.take j) ds _ ⟨⟨by omega,by omega,fun z hz=>hw z (Gw hz),by simp,fun q hq=>hw _ (sub q hq),fun q hq=>(hds q hq).1,fun q hq=>by have:=(hds q hq).2.1;omega,fun q hq=>(hds q hq).2.2⟩,hnd.sublist (GL _ _),by rw[ef];exact hnd.sublist ((GL _ _).trans (List.drop_sublist _ _)),fun q hq=>(hds q hq).2.1⟩ (by omega) (by omega) Ez (D5.new AB) (O0.trans (Ey.trans (O4.trans (O5.trans (.new AB)))))
def Tb.yx{S S':aq}{d l:Addr}(h:Tb S)(D:xJ S d l)(O:xZ d l S S'):Tb S':=by
 obtain⟨a,e⟩:=h
 obtain⟨_,_,_,D⟩:=D
 exact⟨a,O _ _ e (fun z=>by subst z;have:=D.1;rw[e]at this;cases this) fun z=>by subst z;have:=D.2;rw[e]at this;cases this⟩
def vo{ps:List (Str×Str)}(h:∀a∈ps,W2 a){z:Str}(hz:yy z):yy (nm ps z):=by
 induction ps with
 |nil=>exact hz
 |cons p r ih=>
  unfold nm
  split
  ·exact(h p (by simp)).2
  ·exact ih fun a ha=>h a (by simp[ha])
theorem oB{z:Str}:∀{ns ws:Vs},ns.length<=ws.length->z∈ns->nm (ns.zip ws) z∈ws
 |[],_,_,h=>by simp at h
 |_::_,[],h,_=>by simp at h
 |n::ns,w::ws,hl,h=>by
  show nm ((n,w)::ns.zip ws) z∈_
  unfold nm
  split
  ·simp
  ·rename_i e
   exact Fi _ (oB (by simpa using hl) ((EX.mp h).resolve_left fun q=>e q.symm))
theorem gm{z:Str}:∀{ns ws:Vs},ws.Nodup->ns.length<=ws.length->z∈ns->nm ((ns.zip ws).map sw) (nm (ns.zip ws) z)=z
 |[],_,_,_,h=>by simp at h
 |_::_,[],_,h,_=>by simp at h
 |n::ns,w::ws,nd,hl,h=>by
  obtain⟨n1,n2⟩:=EY.mp nd
  show nm ((w,n)::(ns.zip ws).map sw) (nm ((n,w)::ns.zip ws) z)=z
  by_cases e:n=z
  ·have e1:nm ((n,w)::ns.zip ws) z=w:=by unfold nm;rw[if_pos e]
   rw[e1]
   unfold nm
   rw[if_pos rfl]
   exact e
  ·have hz:=(EX.mp h).resolve_left fun q=>e q.symm
   have e1:nm ((n,w)::ns.zip ws) z=nm (ns.zip ws) z:=by rw[nm,if_neg e]
   have hm:=oB (ws:=ws) (by simpa using hl) hz
   rw[e1,nm,if_neg (fun q:w=nm (ns.zip ws) z=>n1 (by rw[q];exact hm))]
   exact gm n2 (by simpa using hl) hz
theorem oC:∀{ns ws:Vs},ns.length<=ws.length->(ns.zip ws).map (·.1)=ns
 |[],_,_=>by simp
 |_::_,[],h=>by simp at h
 |n::ns,w::ws,h=>by simp only[List.zip_cons_cons,EO,oC (by simpa using h)]
theorem oD:∀(ns ws:Vs),(((ns.zip ws).map sw).map (·.1)).Sublist ws
 |[],_=>by simp
 |_::_,[]=>by simp
 |n::ns,w::ws=>by
  show(w::((ns.zip ws).map sw).map (·.1)).Sublist (w::ws)
  exact(oD ns ws).cons₂ w
def qK{ns ws:Vs}(h1:∀z∈ns,yy z)(h2:∀z∈ws,yy z):∀a∈ns.zip ws,W2 a:=fun a ha=>⟨h1 _ (Gp (a:=a.1) (b:=a.2) ha).1,h2 _ (Gp (a:=a.1) (b:=a.2) ha).2⟩
theorem cY(r:Str->Str):∀t:Bd,(t.rn r).dep=t.dep
 | .rest=>rfl
 | .pay _ _=>rfl
 | .put _ _=>rfl
 | .use _=>rfl
 | .zf a=>by simp only[Bd.rn,Bd.dep,cY r a]
 | .xI a b=>by simp only[Bd.rn,Bd.dep,cY r a,cY r b]
 | .y6 a b=>by simp only[Bd.rn,Bd.dep,cY r a,cY r b]
 | .yS _ _ a b=>by simp only[Bd.rn,Bd.dep,cY r a,cY r b]
theorem cj(r:Str->Str):∀t:Bd,(t.rn r).size=t.size
 | .rest=>rfl
 | .pay _ _=>rfl
 | .put _ _=>rfl
 | .use _=>rfl
 | .zf a=>by simp only[Bd.rn,Bd.size,cj r a]
 | .xI a b=>by simp only[Bd.rn,Bd.size,cj r a,cj r b]
 | .y6 a b=>by simp only[Bd.rn,Bd.size,cj r a,cj r b]
 | .yS _ _ a b=>by simp only[Bd.rn,Bd.size,cj r a,cj r b]
theorem ck(r:Str->Str){js:Vs}:∀t:Bd,t.good js []->(t.rn r).good (js.map r) []
 | .rest,_=>trivial
 | .pay _ _,h=>h
 | .put z m,h=>⟨GA h.1,h.2⟩
 | .use z,h=>by cases h
 | .zf a,h=>ck r a h
 | .xI a b,h=>⟨ck r a h.1,ck r b h.2⟩
 | .y6 a b,h=>⟨ck r a h.1,ck r b h.2⟩
 | .yS z m a b,h=>⟨GA h.1,h.2.1,h.2.2.1,ck r a h.2.2.2.1,ck r b h.2.2.2.2⟩
theorem cm(r s:Str->Str){js:Vs}(hz:∀z∈js,s (r z)=z):∀t:Bd,t.good js []->(t.rn r).rn s=t
 | .rest,_=>rfl
 | .pay _ _,_=>rfl
 | .put z m,h=>by simp only[Bd.rn,hz z h.1]
 | .use z,_=>rfl
 | .zf a,h=>by simp only[Bd.rn,cm r s hz a h]
 | .xI a b,h=>by simp only[Bd.rn,cm r s hz a h.1,cm r s hz b h.2]
 | .y6 a b,h=>by simp only[Bd.rn,cm r s hz a h.1,cm r s hz b h.2]
 | .yS z m a b,h=>by simp only[Bd.rn,hz z h.1,cm r s hz a h.2.2.2.1,cm r s hz b h.2.2.2.2]
theorem f8:∀t:Bd,t.rn (nm [])=t
 | .rest=>rfl
 | .pay _ _=>rfl
 | .put _ _=>rfl
 | .use _=>rfl
 | .zf a=>by simp only[Bd.rn,f8 a]
 | .xI a b=>by simp only[Bd.rn,f8 a,f8 b]
 | .y6 a b=>by simp only[Bd.rn,f8 a,f8 b]
 | .yS _ _ a b=>by simp only[Bd.rn,f8 a,f8 b];rfl
def j9{js:Vs}{ds:List (Str×Bd)}{ps qs:List (Str×Str)}(H:yU js [] ds)(hp:∀a∈ps,W2 a)(hq:∀a∈qs,W2 a):yU (js.map (nm ps)) [] (kW ps qs ds):=
 ⟨by rw[EG];exact H.jl,by rw[EG];exact H.dl,fun z hz=>by obtain⟨y,hy,rfl⟩:=EZ.mp hz;exact vo hp (H.jw y hy),by simp,fun p hp'=>by obtain⟨q,hq',rfl⟩:=EZ.mp hp';exact vo hq (H.dw q hq'),
  fun p hp'=>by obtain⟨q,hq',rfl⟩:=EZ.mp hp';exact ck _ q.2 (H.gd q hq'),fun p hp'=>by obtain⟨q,hq',rfl⟩:=EZ.mp hp';dsimp only;rw[cY];exact H.dp q hq',fun p hp'=>by obtain⟨q,hq',rfl⟩:=EZ.mp hp';dsimp only;rw[cj];exact H.sz q hq'⟩
def oE{js ws us:Vs}{ds:List (Str×Bd)}(hg:∀p∈ds,p.2.good js [])(n1:ws.Nodup)(n2:us.Nodup)(l1:js.length<=ws.length)(l2:ds.length<=us.length) :
  jm ((js.map (nm (js.zip ws))).map (nm ((js.zip ws).map sw))) (kW ((js.zip ws).map sw) (((ds.map (·.1)).zip us).map sw) (kW (js.zip ws) ((ds.map (·.1)).zip us) ds))=jm js ds:=by
 have e1:(js.map (nm (js.zip ws))).map (nm ((js.zip ws).map sw))=js:=by
  rw[FD]
  exact(GZ fun z hz=>gm n1 l1 hz).trans (HG js)
 have e2:kW ((js.zip ws).map sw) (((ds.map (·.1)).zip us).map sw) (kW (js.zip ws) ((ds.map (·.1)).zip us) ds)=ds:=by
  show List.map _ (List.map _ ds)=ds
  rw[FD]
  refine(GZ fun p hp=>?_).trans (HG ds)
  show(nm (((ds.map (·.1)).zip us).map sw) (nm ((ds.map (·.1)).zip us) p.1),(p.2.rn (nm (js.zip ws))).rn (nm ((js.zip ws).map sw)))=p
  rw[gm n2 (by rw[EG];exact l2) (GA hp),cm _ _ (fun z hz=>gm n1 l1 hz) p.2 (hg p hp)]
 rw[e1,e2]
def qq(js:Vs)(ds:List (Str×Bd)):jm (js.map (nm [])) (kW [] [] ds)=jm js ds:=by
 have e2:kW [] [] ds=ds:=(GZ fun p _=>by show(nm [] p.1,p.2.rn (nm []))=p;rw[f8];rfl).trans (HG ds)
 rw[e2,show js.map (nm [])=js from (GZ fun z _=>rfl).trans (HG js)]
theorem oF:∀{l m:Vs},l.Nodup->(∀z∈l,z∈m)->l.length<=m.length
 |[],_,_,_=>Fp _
 |z::l,m,h,hs=>by
  obtain⟨h1,h2⟩:=EY.mp h
  have hz:=hs z (by simp)
  have ih:=oF (m:=m.erase z) h2 fun y hy=>(List.mem_erase_of_ne (by rintro rfl;exact h1 hy)).mpr (hs y (by simp[hy]))
  rw[List.length_erase_of_mem hz]at ih
  have:=List.length_pos_of_mem hz
  rw[EU]
  omega
def qr{ws zs:Vs}(h:ws.Nodup):ws.length<=(ws.filter fun z=>!decide (z∈zs)).length+zs.length:=by
 have h1:(ws.filter fun z=>decide (z∈zs)).length<=zs.length:=by
  have nd:=h.sublist (HE (p:=fun z=>decide (z∈zs)) (l:=ws))
  exact oF nd fun z hz=>by simpa using(FW.mp hz).2
 have h2:ws.length=(ws.filter fun z=>decide (z∈zs)).length+(ws.filter fun z=>!decide (z∈zs)).length:=by
  clear h h1
  induction ws with
  |nil=>rfl
  |cons w r ih=>by_cases e:w∈zs<;>simp[Hw,e]<;>omega
 omega
abbrev qu(w:aQ):Prop:=∀{ns:Vu} {S:aq} {Q:bY} {E:de},ns.length<=63->Tb S->(∀S',Q (.bl true) S')->w [.cl (ns.map PV.int)] S Q E
def tW{a b:Str}{S:aq}{Q:bY}(e:a=b)(q:Q (.bl false) S):bR true (.str a) (.str b) S Q:=by
 refine j2 true ?_
 rw[GB e]
 exact q
def tJ{x0 x1 x2 x3 x4 x5 x6:aQ}(zr:j0 x0)(Ak:lF x1)(yH:dY x2)(yX:iR x3)(zA:lE x4)(zn:ox x5)(zh:j7 x6):qu (bI 13 (on x0 x1 x2 x3 x4 x5 x6)):=by
 intro ns S Q E hn hT k
 unfold on
 refine jY ?_
 rw[show aF 13 [PV.cl (ns.map PV.int)]=[some (.cl (ns.map PV.int)),none,none,none,none,none,none,none,none,none,none,none,none] from rfl]
 refine aE fun N hN=>?_
 simp only[aw,ad,ap,v3,lk,c3,List.set_cons_zero,List.set_cons_succ]
 refine zr hn (by decide) (by decide) fun d l S1 _ _ D1 X1=>?_
 refine hN _ _ (aE fun N hN=>?_)
 simp only[fG,gK,c3]
 refine⟨by decide,by decide,?_⟩
 refine jh (fun done σ S'=>∃x2 x3 x4 x5 x6 x7 x8 x9 CC CD CF,σ=[some (.cl (ns.map PV.int)),some (.ref d),x2,x3,x4,x5,x6,x7,x8,x9,CC,CD,CF]/\xJ S' d l/\Tb S') ⟨_,_,_,_,_,_,_,_,_,_,_,rfl,D1,hT.ext X1⟩ (fun _ _ _ _=>trivial) ?_ ?_
 ·rintro done x rest σ S2 K e ⟨x2,x3,x4,x5,x6,x7,x8,x9,CC,CD,CF,rfl,D2,T2⟩ hK
  simp only[Tg.put,List.set_cons_succ,List.set_cons_zero]
  refine aE fun N2 y4=>?_
  simp only[aw,ad,ap,v3,lk,c3]
  refine Ak (most:=4) (many:=4) (size:=14) D2 (by decide) (by decide) (by decide) (by decide) (by decide) fun js ds S3 H d1 d4 j4 D3 O3=>?_
  have T3:=T2.yx D2 O3
  have hg:=H.toyU
  have dep:∀p∈ds,p.2.dep<=12:=fun p hp=>by have:=H.dq p hp;omega
  refine y4 _ _ (aE fun N2 y4=>?_)
  simp only[aw,ag,ap,v3,lk,List.set_cons_succ,List.set_cons_zero]
  refine hg.repr ?_
  refine y4 _ _ (aE fun N2 y4=>?_)
  simp only[aw,aO,aS,aj,v3,lk,c3,al,jm,kP,bJ,List.set_cons_succ,List.set_cons_zero]
  refine bq (S0:=S3) g7 (fun p=>PV.str p.1) (fun S X=>trivial) ds [] S3 .refl (by simp;omega) (fun p hp S1 X1=>⟨_,rfl,fun K hK=>hK S1 .refl⟩) fun S4 X4 p5 Dw=>?_
  have X5:Ext S3 (xF S4 p5 (.lst ([]++ds.map fun p=>PV.str p.1))):=X4.trans (.new Dw)
  have d5:=(D3.ext X4).free Dw
  have f5:(xF S4 p5 (.lst ([]++ds.map fun p=>PV.str p.1))) p5=some (.lst ((ds.map (·.1)).map PV.str)):=by rw[aa,GI,FD];rfl
  generalize xF S4 p5 (.lst ([]++ds.map fun p=>PV.str p.1))=S5 at X5 f5
  have D5:=D3.ext X5
  refine y4 _ _ (aE fun N2 y4=>?_)
  simp only[aw,aO,aS,ad,ap,v3,lk,c3,List.set_cons_succ,List.set_cons_zero]
  refine yH (m:=16) D5 (by decide) (by decide) fun pw vs S6 hl hnd hw hpw w1 w2 fw D6 O6=>?_
  have hl:vs.length=16:=hl
  have CG:=O6 _ _ f5 d5.1 d5.2
  simp only[bJ,fw]
  have nw:∀z∈ds.map (·.1),yy z:=fun z hz=>by obtain⟨p,hp,rfl⟩:=EZ.mp hz;exact hg.dw p hp
  have zw:∀z∈js++ds.map (·.1),yy z:=fun z hz=>(Ff.mp hz).elim (hg.jw z) (nw z)
  refine cX (S0:=S6) PV.str PV.str (fun w=>!decide (w∈js++ds.map (·.1))) (fun S X=>X _ _ fw) vs [] S6 .refl (by simp;omega) (fun w hw'=>⟨_,rfl,fun S7 X7 K7 CH=>?_,fun S7 X7 K7 CH=>CH S7 .refl⟩) fun S7 X7 p6 AB=>?_
  ·simp only[aZ,aj,ag,ap,v3,lk,c3,al,d8,List.replicate_succ,List.replicate_zero,EO,Fw,List.cons_append,List.nil_append,List.set_cons_zero,ic]
   show ∀p,S7 p=none->_
   intro a ha
   have na:p5≠a:=fun e=>by have:=X7 _ _ CG;rw[e,ha]at this;cases this
   simp only[aJ,aa,ao na,X7 _ _ CG]
   refine⟨dR (by simp;omega),fun b hb=>?_⟩
   refine ji (zs:=js++ds.map (·.1)) (by rw[aa,FZ]) (cP (hw w hw').1) (fun y hy=>cP (zw y hy)) ?_
   rw[HQ]
   exact CH _ ((Ext.new ha).trans (.new hb))
  generalize hws:vs.filter (fun w=>!decide (w∈js++ds.map (·.1)))=ws at AB
  have ww:∀z∈ws,yy z/\z ∉ js/\z ∉ ds.map (·.1):=fun z hz=>by
   rw[<-hws]at hz
   obtain⟨h1,h2⟩:=FW.mp hz
   simp only[Bool.not_eq_true',decide_eq_false_iff_not,Ff,not_or]at h2
   exact⟨(hw z h1).1,h2⟩
  have wn:ws.Nodup:=by rw[<-hws];exact hnd.sublist HE
  have wl:ws.length<=16:=by rw[<-hws,<-hl];exact GK _ _
  have Cv:8<=ws.length:=by
   have:=qr (zs:=js++ds.map (·.1)) hnd
   rw[hws,EM,EG]at this
   omega
  have D7:=D6.ext X7
  have d6:=D7.free AB
  have X8:Ext S6 (xF S7 p6 (.lst ([]++ws.map PV.str))):=X7.trans (.new AB)
  have f6:(xF S7 p6 (.lst ([]++ws.map PV.str))) p6=some (.lst (ws.map PV.str)):=aa
  generalize xF S7 p6 (.lst ([]++ws.map PV.str))=S8 at X8 f6
  have Dx:=X8 _ _ CG
  have D8:=D6.ext X8
  have T8:Tb S8:=((T3.ext X5).yx D5 O6).ext X8
  refine y4 _ _ (aE fun N2 y4=>?_)
  simp only[h_,ag,ad,ap,aj,v3,lk,c3,al,ic,List.set_cons_succ,List.set_cons_zero]
  show ∀p,S8 p=none->_
  intro a ha
  have da:=D8.free ha
  have n6a:p6≠a:=fun e=>by rw[e,ha]at f6;cases f6
  have X9:Ext S8 (xF S8 a (.lst (js.map PV.str))):=.new ha
  have fa:(xF S8 a (.lst (js.map PV.str))) a=some (.lst (js.map PV.str)):=aa
  generalize xF S8 a (.lst (js.map PV.str))=S9 at X9 fa
  have D9:=D8.ext X9
  have T9:=T8.ext X9
  refine yX D9 fa (X9 _ _ f6) da.1 da.2 d6.1 d6.2 H.jn hg.jw (fun z hz=>⟨(ww z hz).1,(ww z hz).2.1⟩) (by omega) (by omega) (by omega) fun ps SA pn EB pl DA OA=>?_
  refine yX DA (OA _ _ (X9 _ _ Dx) d5.1 d5.2) (OA _ _ (X9 _ _ f6) d6.1 d6.2) d5.1 d5.2 d6.1 d6.2 H.dn nw (fun z hz=>⟨(ww z hz).1,(ww z hz).2.2⟩) (by rw[EG];omega) (by omega) (by omega) fun qs SB qn qw ql DB OB=>?_
  have CI:=OA.trans OB
  have TB:=T9.yx D9 CI
  have Dy:=CI _ _ (X9 _ _ Dx) d5.1 d5.2
  have Dz:=CI _ _ (X9 _ _ f6) d6.1 d6.2
  have g1:yU (js.map (nm ps)) [] (kW ps qs ds):=j9 hg EB qw
  refine y4 _ _ (aE fun N2 y4=>?_)
  rw[show PV.tup [PV.tup (js.map PV.str),PV.tup (ds.map g7)]=jm js ds from rfl]
  simp only[aw,ag,ad,ap,v3,lk,List.set_cons_succ,List.set_cons_zero]
  refine zA (by omega) (by omega) dep fun SC XC=>g1.repr ?_
  refine y4 _ _ (aE fun N2 y4=>?_)
  simp only[cw,hV,aZ,aj,ag,ad,ap,az,v3,lk]
  refine zn (TB.ext XC) (by omega) (by omega) dep pn qn fun SD XD=>g1.repr (tW rfl ?_)
  simp only[E8,Gs]
  refine zn (ps:=[]) (qs:=[]) ((TB.ext XC).ext XD) (by omega) (by omega) dep (by simp) (by simp) fun SE XE=>?_
  rw[qq]
  refine hg.repr (tW rfl ?_)
  simp only[E8,Gs]
  have DC:Ext SB SE:=XC.trans (XD.trans XE)
  refine y4 _ _ (aE fun N2 y4=>?_)
  simp only[h_,ad,ap,aj,gN,v3,lk,c3,al,List.set_cons_succ,List.set_cons_zero]
  rw[show jm js ds=PV.tup [PV.tup (js.map PV.str),PV.tup (ds.map g7)] from rfl]
  simp only[ic]
  refine zh (ns:=js) (ws:=ws) .tup (DC _ _ Dz) (by omega) (by omega) fun SF XF=>?_
  have BK:=DC.trans XF
  simp only[BK _ _ Dz]
  intro t ht
  rw[<-HS]
  have EC:p5≠t:=fun e=>by have:=BK _ _ Dy;rw[e,ht]at this;cases this
  refine zh (ns:=ds.map (·.1)) (ws:=ws.reverse) (.lst (by rw[ao EC];exact BK _ _ Dy)) aa (by rw[EG,Ga];omega) (by rw[Ga];omega) fun SG XG=>?_
  have DD:Ext SB SG:=BK.trans ((Ext.new ht).trans XG)
  have nz:(ws.reverse).Nodup:=List.pairwise_reverse.mpr (List.Pairwise.imp F3 wn)
  have l1:js.length<=ws.length:=by omega
  have l2:(ds.map (·.1)).length<=ws.reverse.length:=by rw[EG,Ga];omega
  have DE:∀z∈ws,yy z:=fun z hz=>(ww z hz).1
  have ED:∀z∈ws.reverse,yy z:=fun z hz=>DE z (HU.mp hz)
  have g2:yU (js.map (nm (js.zip ws))) [] (kW (js.zip ws) ((ds.map (·.1)).zip ws.reverse) ds):=j9 hg (qK hg.jw DE) (qK nw ED)
  refine y4 _ _ (aE fun N2 y4=>?_)
  simp only[aw,ad,ap,aj,v3,lk,c3,al,ic,List.set_cons_succ,List.set_cons_zero]
  rw[show PV.tup [PV.tup (js.map PV.str),PV.tup (ds.map g7)]=jm js ds from rfl]
  refine zn (TB.ext DD) (by omega) (by omega) dep (by rw[oC l1];exact H.jn) (by rw[oC l2];exact H.dn) fun SH XH=>y4 _ _ (aE fun N2 y4=>?_)
  have DF:=DD.trans XH
  simp only[cw,hV,aZ,aj,ag,ad,ap,v3,lk,c3,al,ic,kP,List.set_cons_succ,List.set_cons_zero]
  refine zn (TB.ext DF) (by rw[EG];omega) (by rw[EG];omega) (fun p hp=>by obtain⟨q,hq,rfl⟩:=EZ.mp hp;dsimp only;rw[cY];exact dep q hq) (wn.sublist (oD js ws)) (nz.sublist (oD _ _)) fun SI XI=>?_
  rw[oE hg.gd wn nz l1 (by rw[Ga];omega)]
  refine hg.repr (tW rfl ?_)
  simp only[E8,Gs]
  refine g2.repr ?_
  refine zA (by omega) (by omega) dep fun SJ XJ=>g2.repr (tW rfl ?_)
  simp only[E8,Gs]
  have CJ:=DF.trans (XI.trans XJ)
  refine y4 _ _ ?_
  simp only[cw,hV,aZ,aj,ag,ad,ap,v3,lk]
  refine zn (TB.ext CJ) (by omega) (by omega) dep pn qn fun SK XK=>g1.repr (tW rfl ?_)
  simp only[E8,Gs]
  refine hg.repr (tW rfl ?_)
  simp only[E8,Gs]
  exact hK _ _ ⟨_,_,_,_,_,_,_,_,_,_,_,rfl,DB.ext (CJ.trans XK),TB.ext (CJ.trans XK)⟩
 ·rintro σ S2 ⟨x2,x3,x4,x5,x6,x7,x8,x9,CC,CD,CF,rfl,D2,T2⟩
  refine hN _ _ ?_
  walk_at "x"
  exact k S2
def fL:bf w__law_draw:=xG
def vp:jj eM:=zO
def lG:dY bP:=yH fL
def tK:gV dM:=zt fL vp
def oG:e9 b_:=yM fL tK
theorem oH:∀n,e_ n (cb n)
 |0=>fun _ _ _ _ _ _ _ h0 h1 _=>by omega
 |n+1=>zu fL oG n (oH n)
theorem j_:∀n,bC n (a_ n)
 |0=>fun h _ _=>absurd h (by have:=Bd.zg;exact Nat.not_le.mpr (this _))
 |n+1=>mq n (j_ n)
def kc:bC 12 ba:=j_ 12
theorem ke:∀n,n<=12->cR n (a8 n)
 |0,_=>fun h _ _=>absurd h (by have:=Bd.zg;exact Nat.not_le.mpr (this _))
 |n+1,hn=>mr n 12 kc (ke n (by omega)) (by omega)
def wQ:cS bD:=jk 12 (by decide) (oH 12) kc (ke 12 (by decide)) oG
theorem oI:∀n,fj n (cg n)
 |0=>fun h _=>absurd h (by have:=Bd.zg;exact Nat.not_le.mpr (this _))
 |n+1=>qp lD n (oI n)
theorem qL:∀n,gk n (dZ n)
 |0=>fun h _ _=>absurd h (by have:=Bd.zg;exact Nat.not_le.mpr (this _))
 |n+1=>kU zj vm n (qL n)
def oJ:∀(ns:Vu) (S:aq),ns.length<=63->Tb S->j6 [.cl (ns.map PV.int)] S (fun v _=>v = .bl true) e7:=fun ns S h hT=>tJ zr (kX lG fL wQ) lG (yX fL) (zA lD (oI 12)) (zn (qL 12)) zh h hT fun _=>rfl
end G49
namespace G49
open PySem L2 L3
def tL{l:PySem.W.OpenLaw}{w:World}{K:Vo}{h:Heap}{mg:Vr}{fa:Addr}(X:K.In h)(G:h.Ns mainGlobals mg)(hfa:mg "law" = some (.ref fa)){tc tp:Addr}
  (A7:PySem.W.tabIn K "called_anew" = some (tc,tp))
  (yB:y9 K "sides_of" (cE 2))
  (yI:y9 K "changed" (cE 3))
  (x_:y9 K "called_anew" (cE 5))
  (yj:y9 K "_law_deal" (cE 7))
  (yk:y9 K "_law_draw" (cE 8))
  (yC:y9 K "_law_low" (cE 9))
  (ye:y9 K "_law_words" (cE 10))
  (ym:y9 K "_law_cost" (cE 11))
  (yn:y9 K "_law_leaf" (cE 12))
  (yo:y9 K "_law_body" (cE 13))
  (xN:y9 K "_law_pass_count" (cE 14))
  (xM:y9 K "_law_round_count" (cE 15))
  (xR:y9 K "_law_deed_body" (cE 16))
  (yf:y9 K "_law_house" (cE 17))
  (yg:y9 K "_law_pairs" (cE 18))
  (yp:y9 K "_law_name" (cE 19))
  (yq:y9 K "_law_anew" (cE 20))
  (yD:y9 K "_law_due" (cE 21))
  (yr:y9 K "_law_back" (cE 22))
  (yh:BF l.prog w K "SIDES_FROM" (C.k_SIDES_FROM.map fun kv=>(kv.1,V.int kv.2)))
  (Al:((["dict","len","list","max","range","repr","reversed","tuple","zip"]:Vs).all fun x=>qg (PySem.W.nsIn K mainGlobals x))=true)
  (Am:y9 K "law" (cE 23))
  : ∃fd:FuncData,(∀(s:Shared) (v:Value),BindsTo s fd ⟨[v],[]⟩ [("_law_script",v)])/\∀base:Heap,K.In base->base.Ns mainGlobals mg->PySem.W.CodeHd base tc tp->base.BuiltinsAt mg tp->g_ l.prog w K mg base oM 27 fa fd ["_law_script"] (tS K 1 j6):=by
 obtain⟨kV,doc,pm,an,cdv,ct,O⟩:=Am.law X G hfa (ps:=["_law_script"]) (fun _ _ _ _ _ _=>tV fun _=>rfl)
 exact⟨_,fun s v=>.of_eq rfl,fun base kb nb hc hb=>(tF (P:=l.prog) (w:=w) (base:=base) ⟨⟨kb,nb,A7,hc,hb⟩,yB.own X G (fun _ _ _ _ _ _=>tV fun _=>rfl),
  yI.own X G (fun _ _ _ _ _ _=>qe fun _ _=>rfl),
  x_.own X G (fun _ _ _ _ _ _=>wD fun _ _ _=>rfl),
  yj.own X G (fun _ _ _ _ _ _=>qe fun _ _=>rfl),
  yk.own X G (fun _ _ _ _ _ _=>qe fun _ _=>rfl),
  yC.own X G (fun _ _ _ _ _ _=>qe fun _ _=>rfl),
  ye.own X G (fun _ _ _ _ _ _=>qe fun _ _=>rfl),
  ym.own X G (fun _ _ _ _ _ _=>tV fun _=>rfl),
  yn.own X G (fun _ _ _ _ _ _=>qe fun _ _=>rfl),
  yo.own X G (fun _ _ _ _ _ _=>wE fun _ _ _ _=>rfl),
  xN.own X G (fun _ _ _ _ _ _=>tV fun _=>rfl),
  xM.own X G (fun _ _ _ _ _ _=>tV fun _=>rfl),
  xR.own X G (fun _ _ _ _ _ _=>wE fun _ _ _ _=>rfl),
  yf.own X G (fun _ _ _ _ _ _=>wE fun _ _ _ _=>rfl),
  yg.own X G (fun _ _ _ _ _ _=>wD fun _ _ _=>rfl),
  yp.own X G (fun _ _ _ _ _ _=>qe fun _ _=>rfl),
  yq.own X G (fun _ _ _ _ _ _=>qe fun _ _=>rfl),
  yD.own X G (fun _ _ _ _ _ _=>wD fun _ _ _=>rfl),
  yr.own X G (fun _ _ _ _ _ _=>qe fun _ _=>rfl),
  jg (x:="dict") X G Al,
  jg (x:="len") X G Al,
  jg (x:="list") X G Al,
  jg (x:="max") X G Al,
  jg (x:="range") X G Al,
  jg (x:="repr") X G Al,
  jg (x:="reversed") X G Al,
  jg (x:="tuple") X G Al,
  jg (x:="zip") X G Al,
  yh.kd X G⟩ O).ok⟩
def wR{l:PySem.W.OpenLaw}{q:Program}{loose:Vs}{XP:(Vr)->Heap->Prop}{YP:World->Heap->Prop}{d d2:DefRec}{K:Params->PySem.W.Frag}{tc tp:Addr}(hn:l.most=some 63)(hdf:d.params.defaults=[])
  (hY:∀(w:World) (h:Heap),YP w h->(K w.params).In h)
  (hy:(PyProof.Rows.recsOf q).find? (fun e=>e.name == ("called_anew":Str))=some d2) (hT:∀w:World,PySem.W.tabIn (K w.params) "called_anew" = some (tc,tp)) (A1:∀w:World,(K w.params).lookup tp=none)
  (F:∀(w:World) (mg:Vr) (fa:Addr) (h:Heap),(K w.params).In h->h.Ns mainGlobals mg->mg d.name=some (.ref fa)->
   ∃fd:FuncData,(∀(s:Shared) (u:Value),BindsTo s fd ⟨[u],[]⟩ [("_law_script",u)])/\∀base:Heap,(K w.params).In base->base.Ns mainGlobals mg->PySem.W.CodeHd base tc tp->base.BuiltinsAt mg tp->g_ l.prog w (K w.params) mg base oM 27 fa fd ["_law_script"] (tS (K w.params) 1 j6)) :
  PySem.W.WalkO q loose XP YP l.row.toRowW d [] (fun f vs=>PySem.call f vs):=
 L2.nv (n:=63) (k:=27) (x:="_law_script") (CX:=fun _=>oM) (sp:=fun w=>tS (K w.params) 1 j6) hn (by decide) hdf ⟨rfl,by decide,by decide,rfl⟩ hY hy hT A1 F (fun w _ a ns hl hO hS=>u8 (pos:=tE) (q:=zv.qual) (hT w) hO hS (oJ ns _ hl ⟨tp,if_pos rfl⟩)) fun _ _ _ _ _ z=>z
end G49
local macro_rules | `(tactic| walk_at "k")=>`(tactic| (apply L3.xz; k_is; k_is; k_is; k_is))
open PySem PySem.W PyProof.Rows
set_option maxRecDepth 100000 in
set_option maxHeartbeats 0 in
theorem PySem.Challenge.cw_dueworth_k49_houses_called_anew_holds : PySem.Challenge.rw_dueworth_k49_houses_called_anew.Holds := by
 w_on; refine holds_law E49.said fun said => ?_
 refine holds_open (q := E49.vw) (loose := ["SIDES_FROM"]) (Xt := fun s => (xlAt E49.vw [] s && recOk (RowW.records E49.rr) s)) (XP := XL E49.vw []) (N := 1480)
  (Yf := Hook.obs E49.hk) (Ya := Hook.val E49.hk) (YP := Hook.says (kmHook E49.early.heap_1 E49.as E49.wS [29])) E49.left (Hook.of E49.hk) (Hook.keeps E49.hk) (fun s e => xl_of s (F4.mp e).1)
  XL.keeps rfl rfl rfl (fun s e => recFacts_of (F4.mp e).2) rfl (by assumption)
  (by decide +kernel) ⟨rfl, rfl, rfl, rfl, rfl, by decide +kernel⟩ ?hw ?hc
 (case hw => w_witness2)
 k_fill
 refine' G49.wR (l := PySem.Challenge.rw_dueworth_k49_houses_called_anew) (tc := 31) (tp := 29) rfl rfl (fun w h Y => PySem.W.km_in_of Y) ?hy ?hT ?A1 ?F
 (case hy => exact rfl)
 (case hT => intro w; kernel_rfl)
 (case A1 => intro w; kernel_rfl)
 case F =>
  intro w mg fa h KX G hmg
  refine' G49.tL KX G hmg (tc := 31) (tp := 29) ?A7 ?yB ?yI ?x_ ?yj ?yk ?yC ?ye ?ym ?yn ?yo ?xN ?xM ?xR ?yf ?yg ?yp ?yq ?yD ?yr ?yh ?Al ?Am
  (case yB => walk_at "k")
  (case yI => walk_at "k")
  (case x_ => walk_at "k")
  (case yj => walk_at "k")
  (case yk => walk_at "k")
  (case yC => walk_at "k")
  (case ye => walk_at "k")
  (case ym => walk_at "k")
  (case yn => walk_at "k")
  (case yo => walk_at "k")
  (case xN => walk_at "k")
  (case xM => walk_at "k")
  (case xR => walk_at "k")
  (case yf => walk_at "k")
  (case yg => walk_at "k")
  (case yp => walk_at "k")
  (case yq => walk_at "k")
  (case yD => walk_at "k")
  (case yr => walk_at "k")
  (case yh => apply L3.xA; k_is; k_is; rfl; exact L2.sa _ w [("then", 1, _, _), ("either", 1, _, _), ("take", 3, _, _), ("often", 1, _, _)] _ (by decide +kernel))
  (case Al => kernel_rfl)
  (case A7 => kernel_rfl)
  (case Am => walk_at "k")
#print axioms PySem.Challenge.cw_dueworth_k49_houses_called_anew_holds
