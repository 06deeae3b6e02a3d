import PyProof.Rows.All
import Wide.All
import OpenK.AllK
import Wide.FinOn
import Lean
import PyProof.EqAt
import PyProof.EqKinds
import PyProof.TupleCall
import PySem.Challenge.RW_dueworth_k24_tallies_of_stories
import Open.Tree
import Open.Head
section
set_option Elab.async false
set_option linter.all false
set_option maxRecDepth 100000
set_option maxHeartbeats 0
abbrev HL:=@PySem.wpAny_bind
abbrev HM:=@PySem.Heap.get?_push_of_some
abbrev HN:=@Nat.le_refl
abbrev HP:=@decide_eq_true_eq
abbrev HQ:=@List.length_map
abbrev HR:=@PySem.Heap.lt_size
abbrev HS:=@PySem.wpAny_pure
abbrev HU:=@List.size_toArray
abbrev HV:=@PySem.Heap.get?_push_size
abbrev HW:=@Bool.false_bne
abbrev HX:=@Nat.lt_of_lt_of_le
abbrev HY:=@List.length_append
abbrev HZ:=@List.mem_cons
abbrev Ia:=@List.getElem?_map
abbrev Ib:=@Nat.le_trans
abbrev Ic:=@List.length_cons
abbrev Ie:=@List.not_mem_nil
abbrev Ig:=@Bool.false_ne_true
abbrev Ih:=@Int.mul_le_mul_of_nonneg_right
abbrev Ii:=@List.mem_map
abbrev Ij:=@PySem.PassesOwn.never
abbrev Ik:=@Nat.ne_of_lt
abbrev Il:=@Int.le_refl
abbrev Im:=@List.map_map
abbrev Io:=@List.mem_append_right
abbrev Ip:=@PySem.wpAny_field
abbrev Iq:=@List.replicate_succ
abbrev Ir:=@List.map_cons
abbrev Iu:=@List.mem_append
abbrev Iw:=@Int.toNat_natCast
abbrev Iz:=@Int.mul_le_mul_of_nonneg_left
abbrev IA:=@PySem.wpAny_seqItems
abbrev IB:=@List.mem_singleton
abbrev IC:=@PySem.wpAny_setField_rec
abbrev ID:=@PySem.wpAny_pyIter_tuple
abbrev IE:=@PyProof.Rows.slot_tuple_getitem
abbrev IF:=@List.length_replicate
abbrev IG:=@PySem.wpAny_callSpecial?_slot
abbrev II:=@PySem.wpAny_pyIter_list
abbrev IJ:=@decide_eq_false
abbrev IK:=@List.nil_append
abbrev IL:=@List.getElem?_eq_getElem
abbrev IM:=@Nat.zero_le
abbrev IP:=@List.map_congr_left
abbrev IQ:=@PyProof.Rows.callWith_type1
abbrev IS:=@congrArg
abbrev IU:=@List.mem_of_getElem?
abbrev IV:=@List.getElem?_append_left
abbrev IW:=@PySem.Heap.size_push
abbrev IY:=@Option.some.inj
abbrev IZ:=@List.mem_cons_of_mem
abbrev I9:=@List.all_eq_true
abbrev Ja:=@Nat.le_add_right
abbrev Jb:=@PySem.wpAny_newObj_type
abbrev Jc:=@List.getElem?_append_right
abbrev Jd:=@PySem.Heap.IsTuple.push
abbrev Je:=@or_false
abbrev Jf:=@List.length_range
abbrev Jg:=@Int.mul_nonneg
abbrev Jh:=@List.length_nil
abbrev Ji:=@PySem.wpAny_loadPart'
abbrev Jj:=@List.getElem?_eq_some_iff
abbrev Jk:=@List.length_singleton
abbrev Jl:=@List.mem_cons_self
abbrev Jm:=@List.length_take
abbrev Jo:=@List.length_drop
abbrev Jp:=@PySem.wpAny_call_entry
abbrev Jq:=@PySem.Heap.IsList.push
abbrev Jr:=@List.mem_of_mem_take
abbrev Js:=@Nat.pow_le_pow_right
abbrev Jt:=@List.getElem?_replicate
abbrev Ju:=@PySem.F.slot_zip_next
abbrev Jv:=@PySem.mem_of_lookup
abbrev Jw:=@Option.map_eq_some_iff
abbrev Jx:=@Int.le_of_lt
abbrev Jy:=@Nat.lt_irrefl
abbrev Jz:=@PyProof.Rows.assignInOrder_cons
abbrev JA:=@PySem.F.slot_tuple_iterator_next
abbrev JB:=@List.getElem?_eq_none
abbrev JC:=@List.getElem?_zip_eq_some
abbrev JD:=@PySem.wpAny_passesOwn
abbrev JE:=@List.nodup_cons
abbrev JF:=@List.mem_append_left
abbrev JG:=@List.flatten_cons
abbrev JH:=@PySem.wpAny_onRaise
abbrev JI:=@Int.mul_ediv_cancel_left
abbrev JJ:=@Int.fdiv_eq_ediv_of_dvd
abbrev JK:=@Int.eq_ofNat_of_zero_le
abbrev JL:=@PySem.wpAny_mono
abbrev JM:=@Nat.ne_of_gt
abbrev JN:=@PySem.wpAny_Call_Name_kw
abbrev JO:=@if_true
abbrev JP:=@List.append_nil
abbrev JQ:=@PySem.Heap.get?_update_self
abbrev JR:=@List.take_sublist
abbrev JS:=@Bool.and_eq_true_iff
abbrev JT:=@PySem.wpAny_rule
abbrev JU:=@Int.mul_one
abbrev JV:=@PySem.call_meets
abbrev JW:=@List.mem_of_mem_drop
abbrev JX:=@Nat.pow_lt_pow_right
abbrev JY:=@Int.mul_zero
abbrev JZ:=@Int.mul_comm
abbrev J3:=@Nat.zero_add
abbrev J4:=@PySem.F.slot_tuple_mul
abbrev J5:=@List.getElem?_range
abbrev J6:=@PySem.wpAny_holding
abbrev J7:=@PySem.F.args_tuple_add_2
abbrev J8:=@Ne.symm
abbrev J9:=@Bool.eq_iff_iff
abbrev Ka:=@Int.natCast_pos
abbrev Kc:=@Int.ediv_nonneg
abbrev Kd:=@PySem.tupleKind_room_in1
abbrev Ke:=@Nat.lt_of_le_of_lt
abbrev Kf:=@List.getElem?_drop
abbrev Kg:=@Int.emod_lt_of_pos
abbrev Kh:=@PySem.F.entry_tuple_add
abbrev Kl:=@PySem.wpAny_letGo
abbrev Km:=@List.mem_range
abbrev Kn:=@Nat.le_of_lt
abbrev Ko:=@PySem.wpAny_bindName
abbrev Kp:=@PySem.F.slot_tuple_add
abbrev Kq:=@Prod.ext
abbrev Kr:=@PySem.Heap.get?_update_other
abbrev Ks:=@List.reverse_cons
abbrev Ku:=@List.map_nil
abbrev Kv:=@PySem.F.args_zip_next_1
abbrev Kw:=@Int.zero_add
abbrev Ky:=@List.eraseIdxIfInBounds_toArray
abbrev Kz:=@Nat.le_of_ble_eq_true
abbrev KA:=@Bool.and_eq_true
abbrev KC:=@PySem.F.entry_zip_next
abbrev KD:=@PySem.wpAny_pyIter_zip
abbrev KG:=@Int.mul_assoc
abbrev KH:=@Bool.true_bne
abbrev KI:=@PySem.wpAny_updateSeq_pair
abbrev KJ:=@Int.neg_mul
abbrev KL:=@Nat.add_mul
abbrev KN:=@List.mem_filter
abbrev KO:=@PySem.wpAny_execs_nil
abbrev KP:=@PySem.F.slot_int_rmul
abbrev KQ:=@List.forIn_cons
abbrev KR:=@Int.emod_nonneg
abbrev KS:=@List.map_append
abbrev KU:=@Nat.not_lt_zero
abbrev KW:=@beq_eq_false_iff_ne
abbrev KY:=@List.filterMap_cons
abbrev KZ:=@Array.length_toList
abbrev K0:=@PySem.Heap.SameBut.update
abbrev K1:=@Nat.mul_le_mul_left
abbrev K2:=@Nat.lt_trans
abbrev K7:=@decide_eq_true
abbrev K8:=@Bool.false_eq_true
abbrev K9:=@Nat.not_le
abbrev La:=@Option.isSome_map
abbrev Lb:=@decide_true
abbrev Lc:=@Int.mul_add
abbrev Ld:=@List.any_cons
abbrev Le:=@List.filter_cons
abbrev Lf:=@Int.ediv_le_self
abbrev Lg:=@Int.le_trans
abbrev Lh:=@Int.add_zero
abbrev Li:=@if_false
namespace ET
open PySem PySem.W PyProof.Rows
def gr(tb:String→Option Builtin)(p:Program)(w:World)(n₀:Nat)(ann:Option Value):Nat→SharedT→Thread→Option SharedT
 |0,_,_=>none
 |n+1,s,t=>match through t with
  |true=>some s
  |false=>match stepOk n₀ ann t with
   |false=>none
   |true=>match stepT (denote tb) p w s t with
    |some x=>gr tb p w n₀ ann n x.1 x.2
    |none=>none
theorem j2{tb:String→Option Builtin}{p:Program}{w:World}{n₀:Nat}{ann:Option Value}:∀{n:Nat} {s s':SharedT} {t:Thread},gr tb p w n₀ ann n s t=some s'→topRun tb p w n₀ ann n s.abs t=some s'.abs
 |0,_,_,_,h=>by cases h
 |n+1,s,s',t,h=>by
  unfold gr at h
  unfold topRun
  cases he:through t with
  |true=>rw[he]at h;cases h;rfl
  |false=>
   rw[he]at h
   cases hk:stepOk n₀ ann t with
   |false=>rw[hk]at h;cases h
   |true=>
    rw[hk]at h
    cases hs:stepT (denote tb) p w s t with
    |none=>rw[hs]at h;cases h
    |some r=>rw[hs]at h;rw[stepT_spec hs];exact j2 h
def wy:List Obj→BT→Nat→Option (BT×Nat)
 |[],t,n=>some (t,n)
 |o::os,t,n=>match ((t.ins n o).get n).isSome with
  |true=>wy os (t.ins n o) (n+1)
  |false=>none
theorem ny{life:Life}:∀{os:List Obj} {t t':BT} {n n':Nat},wy os t n=some (t',n')→absHeap t' n' life=⟨(absHeap t n life).objs++os.toArray,life⟩
 |[],t,t',n,n',h=>by cases h;simp[absHeap]
 |o::os,t,t',n,n',h=>by
  unfold wy at h
  cases g:((t.ins n o).get n).isSome with
  |false=>rw[g]at h;cases h
  |true=>
   rw[g]at h
   rw[ny h,absHeap_ins g]
   simp[Heap.push]
def gu(tb:String→Option Builtin)(p:Program)(w:World)(N:Nat)(s₀:Shared):Option Shared:=
 match s₀.heap.isNs mainGlobals&&s₀.gens.size == 0 with
 |true=>match wy s₀.heap.objs.toList .nil 0 with
  |some x=>match gr tb p w x.2 (s₀.heap.nsMap mainGlobals "__annotations__") N ⟨x.1,x.2,s₀.heap.life,s₀.gens,s₀.drawn,s₀.toks,s₀.os⟩ (topStub p)with
   |some s=>match staticsOk (importedModules p.main.body) s₀.heap s.abs.heap&&namesBound p s.abs.heap&&gensDone s.abs&&laidKept s₀.heap s.abs.heap with
    |true=>some s.abs
    |false=>none
   |none=>none
  |none=>none
 |false=>none
theorem mH{tb:String→Option Builtin}{p:Program}{w:World}{N:Nat}{s₀ s:Shared}(h:gu tb p w N s₀=some s):topFrom tb p w N s₀=some s:=by
 unfold gu at h
 unfold topFrom
 cases h1:s₀.heap.isNs mainGlobals&&s₀.gens.size == 0 with
 |false=>rw[h1]at h;cases h
 |true=>
  rw[h1]at h
  dsimp only at h ⊢
  cases h2:wy s₀.heap.objs.toList .nil 0 with
  |none=>rw[h2]at h;cases h
  |some x=>
   rw[h2]at h
   dsimp only at h
   have e:=ny (life:=s₀.heap.life) h2
   have e':absHeap x.1 x.2 s₀.heap.life=s₀.heap:=by
    rw[e]
    simp[absHeap,BT.list]
   have n':x.2=s₀.heap.objs.size:=by rw[←e',absHeap_size]
   cases h3:gr tb p w x.2 (s₀.heap.nsMap mainGlobals "__annotations__") N ⟨x.1,x.2,s₀.heap.life,s₀.gens,s₀.drawn,s₀.toks,s₀.os⟩ (topStub p)with
   |none=>rw[h3]at h;cases h
   |some r=>
    rw[h3]at h
    dsimp only at h
    have ea:SharedT.abs ⟨x.1,x.2,s₀.heap.life,s₀.gens,s₀.drawn,s₀.toks,s₀.os⟩=s₀:=by
     unfold SharedT.abs
     rw[e']
    have:=j2 h3
    rw[ea,n']at this
    rw[this]
    exact h
theorem mI{tb:String→Option Builtin}{p:Program}{w:World}{N:Nat}{s₀:Shared}{α:Type}{f:Shared→α}{a:α}(h:Option.map f (gu tb p w N s₀)=some a):Option.map f (topFrom tb p w N s₀)=some a:=by
 obtain⟨s,h1,h2⟩:=Jw.mp h
 rw[mH h1]
 exact IS some h2
def seenT(p q:Program)(loose:List Str)(Xt:Shared→Bool){α:Type}(Yf:Shared→α)(N:Nat)(u u':World):=
 Option.map (fun c=>Option.map (fun s=>(openSeen q loose (importedModules p.main.body) Xt true s,Yf s)) (gu treeTable p u' N c)) (fencedOpening treeTable p u N)
lay_quick seenT
theorem se{p q:Program}{loose:List Str}{Xt:Shared→Bool}{α:Type}{Yf:Shared→α}{N:Nat}{u u':World}{r}(h:PySem.W.Fast.tw2787559817927863336 p q loose Xt Yf N u u'=r):seenT p q loose Xt Yf N u u'=r:=by
 rw[PySem.W.Fast.te2787559817927863336]
 exact h
theorem sf{p q:Program}{loose:List Str}{Xt:Shared→Bool}{α:Type}{Yf:Shared→α}{Ya:World→α}{N:Nat}
  (h:∀u:World,seenT p q loose Xt Yf N u u=some (some (openGood q loose,Ya u))):LeftO p q loose Xt Yf Ya N:=fun u=>by
 obtain⟨c,a,b⟩:=Jw.mp (h u)
 unfold openEnds
 rw[a]
 exact mI b
theorem wA{p q:Program}{loose:List Str}{Xt:Shared→Bool}{α:Type}{Yf:Shared→α}{Ya:World→α}{N:Nat}(row:String)
  (h0:∀u:World,seenT p q loose Xt Yf N u (u.withFollow row false)=some (some (openGood q loose,Ya (u.withFollow row false))))
  (h1:∀u:World,seenT p q loose Xt Yf N u (u.withFollow row true)=some (some (openGood q loose,Ya (u.withFollow row true)))):LeftO p q loose Xt Yf Ya N:=fun u=>by
 obtain⟨c,a,b⟩:=Jw.mp (h0 u)
 obtain⟨c',a',b'⟩:=Jw.mp (h1 u)
 have hc:c'=c:=by rw[a]at a';cases a';rfl
 subst hc
 have b:=mI b
 have b':=mI b'
 have hu:=World.withFollow_self u row
 unfold openEnds
 rw[a]
 cases hb:u.params.followText row<;>rw[hb]at hu
 ·rw[hu]at b
  exact b
 ·rw[hu]at b'
  exact b'
end ET
namespace E24
open PySem PySem.W PyProof.Rows
abbrev tp(i:Nat):Stmt:=PySem.Challenge.pw_dueworth_k24_tallies_of_stories.main.body.getD i (.Pass ⟨0,0,0,0⟩)
/-- the text without what says nothing -/
def vw:Program:={ PySem.Challenge.pw_dueworth_k24_tallies_of_stories with main:={ PySem.Challenge.pw_dueworth_k24_tallies_of_stories.main with body:=[tp 1,tp 2,tp 3,tp 4,tp 6,tp 8,tp 9,tp 10,tp 11,tp 12,tp 13,tp 14,tp 15,tp 16,tp 17,tp 19,tp 20,tp 21,tp 23,tp 24,tp 25,tp 26,tp 27,tp 28,tp 29,tp 30,tp 31,tp 32,tp 33,tp 34,tp 35,tp 36,tp 37,tp 38,tp 39,tp 40,tp 41,tp 42,tp 43,tp 44] } }
abbrev rr:RowW:=OpenRow.toRowW (OpenLaw.row PySem.Challenge.rw_dueworth_k24_tallies_of_stories)
local macro_rules | `(tactic| o_head $H)=>`(tactic|
 refine holds_open (q:=vw) (loose:=[]) (Xt:=fun s=>(xlAt vw [] s&&recOk (RowW.records rr) s)) (XP:=XL vw []) (N:=2604)
  (Yf:=Hook.obs $H) (Ya:=Hook.val $H) (YP:=Hook.says $H) ?hl (Hook.of $H) (Hook.keeps $H) (fun s e=>xl_of s (JS.mp e).1)
  XL.keeps rfl rfl rfl (fun s e=>recFacts_of (JS.mp e).2) rfl (by assumption)
  (by decide +kernel) ⟨rfl,rfl,rfl,rfl,rfl,by decide +kernel⟩ ?hw ?hc)
/-- the law is well said: by the quick twin of the look,with no twin of the program -/
theorem said:OpenLaw.wellSaid PySem.Challenge.rw_dueworth_k24_tallies_of_stories=true:=(congrFun PySem.W.Fast.te9446332074065402090 _).trans (by kernel_rfl)
/-- says nothing; what lies in the heap is written down by the way -/
theorem early(h:∀P:Prop,P):PySem.Challenge.rw_dueworth_k24_tallies_of_stories.Holds:=by
 w_on;refine holds_law said fun said=>?_;k_head
 all_goals exact h _
abbrev as:List Addr:=[2,3,15,17,18,20,21,22,24,25,27,28,29,31,32,34,35,36,38,39,41,42,43,45,46,48,49,50,53,54,55,58,59,60,63,64,65,67,68,70,71,72,75,76,77,80,81,82,84,85,87,88,89,91,92,94,95,96,98,99,101,102,103,105,106,108,109,110,112,113,115,116,117,120,121,122,124,125,127,128,129,132,133,134,136,137,139,140,141,144,145,146,148,149,151,152,153,155,156,158,159,160,162,163,165,166,167,169,170,172,173,174,176,177,179,180,181,183,184,186,187,188,190,191,193,194,195,197,198,200,201,202,205,206,207,210,211,212,214,215,217,218,219,221,222,224,225,226,229,230,231,234,235,236,239,240,241,243,244,246,247,248,250,251,253,254,255,257,258,260,261,262,265,266]
theorem zz(P:Params):as=(early.heap_1 P).map (·.1):=by kernel_rfl
noncomputable abbrev hk:Hook:=kHook early.heap_1 as zz
theorem wB(u:World):ET.seenT (OpenLaw.row PySem.Challenge.rw_dueworth_k24_tallies_of_stories).prog vw [] (fun s=>(xlAt vw [] s&&recOk (RowW.records rr) s)) (Hook.obs hk) 2604 u u=some (some (openGood vw [],Hook.val hk u)):=ET.se (by kernel_rfl)
theorem left:LeftO (OpenLaw.row PySem.Challenge.rw_dueworth_k24_tallies_of_stories).prog vw [] (fun s=>(xlAt vw [] s&&recOk (RowW.records rr) s)) (Hook.obs hk) (Hook.val hk) 2604:=ET.sf wB
end E24
end
open PySem in
abbrev Vq:=Value->Shared->Prop
open PySem in
abbrev Va:=List (Addr×Obj)
open PySem in
abbrev Vo:=PySem.W.Frag
open PySem in
abbrev Vr:=Str->Option Value
open PySem in
abbrev Vs:=List Str
open PySem in
abbrev Vu:=List Int
open PySem in
abbrev Vv:=List Value
open PySem in
abbrev Vw:=Array Value
set_option Elab.async false
set_option linter.all false
set_option maxRecDepth 100000
namespace L2
open PySem PySem.Spec PyProof.Rows
abbrev bE:=Sum Int Str
noncomputable def j3:bE->Value->Bool
 | .inl k,v=>Value.isInt k v
 | .inr x,v=>Value.isStrOf x v
noncomputable def yA(w:World):bE->Int
 | .inl k=>hashInt k
 | .inr x=>hashStr w x
theorem aZ:∀{k:bE} {v:Value},j3 k v=true->(∃i t,k=Sum.inl i/\v=Value.int i t)\/(∃x t,k=Sum.inr x/\v=Value.str x t)
 | .inl i,v,h=>by
  obtain⟨t,e⟩:=Value.isInt_shape (k:=i) (v:=v) h
  exact .inl ⟨i,t,rfl,e⟩
 | .inr x,v,h=>by
  obtain⟨t,e⟩:=Value.isStrOf_shape (x:=x) (v:=v) h
  exact .inr ⟨x,t,rfl,e⟩
def oi(i:Int)(t:Tok):j3 (.inl i) (.int i t)=true:=by simp[j3,Value.isInt]
def oj(x:Str)(t:Tok):j3 (.inr x) (.str x t)=true:=by simp[j3,Value.isStrOf]
def uu(a b:Int):decide ((Sum.inl a:bE)=Sum.inl b)=(a == b):=by
 by_cases e:a=b
 ·subst e;simp
 ·have h:¬(Sum.inl a:bE)=Sum.inl b:=fun q=>e (Sum.inl.inj q)
  rw[IJ h]
  exact(KW.mpr e).symm
def uv(a b:Str):decide ((Sum.inr a:bE)=Sum.inr b)=decide (a=b):=by
 by_cases e:a=b
 ·subst e;simp
 ·have h:¬(Sum.inr a:bE)=Sum.inr b:=fun q=>e (Sum.inr.inj q)
  rw[IJ h,IJ e]
def ux(a:Int)(b:Str):decide ((Sum.inl a:bE)=Sum.inr b)=false:=IJ (fun q=>nomatch q)
def uy(a:Str)(b:Int):decide ((Sum.inr a:bE)=Sum.inl b)=false:=IJ (fun q=>nomatch q)
noncomputable def bh(prog:Program)(w:World):PySem.KeyKind prog w bE where
 is:=j3
 hash:=yA w
 inj:=fun v a b ha hb=>by
  rcases aZ ha with⟨i,t,rfl,rfl⟩|⟨x,t,rfl,rfl⟩
  ·rcases aZ hb with⟨j,u,rfl,e⟩|⟨y,u,rfl,e⟩
   ·injection e with e1 _;rw[e1]
   ·exact nomatch e
  ·rcases aZ hb with⟨j,u,rfl,e⟩|⟨y,u,rfl,e⟩
   ·exact nomatch e
   ·injection e with e1 _;rw[e1]
 byValue:=fun k v h=>by
  rcases aZ h with⟨i,t,rfl,rfl⟩|⟨x,t,rfl,rfl⟩<;>rfl
 pyHash:=fun hv h=>by
  rcases aZ hv with⟨i,t,rfl,rfl⟩|⟨x,t,rfl,rfl⟩
  ·exact wpAny_pyHash_int h
  ·exact wpAny_pyHash_str h
 eqBool:=fun hu hv h=>by
  rcases aZ hu with⟨i,t,rfl,rfl⟩|⟨x,t,rfl,rfl⟩
  ·rcases aZ hv with⟨j,u,rfl,rfl⟩|⟨y,u,rfl,rfl⟩
   ·rw[uu]at h;exact wpAny_eqBool_int h
   ·rw[ux]at h;exact SeqAt.EqAt.int_str i t y u _ _ _ _ h
  ·rcases aZ hv with⟨j,u,rfl,rfl⟩|⟨y,u,rfl,rfl⟩
   ·rw[uy]at h;exact SeqAt.EqAt.str_int x t j u _ _ _ _ h
   ·rw[uv]at h;exact wpAny_eqBool_str h
 «strs»:=fun k x t v h=>by
  rcases aZ h with⟨i,u,rfl,e⟩|⟨y,u,rfl,e⟩
  ·exact nomatch e
  ·injection e with e1 _
   subst e1
   cases v<;>rfl
def lN(prog:Program)(w:World)(i:Int)(t:Tok):(bh prog w).is (.inl i) (.int i t)=true:=oi i t
def lO(prog:Program)(w:World)(x:Str)(t:Tok):(bh prog w).is (.inr x) (.str x t)=true:=oj x t
inductive V where
 |non|bl (b:Bool)|int (i:Int)|str (x:Str)|Dw (b:Array UInt8)|Fx (b:UInt64)|ref (a:Addr)|ty (n:String)
 deriving DecidableEq
noncomputable def RelV:V->Value->Prop
 | .non,u=>u=Value.none
 | .bl b,u=>u=Value.bool b
 | .int i,u=>∃t,u=Value.int i t
 | .str x,u=>∃t,u=Value.str x t
 | .Dw b,u=>∃t,u=Value.bytes b t
 | .Fx b,u=>∃t,u=Value.float b t
 | .ref a,u=>u=Value.ref a
 | .ty n,u=>u=Value.type n
noncomputable abbrev Vals:List V->List Value->Prop:=Paired RelV
theorem Vals.length{xs:List V}{us:Vv}(r:Vals xs us):xs.length=us.length:=Paired.length r
theorem Vals.get:∀{xs:List V} {us:Vv} {i:Nat} {x:V},Vals xs us->xs[i]?=some x->∃u,us[i]?=some u/\RelV x u
 |_,_,_,_,.nil,e=>by simp at e
 |_,_,0,_,.cons r _,e=>by simp at e;subst e;exact⟨_,rfl,r⟩
 |_,_,i+1,x,.cons _ t,e=>by
  obtain⟨u,h1,h2⟩:=Vals.get (i:=i) (x:=x) t (by simpa using e)
  exact⟨u,by simpa using h1,h2⟩
theorem Vals.set{x:V}{u:Value}(r:RelV x u):∀{xs:List V} {us:Vv} (i:Nat),Vals xs us->Vals (xs.set i x) (us.set i u)
 |_,_,_,.nil=>.nil
 |_,_,0,.cons _ t=>.cons r t
 |_,_,i+1,.cons q t=>.cons q (Vals.set r i t)
theorem Vals.append:∀{xs ys:List V} {us ws:Vv},Vals xs us->Vals ys ws->Vals (xs++ys) (us++ws)
 |_,_,_,_,.nil,s=>s
 |_,_,_,_,.cons r t,s=>.cons r (Vals.append t s)
theorem Vals.take:∀{xs:List V} {us:Vv} (n:Nat),Vals xs us->Vals (xs.take n) (us.take n)
 |_,_,0,_=>.nil
 |_,_,_+1,.nil=>.nil
 |_,_,n+1,.cons r t=>.cons r (Vals.take n t)
theorem Vals.drop:∀{xs:List V} {us:Vv} (n:Nat),Vals xs us->Vals (xs.drop n) (us.drop n)
 |_,_,0,r=>r
 |_,_,_+1,.nil=>.nil
 |_,_,n+1,.cons _ t=>Vals.drop n t
noncomputable def RelO:Option V->Option Value->Prop
 |some v,some u=>RelV v u
 |none,none=>True
 |_,_=>False
noncomputable def KV{κ:Type}:List (κ×V)->List (κ×Value)->Prop:=Paired fun(p:κ×V) (q:κ×Value)=>p.1=q.1/\RelV p.2 q.2
noncomputable def kV:bE->V
 | .inl i=>.int i
 | .inr x=>.str x
inductive HO where
 /-- a list -/
 |lst (xs:List V)
 /-- a tuple (never changes) -/
 |tup (xs:List V)
 /-- a dict whose keys are ints and texts; one whose keys are tuples of ints and texts (the empty one is both) -/
 |dK (kvs:List (bE×V))|dT (kvs:List (List bE×V))
 /-- a set of ints: its members,its size -/
 |set (S:Int->Bool) (n:Nat)
 /-- an instance of the class at C,its dict at dx,its attributes -/
 |ins (C dx:Addr) (fs:List (Str×V))
 /-- the dict of the instance at x -/
 |own (x:Addr)
 /-- the dict of an exception -/
 |xd (fs:List (Str×V))
 /-- a bound method,f of x -/
 |met (f x:Addr)
 /-- a range object lo,lo + 1,.. below hi -/
 |Fy (lo hi:Int)
 /-- a thing that is known to the object (the script; a dict while a loop walks it): read,never written while it is so -/
 |frz (o:Obj) (u:HO)
 /-- a code object's table -/
 |Eg (ps:Vw)
 /-- any other thing,by what is true of its one object (a def of Gn own: G0 a S n:=HO.ext fun h=>..) -/
 |ext (φ:Heap->Prop)
abbrev Hp:=Addr->Option HO
noncomputable def upd(H:Hp)(a:Addr)(o:HO):Hp:=fun b=>if b=a then some o else H b
def aA{H:Hp}{a:Addr}{o:HO}:upd H a o a=some o:=by unfold upd;rw[if_pos rfl]
def az{H:Hp}{a b:Addr}{o:HO}(h:b≠a):upd H a o b=H b:=by unfold upd;rw[if_neg h]
def wC{H:Hp}{a b:Addr}{o u:HO}(h:H a=some o)(h':H b=some u)(d:o≠u):a≠b:=by
 intro e;subst e;rw[h]at h';exact d (IY h')
def aM{H:Hp}{a b:Addr}{o:HO}(h:H a=some o)(h':H b=none):a≠b:=by
 intro e;subst e;rw[h]at h';cases h'
def AM(h:Heap)(a:Addr)(its:Vw):Prop:=∃o,h.get? a=some o/\o.dict=none/\o.cls = .type "tuple"/\∃n,o.data = .seq its n
def AM.tup{h:Heap}{a:Addr}{its:Vw}(x:AM h a its):IsTup h a its:=let ⟨o,e,_,c,d⟩:=x;⟨o,e,c,d⟩
def AM.new(h:Heap)(its:Vw):AM (h.push { cls:=.type "tuple",data:=.seq its }) h.objs.size its:=⟨_,HV _ rfl,rfl,rfl,_,rfl⟩
section
variable (P:Program) (w:World)
noncomputable def Az(H:Hp)(h:Heap)(a:Addr):HO->Prop
 | .lst xs=>xs.length<=sizeLine/\∃(its:Vv) (n:Nat),Vals xs its/\h.get? a=some { cls:=.type "list",data:=.seq its.toArray n }
 | .tup xs=>xs.length<=sizeLine/\∃its:List Value,Vals xs its/\AM h a its.toArray
 | .dK kvs=>kvs.length<=sizeLine/\(a == sysModules)=false/\∃vs,KV kvs vs/\h.DictOf (bh P w) a vs
 | .dT kvs=>kvs.length<=sizeLine/\(a == sysModules)=false/\∃xs:List (List bE×Addr×Value),
   Paired (fun(p:List bE×V) (q:List bE×Addr×Value)=>p.1=q.1/\H q.2.1=some (.tup (p.1.map kV))/\RelV p.2 q.2.2) kvs xs/\
   ∃o es ep,h.get? a=some o/\o.ExactDict/\o.data = .dict es ep/\es.toList=xs.map (entryOfKey (tupleKind (bh P w)))/\(xs.map (·.1)).Nodup
 | .set S n=>h.SetOf (intKind P w) a S n
 | .ins C dx fs=>H dx=some (.own a)/\fs.length<=1000/\dx≠a/\h.get? a=some (PySem.W.instObj C dx)/\
   ∃mA,h.Ns1 dx mA/\(∀f,RelO (fs.lookup f) (mA f))/\PySem.Within mA (fs.map (·.1))
 | .own _=>∃o,h.get? a=some o
 | .xd fs=>∃mA,h.Ns1 a mA/\∀f,RelO (fs.lookup f) (mA f)
 | .Fy lo hi=>∃t u v,h.get? a=some { cls:=.type "range",data:=.fields #[.int lo t,.int hi u,.int 1 v] }
 | .frz o u=>h.get? a=some o/\Az H h a u
 | .Eg ps=>h.get? a=some { cls:=.none,data:=.fields ps }
 | .met f x=>h.get? a=some (PySem.W.methodObj (.ref f) (.ref x))
 | .ext φ=>φ h/\(∃o,h.get? a=some o)/\∀h1 h2:Heap,φ h1->(∀o,h1.get? a=some o->h2.get? a=some o)->φ h2
def BD(H:Hp)(h:Heap):Prop:=∀a o,H a=some o->Az P w H h a o
end
section
variable {P:Program} {w:World} {H H':Hp} {h h':Heap} {a:Addr} {o:HO}
theorem Az.lt(x:Az P w H h a o):a < h.objs.size:=by
 cases o with
 |lst xs=>obtain⟨_,_,_,_,e⟩:=x;exact HR e
 |tup xs=>obtain⟨_,_,_,p⟩:=x;exact p.tup.lt
 |dK kvs=>obtain⟨_,_,_,_,o,_,_,e,_⟩:=x;exact HR e
 |dT kvs=>obtain⟨_,_,_,_,o,_,_,e,_⟩:=x;exact HR e
 |set S n=>obtain⟨o,_,_,_,e,_⟩:=x;exact HR e
 |ins C dx fs=>obtain⟨_,_,_,e,_⟩:=x;exact HR e
 |own y=>obtain⟨_,e⟩:=x;exact HR e
 |xd fs=>obtain⟨_,⟨_,_,_,e,_⟩,_⟩:=x;exact HR e
 |Fy lo hi=>obtain⟨_,_,_,e⟩:=x;exact HR e
 |frz ob u=>obtain⟨e,_⟩:=x;exact HR e
 |Eg ps=>exact HR (show h.get? a=some _ from x)
 |met f y=>exact HR (show h.get? a=some _ from x)
 |ext φ=>obtain⟨_,⟨_,e⟩,_⟩:=x;exact HR e
theorem Paired.Eh{α β:Type}{F G:α->β->Prop}:∀{l₁:List α} {l₂:List β},Paired F l₁ l₂->(∀a b,F a b->G a b)->Paired G l₁ l₂
 |_,_,.nil,_=>.nil
 |_,_,.cons r t,f=>.cons (f _ _ r) (Paired.Eh t f)
def Az.stay(x:Az P w H h a o)(k:∀b u,(b=a\/H b=some (.own a))->h.get? b=some u->h'.get? b=some u)
  (ho:∀b,H b=some (.own a)->H' b=some (.own a)) (ht:∀b xs,H b=some (.tup xs)->H' b=some (.tup xs)):Az P w H' h' a o:=by
 induction o with
 |lst xs=>obtain⟨z,its,n,r,e⟩:=x;exact⟨z,its,n,r,k _ _ (.inl rfl) e⟩
 |tup xs=>obtain⟨z,its,r,ob,e,c⟩:=x;exact⟨z,its,r,ob,k _ _ (.inl rfl) e,c⟩
 |dK kvs=>obtain⟨z,y,vs,r,ob,es,ep,e,c⟩:=x;exact⟨z,y,vs,r,ob,es,ep,k _ _ (.inl rfl) e,c⟩
 |dT kvs=>
  obtain⟨z,y,xs,r,ob,es,ep,e,c⟩:=x
  exact⟨z,y,xs,Paired.Eh r fun p q z=>⟨z.1,ht _ _ z.2.1,z.2.2⟩,ob,es,ep,k _ _ (.inl rfl) e,c⟩
 |set S n=>obtain⟨ob,es,ep,t,e,c⟩:=x;exact⟨ob,es,ep,t,k _ _ (.inl rfl) e,c⟩
 |ins C dx fs=>
  obtain⟨d,z,ne,e,mA,⟨od,es,ep,e2,c⟩,r⟩:=x
  exact⟨ho _ d,z,ne,k _ _ (.inl rfl) e,mA,⟨od,es,ep,k _ _ (.inr d) e2,c⟩,r⟩
 |own y=>obtain⟨ob,e⟩:=x;exact⟨ob,k _ _ (.inl rfl) e⟩
 |xd fs=>obtain⟨mA,⟨od,es,ep,e,c⟩,r⟩:=x;exact⟨mA,⟨od,es,ep,k _ _ (.inl rfl) e,c⟩,r⟩
 |Fy lo hi=>obtain⟨t,u,v,e⟩:=x;exact⟨t,u,v,k _ _ (.inl rfl) e⟩
 |frz ob u ih=>obtain⟨e,q⟩:=x;exact⟨k _ _ (.inl rfl) e,ih q⟩
 |Eg ps=>
  have e:h.get? a=some { cls:=.none,data:=.fields ps }:=x
  show h'.get? a=some { cls:=.none,data:=.fields ps }
  exact k a _ (.inl rfl) e
 |met f y=>
  have e:h.get? a=some (PySem.W.methodObj (.ref f) (.ref y)):=x
  show h'.get? a=some (PySem.W.methodObj (.ref f) (.ref y))
  exact k a _ (.inl rfl) e
 |ext φ=>obtain⟨p,⟨o,e⟩,st⟩:=x;exact⟨st _ _ p fun o q=>k _ _ (.inl rfl) q,⟨o,k _ _ (.inl rfl) e⟩,st⟩
theorem BD.lt(x:BD P w H h)(e:H a=some o):a < h.objs.size:=(x a o e).lt
def BD.fresh(x:BD P w H h)(e:h.objs.size<=a):H a=none:=by
 cases q:H a with
 |none=>rfl
 |some u=>exact absurd (HX (x.lt q) e) (Jy _)
def BD.kept(x:BD P w H h)(k:∀b u,h.get? b=some u->h'.get? b=some u):BD P w H h':=fun a o e=>
 (x a o e).stay (fun b u _ q=>k b u q) (fun _ q=>q) fun _ _ q=>q
def BD.laid(x:BD P w H h)(k:∀b u,h.get? b=some u->h'.get? b=some u)(hp:h.objs.size<=a)(new:Az P w (upd H a o) h' a o):BD P w (upd H a o) h':=fun b u e=>by
 have hn:=x.fresh hp
 by_cases hb:b=a
 ·subst hb;rw[aA]at e;cases e;exact new
 ·rw[az hb]at e
  exact(x b u e).stay (fun c v _ q=>k c v q) (fun c q=>by rw[az (aM q hn)];exact q) fun c xs q=>by rw[az (aM q hn)];exact q
end
def Rd(H:Hp)(a:Addr)(u:HO):Prop:=H a=some u\/∃o,H a=some (.frz o u)
def Rd.ok{P:Program}{w:World}{H:Hp}{h:Heap}{a:Addr}{u:HO}(r:Rd H a u)(x:BD P w H h):Az P w H h a u:=by
 rcases r with r|⟨o,r⟩
 ·exact x a u r
 ·obtain⟨_,q⟩:=x a _ r
  exact q
noncomputable def wD:Option HO->Prop
 |some (.lst _)=>True
 |some (.dK _)=>True
 |some (.dT _)=>True
 |some (.set _ _)=>True
 |some (.ins _ _ _)=>True
 |some (.ext _)=>True
 |_=>False
section
variable {P:Program} {w:World} {H:Hp} {h h':Heap} {x e:Addr} {o':HO}
def BD.write(ok:BD P w H h)(mu:wD (H x))(he:e=x\/H e=some (.own x))(k:∀b u,b≠e->h.get? b=some u->h'.get? b=some u)(EF:∃u,h'.get? e=some u)
  (new:Az P w (upd H x o') h' x o'):BD P w (upd H x o') h':=fun b u q=>by
 have ER:∀c y,H c=some (.own y)->c≠x:=fun c y r z=>by subst z;rw[r]at mu;exact mu
 have Fz:∀c xs,H c=some (.tup xs)->c≠x:=fun c xs r z=>by subst z;rw[r]at mu;exact mu
 by_cases hb:b=x
 ·subst hb;rw[aA]at q;cases q;exact new
 ·rw[az hb]at q
  by_cases Ei:b=e
  ·have q':H b=some (.own x):=by
    rcases he with z|z
    ·exact absurd (Ei.trans z) hb
    ·rw[Ei];exact z
   rw[q]at q';cases q'
   obtain⟨v,hv⟩:=EF
   exact⟨v,by rw[Ei];exact hv⟩
  ·refine(ok b u q).stay (fun c v hc r=>k c v ?_ r) (fun c r=>by rw[az (ER c b r)];exact r) fun c xs r=>by rw[az (Fz c xs r)];exact r
   rcases hc with rfl|hc
   ·exact Ei
   ·rintro rfl
    rcases he with z|z
    ·exact ER c b hc z
    ·rw[hc]at z;cases z;exact hb rfl
end
structure Un (fs ex:List Addr) (H H':Hp) (h h':Heap):Prop where
 keep:∀b o,h.get? b=some o->H b=none->b ∉ fs->b ∉ ex->h'.get? b=some o
 slot:∀b o,h.get? b=some o->H b=none->b∈fs->b ∉ ex->∃sl,h'.get? b=some { o with slots:=sl }
 free:∀b o,h.get? b=some o->H b=none->b ∉ ex->H' b=none
 there:∀b o,h.get? b=some o->b ∉ ex->∃o',h'.get? b=some o'
 tups:∀b xs,H b=some (.tup xs)->H' b=some (.tup xs)
 CH:∀b o u,H b=some (.frz o u)->H' b=some (.frz o u)
 C0:∀b ps,H b=some (.Eg ps)->∃more,H' b=some (.Eg (ps++more))
section
variable {fs fs' ex ex':List Addr} {H H1 H2:Hp} {h h1 h2 h':Heap} {a x e:Addr} {o:HO}
def Un.any(u:Un fs ex H H1 h h1){b:Addr}{ob:Obj}(q:h.get? b=some ob)(n:H b=none)(hx:b ∉ ex):∃sl,h1.get? b=some { ob with slots:=sl }:=by
 by_cases hb:b∈fs
 ·exact u.slot b ob q n hb hx
 ·exact⟨ob.slots,u.keep b ob q n hb hx⟩
def Un.kept(k:∀b u,h.get? b=some u->h'.get? b=some u):Un fs ex H H h h':=
 ⟨fun b ob q _ _ _=>k b ob q,fun b ob q _ _ _=>⟨ob.slots,k b ob q⟩,fun _ _ _ n _=>n,fun b ob q _=>⟨ob,k b ob q⟩,fun _ _ q=>q,fun _ _ _ q=>q,fun _ ps q=>⟨#[],by rw[q];simp⟩⟩
def Un.refl:Un fs ex H H h h:=Un.kept fun _ _ q=>q
def Un.laid(k:∀b u,h.get? b=some u->h'.get? b=some u)(hp:h.objs.size<=a)(hn:H a=none):Un fs ex H (upd H a o) h h' where
 keep:=fun b u q _ _ _=>k b u q
 slot:=fun b u q _ _ _=>⟨u.slots,k b u q⟩
 free:=fun b u q n _=>by rw[az (Ik (HX (HR q) hp))];exact n
 there:=fun b u q _=>⟨u,k b u q⟩
 tups:=fun b xs q=>by rw[az (aM q hn)];exact q
 CH:=fun b u xs q=>by rw[az (aM q hn)];exact q
 C0:=fun b ps q=>⟨#[],by rw[az (aM q hn),q];simp⟩
def Un.write(mu:wD (H x))(he:e=x\/H e=some (.own x))(k:∀b u,b≠e->h.get? b=some u->h'.get? b=some u)(EF:∃u,h'.get? e=some u):Un fs ex H (upd H x o) h h':=by
 have hx:∀b,H b=none->b≠x:=fun b n z=>by subst z;rw[n]at mu;exact mu
 have hb:∀b,H b=none->b≠e:=fun b n z=>by
  subst z
  rcases he with r|r
  ·exact hx b n r
  ·rw[n]at r;cases r
 have hm:∀b u,H b=some u->¬wD (some u)->b≠x:=fun b u q nm z=>by subst z;rw[q]at mu;exact nm mu
 refine⟨fun b u q n _ _=>k b u (hb b n) q,fun b u q n _ _=>⟨u.slots,k b u (hb b n) q⟩,fun b u q n _=>by rw[az (hx b n)];exact n,fun b u q _=>?_,
  fun b xs q=>by rw[az (hm b _ q fun z=>z)];exact q,fun b u xs q=>by rw[az (hm b _ q fun z=>z)];exact q,fun b ps q=>⟨#[],by rw[az (hm b _ q fun z=>z),q];simp⟩⟩
 by_cases Ei:b=e
 ·subst Ei;exact EF
 ·exact⟨u,k b u Ei q⟩
end
noncomputable def yn(h:Heap)(H:Hp):List Addr:=(List.range h.objs.size).filter fun a=>(H a).isSome
noncomputable def kE(h:Heap)(H:Hp):Heap:=PySem.W.hideAll h (yn h H)
def ol(h:Heap)(H:Hp):(kE h H).objs.size=h.objs.size:=PySem.W.hideAll_size _ _
def pL{h:Heap}{H:Hp}{b:Addr}{o:Obj}(e:h.get? b=some o)(n:H b=none):(kE h H).get? b=some o:=
 PySem.W.hideAll_get _ e fun hm=>by
  have q:(H b).isSome=true:=(KN.mp hm).2
  rw[n]at q;simp at q
def sg{h:Heap}{H:Hp}{b:Addr}{o:Obj}(e:(kE h H).get? b=some o):h.get? b=some o/\H b=none:=by
 have e':h.get? b=some o:=PySem.W.of_hideAll (yn h H) e
 refine⟨e',?_⟩
 cases q:H b with
 |none=>rfl
 |some x=>
  have hm:b∈yn h H:=KN.mpr ⟨Km.mpr (HR e'),by simp[q]⟩
  have z:(kE h H).get? b=none:=PySem.W.hideAll_none (yn h H) hm
  rw[z]at e;cases e
structure Mod (K:Vo) (mg:Vr) (base:Heap):Prop where
 FA:K.In base
 glob:base.Ns mainGlobals mg
 blt:∃mb,base.Ns builtinsNs mb/\∀x:Str,x ≠ "__name__"->mb x=bootBuiltins x
 nolimit:base.NoLimit
structure Cx where
 prog:Program
 w:World
 K:Vo
 mg:Vr
 base:Heap
 A:Around
 N:List Str
 s₀:Shared
 H₀:Hp
 env:Env
 outer:List Env
 stack:List Env
 ex:List Addr
 fn:Str->Bool
 calm:Bool
 pn:Va
 xe:Value->Shared->Prop
noncomputable def frs(l:List Env):List Addr:=l.filterMap (·.frame)
noncomputable abbrev Cx.fs(X:Cx):List Addr:=frs X.outer
def yo(sc:Scope)(x:Str):Prop:=sc.names.lookup x=some .local\/sc.names.lookup x=some .cell\/sc.names.lookup x=some .free
def tZ(sc:Scope)(x:Str):Prop:=sc.names.lookup x=some .local\/sc.names.lookup x=some .cell
def yB(env:Env)(h:Heap)(m:Vr)(x:Str)(u:Value):Prop:=
 (env.kindOf x=some .local/\m x=some u)\/((env.kindOf x=some .cell\/env.kindOf x=some .free)/\∃c,env.cells.lookup x=some c/\h.IsCell c (some u))
structure Cx.Ok (X:Cx):Prop where
 mod:Mod X.K X.mg X.base
 kind:X.env.scope.kind = .function
 glob:X.env.globals=mainGlobals
 blt:X.env.builtins=builtinsNs
 above:X.s₀.heap.objs.size<=X.env.locals
 inj:∀x y c,X.env.cells.lookup x=some c->X.env.cells.lookup y=some c->x=y
 has:∀x,(X.env.kindOf x=some .cell\/X.env.kindOf x=some .free)->∃c,X.env.cells.lookup x=some c
 EG:∀x c,X.fn x=true->X.env.cells.lookup x=some c->X.s₀.heap.objs.size<=c
 hd:X.calm=true->X.A.handled=none
 frames:X.A.frames=some X.stack
 stk:X.stack=X.outer\/(X.stack=X.env::X.outer/\X.env.frame=some X.env.locals)
 FB:∀b∈X.ex,b≠X.env.locals/\∀x c,X.env.cells.lookup x=some c->c≠b
 bs:∀b o,X.base.get? b=some o->X.s₀.heap.get? b=some o/\X.H₀ b=none
 DR:X.base.objs.size<=X.s₀.heap.objs.size
 Do:∀b o,X.base.get? b=some o->b ∉ X.ex
 Dx:∀b∈X.ex,b ∉ X.fs
 Ci:X.s₀.heap.FunFrames X.base X.outer
 Ej:∀b∈X.fs,X.H₀ b=none
structure Inv (X:Cx) (pins:Va) (σ:List (Option V)) (H:Hp) (s:Shared):Prop where
 ok:X.Ok
 os:s.os=X.s₀.os
 bare:AllBare s.gens
 base:Un X.fs X.ex X.H₀ H X.s₀.heap s.heap
 loc:∃m,s.heap.Ns X.env.locals m/\∀(i:Nat) (x:Str) (v:V),X.N[i]?=some x->σ[i]?=some (some v)->yo X.env.scope x->∃u,RelV v u/\yB X.env s.heap m x u
 cell:∀x c,X.env.cells.lookup x=some c->∃v,s.heap.IsCell c v
 free:H X.env.locals=none
 Bs:∀x c,X.env.cells.lookup x=some c->H c=none
 pin:∀p∈X.pn++pins,s.heap.get? p.1=some p.2/\H p.1=none/\p.1≠X.env.locals/\p.1 ∉ X.fs/\∀v,p.2.data ≠ .cell v
 hok:BD X.prog X.w H s.heap
 len:σ.length=X.N.length
section
variable {X:Cx} {pins:Va} {σ:List (Option V)} {H H':Hp} {s:Shared} {h':Heap}
def Cx.Ok.FC(ok:X.Ok){b:Addr}{o:Obj}(e:X.base.get? b=some o):b ∉ X.fs:=fun hb=>by
 have:=(ok.Ci.mem hb).1
 rw[e]at this;cases this
theorem Inv.bs(I:Inv X pins σ H s):∀b o,X.base.get? b=some o->s.heap.get? b=some o/\H b=none:=fun b o e=>
 ⟨I.base.keep b o (I.ok.bs b o e).1 (I.ok.bs b o e).2 (I.ok.FC e) (I.ok.Do b o e),I.base.free b o (I.ok.bs b o e).1 (I.ok.bs b o e).2 (I.ok.Do b o e)⟩
def Inv.bk(I:Inv X pins σ H s):∀b o,X.base.get? b=some o->s.heap.get? b=some o:=fun b o e=>(I.bs b o e).1
theorem Inv.mod(I:Inv X pins σ H s):Mod X.K X.mg X.base:=I.ok.mod
def Inv.EH(I:Inv X pins σ H s):X.K.In s.heap:=I.ok.mod.FA.keeps I.bk
theorem Inv.lt(I:Inv X pins σ H s):X.env.locals < s.heap.objs.size:=let ⟨_,hn,_⟩:=I.loc;hn.lt
def Inv.sz(I:Inv X pins σ H s):X.s₀.heap.objs.size<=s.heap.objs.size:=Ib I.ok.above (Kn I.lt)
def Inv.ES(I:Inv X pins σ H s){a:Addr}(h:s.heap.objs.size<=a):a ∉ X.fs:=fun hb=>by
 obtain⟨_,o,ho,_⟩:=I.ok.Ci.mem hb
 exact absurd (HX (HR ho) (Ib I.sz h)) (Jy _)
def Inv.Ek(I:Inv X pins σ H s):∀x c,X.env.cells.lookup x=some c->c≠X.env.locals:=fun x c e z=>by
 obtain⟨v,o,ho,hd⟩:=I.cell x c e
 obtain⟨m,⟨o',es,ep,ho',hd',_⟩,_⟩:=I.loc
 rw[z,ho']at ho;cases ho;rw[hd']at hd;cases hd
theorem Inv.Ci(I:Inv X pins σ H s):s.heap.FunFrames X.base X.outer:=by
 have all:∀(l:List Env),(∀b∈frs l,b∈X.fs)->X.s₀.heap.FunFrames X.base l->s.heap.FunFrames X.base l:=by
  intro l
  induction l with
  |nil=>intro _ _;trivial
  |cons env r ih=>
   intro hs hl
   obtain⟨hk,⟨L,o,hf,hn,ho,hd⟩,hr⟩:=hl
   have hL:L∈X.fs:=hs L (by unfold frs;rw[KY,hf];exact Jl)
   obtain⟨sl,e⟩:=I.base.slot L o ho (I.ok.Ej L hL) hL fun z=>I.ok.Dx L z hL
   exact⟨hk,⟨L,_,hf,hn,e,hd⟩,ih (fun b hb=>hs b (by unfold frs;rw[KY,hf];exact IZ _ hb)) hr⟩
 exact all X.outer (fun _ hb=>hb) I.ok.Ci
theorem Inv.stack(I:Inv X pins σ H s):s.heap.FunFrames X.base X.stack:=by
 rcases I.ok.stk with e|⟨e,hf⟩
 ·rw[e];exact I.Ci
 ·rw[e]
  obtain⟨m,hn,_⟩:=I.loc
  refine .cons (by rw[I.ok.kind];decide) hf hn ?_ I.Ci
  exact Heap.get?_none_of_le (Ib I.ok.DR I.ok.above)
def Inv.B5(I:Inv X pins σ H s):∀b∈frs X.stack,b∈X.env.locals::X.fs:=fun b hb=>by
 rcases I.ok.stk with e|⟨e,hf⟩
 ·rw[e]at hb;exact IZ _ hb
 ·rw[e]at hb
  unfold frs at hb
  rw[KY,hf]at hb
  exact hb
def Inv.Di(I:Inv X pins σ H s):∀b∈frs X.stack,H b=none:=fun b hb=>by
 rcases HZ.mp (I.B5 b hb)with e|hb
 ·rw[e];exact I.free
 ·obtain⟨_,o,ho,_⟩:=I.ok.Ci.mem hb
  exact I.base.free b o ho (I.ok.Ej b hb) fun z=>I.ok.Dx b z hb
def Inv.step{g':Array GenState}{t':Nat}{d':Drawn}{ch:List Addr}(I:Inv X pins σ H s)
  (hch:∀b∈ch,(b∈X.ex\/X.s₀.heap.objs.size<=b)/\b≠X.env.locals/\(∀x c,X.env.cells.lookup x=some c->c≠b)/\∀p∈X.pn++pins,p.1≠b)
  (keep:∀b o,b≠X.env.locals->b ∉ X.fs->b ∉ ch->s.heap.get? b=some o->H b=none->h'.get? b=some o)
  (slot:∀b o,b≠X.env.locals->b∈X.fs->b ∉ ch->s.heap.get? b=some o->H b=none->∃sl,h'.get? b=some { o with slots:=sl }) (free:∀b o,b ∉ ch->s.heap.get? b=some o->H b=none->H' b=none)
  (there:∀b o,b ∉ ch->s.heap.get? b=some o->∃o',h'.get? b=some o')
  (tups:∀b xs,H b=some (.tup xs)->H' b=some (.tup xs)) (CH:∀b o u,H b=some (.frz o u)->H' b=some (.frz o u)) (C0:∀b ps,H b=some (.Eg ps)->∃more,H' b=some (.Eg (ps++more)))
  (ns:∀m,s.heap.Ns X.env.locals m->h'.Ns X.env.locals m) (hok:BD X.prog X.w H' h') (hg:AllBare g') :
  Inv X pins σ H' { s with heap:=h',gens:=g',drawn:=d',toks:=t' }:=by
 have Go:∀b o,X.s₀.heap.get? b=some o->b≠X.env.locals:=fun b o e=>Ik (HX (HR e) I.ok.above)
 have Fi:∀b o,X.s₀.heap.get? b=some o->b ∉ X.ex->b ∉ ch:=fun b o e hx hb=>by
  rcases(hch b hb).1 with z|z
  ·exact hx z
  ·exact absurd (HX (HR e) z) (Jy _)
 have cellK:∀x c,X.env.cells.lookup x=some c->∀v,s.heap.IsCell c v->h'.IsCell c v:=fun x c e v ⟨o,ho,hd⟩=>by
  have EU:c ∉ ch:=fun z=>(hch c z).2.2.1 x c e rfl
  by_cases hc:c∈X.fs
  ·obtain⟨sl,q⟩:=slot c o (I.Ek x c e) hc EU ho (I.Bs x c e)
   exact⟨_,q,hd⟩
  ·exact⟨o,keep c o (I.Ek x c e) hc EU ho (I.Bs x c e),hd⟩
 refine⟨I.ok,I.os,hg,⟨fun b o e n hb hx=>?_,fun b o e n hb hx=>?_,fun b o e n hx=>?_,fun b o e hx=>?_,fun b xs e=>tups b xs (I.base.tups b xs e),fun b o xs e=>CH b o xs (I.base.CH b o xs e),fun b ps e=>?_⟩,?_,fun x c e=>?_,?_,fun x c e=>?_,fun p hp=>?_,hok,I.len⟩
 ·exact keep b o (Go b o e) hb (Fi b o e hx) (I.base.keep b o e n hb hx) (I.base.free b o e n hx)
 ·obtain⟨sl,e1⟩:=I.base.slot b o e n hb hx
  obtain⟨sl',e2⟩:=slot b _ (Go b o e) hb (Fi b o e hx) e1 (I.base.free b o e n hx)
  exact⟨sl',e2⟩
 ·obtain⟨o',e1⟩:=I.base.there b o e hx
  exact free b o' (Fi b o e hx) e1 (I.base.free b o e n hx)
 ·obtain⟨o',e1⟩:=I.base.there b o e hx
  exact there b o' (Fi b o e hx) e1
 ·obtain⟨m1,e1⟩:=I.base.C0 b ps e
  obtain⟨m2,e2⟩:=C0 b _ e1
  exact⟨m1++m2,by rw[e2,Array.append_assoc]⟩
 ·obtain⟨m,hn,hl⟩:=I.loc
  refine⟨m,ns m hn,fun i x v e1 e2 e3=>?_⟩
  obtain⟨u,r,l⟩:=hl i x v e1 e2 e3
  refine⟨u,r,?_⟩
  rcases l with l|⟨k,c,e,z⟩
  ·exact .inl l
  ·exact .inr ⟨k,c,e,cellK x c e _ z⟩
 ·obtain⟨v,z⟩:=I.cell x c e
  exact⟨v,cellK x c e v z⟩
 ·obtain⟨m,⟨o,_,_,ho,_⟩,_⟩:=I.loc
  exact free _ o (fun z=>(hch _ z).2.1 rfl) ho I.free
 ·obtain⟨v,o,ho,hd⟩:=I.cell x c e
  exact free c o (fun z=>(hch c z).2.2.1 x c e rfl) ho (I.Bs x c e)
 ·obtain⟨e,n,ne,nf,d⟩:=I.pin p hp
  have EU:p.1 ∉ ch:=fun z=>(hch p.1 z).2.2.2 p hp rfl
  exact⟨keep p.1 p.2 ne nf EU e n,free p.1 p.2 EU e n,ne,nf,d⟩
def Inv.un{t':Nat}(I:Inv X pins σ H s)(u:Un X.fs [] H H' s.heap h')(hok:BD X.prog X.w H' h'):Inv X pins σ H' { s with heap:=h',toks:=t' }:=by
 obtain⟨m,⟨o,es,ep,ho,r⟩,_⟩:=id I.loc
 obtain⟨sl,hL⟩:=u.any ho I.free (by simp)
 exact I.step (g':=s.gens) (d':=s.drawn) (ch:=[]) (fun _ z=>nomatch z) (fun b o _ hb _ e n=>u.keep b o e n hb (by simp)) (fun b o _ hb _ e n=>u.slot b o e n hb (by simp)) (fun b o _ e n=>u.free b o e n (by simp)) (fun b o _ e=>u.there b o e (by simp)) u.tups u.CH u.C0 (fun m' hm=>by
  obtain⟨o',es',FD,ho',r'⟩:=hm
  rw[ho]at ho';cases ho'
  exact⟨_,es',FD,hL,r'⟩) hok I.bare
def Inv.call{g':Array GenState}{t':Nat}{d':Drawn}{ch:List Addr}(I:Inv X pins σ H s)(u:Un (frs X.stack) ch H H' s.heap h')(hok:BD X.prog X.w H' h')(hg:AllBare g')
  (hch:∀b∈ch,(b∈X.ex\/X.s₀.heap.objs.size<=b)/\b≠X.env.locals/\(∀x c,X.env.cells.lookup x=some c->c≠b)/\∀p∈X.pn++pins,p.1≠b) :
  Inv X pins σ H' { s with heap:=h',gens:=g',drawn:=d',toks:=t' }:=by
 obtain⟨m,⟨o,es,ep,ho,r⟩,_⟩:=id I.loc
 obtain⟨sl,hL⟩:=u.any ho I.free fun z=>(hch _ z).2.1 rfl
 exact I.step (ch:=ch) hch (fun b o hL hb hc e n=>u.keep b o e n (fun z=>(HZ.mp (I.B5 b z)).elim hL hb) hc) (fun b o _ _ hc e n=>u.any e n hc) (fun b o hc e n=>u.free b o e n hc) (fun b o hc e=>u.there b o e hc) u.tups u.CH u.C0 (fun m' hm=>by
  obtain⟨o',es',FD,ho',r'⟩:=hm
  rw[ho]at ho';cases ho'
  exact⟨_,es',FD,hL,r'⟩) hok hg
def Inv.turned{t':Nat}{it:Addr}(I:Inv X pins σ H s)(k:∀b o,b≠it->s.heap.get? b=some o->h'.get? b=some o)(hn:H it=none)(hL:it≠X.env.locals)
  (h1:it∈X.ex\/X.s₀.heap.objs.size<=it) (h2:∀x c,X.env.cells.lookup x=some c->c≠it) (h3:∀p∈X.pn++pins,p.1≠it):Inv X pins σ H { s with heap:=h',toks:=t' }:=by
 have EV:∀b u,H b=some u->b≠it:=fun b u e z=>by rw[z,hn]at e;cases e
 refine I.step (g':=s.gens) (d':=s.drawn) (ch:=[it]) (fun b hb=>?_) (fun b o _ _ hc e _=>k b o (fun z=>hc (by simp[z])) e) (fun b o _ _ hc e _=>⟨o.slots,k b o (fun z=>hc (by simp[z])) e⟩) (fun _ _ _ _ n=>n)
  (fun b o hc e=>⟨o,k b o (fun z=>hc (by simp[z])) e⟩) (fun _ _ e=>e) (fun _ _ _ e=>e) (fun b ps e=>⟨#[],by rw[e];simp⟩) (fun m hm=>?_) (fun b u e=>?_) I.bare
 ·have e:b=it:=by simpa using hb
  subst e
  exact⟨h1,hL,h2,h3⟩
 ·obtain⟨o,es,ep,ho,r⟩:=hm
  exact⟨o,es,ep,k _ o (J8 hL) ho,r⟩
 ·refine(I.hok b u e).stay (fun c v hc q=>k c v ?_ q) (fun _ q=>q) fun _ _ q=>q
  rcases hc with z|z
  ·rw[z];exact EV b u e
  ·exact EV c _ z
def Inv.tok(I:Inv X pins σ H s)(t:Nat):Inv X pins σ H { s with toks:=t }:=I.un (h':=s.heap) (t':=t) Un.refl I.hok
theorem Inv.kept{t':Nat}(I:Inv X pins σ H s)(k:∀b u,s.heap.get? b=some u->h'.get? b=some u):Inv X pins σ H { s with heap:=h',toks:=t' }:=I.un (Un.kept k) (I.hok.kept k)
theorem Inv.laid{a:Addr}{o:HO}{t':Nat}(I:Inv X pins σ H s)(k:∀b u,s.heap.get? b=some u->h'.get? b=some u)(hp:s.heap.objs.size<=a)(new:Az X.prog X.w (upd H a o) h' a o) :
  Inv X pins σ (upd H a o) { s with heap:=h',toks:=t' }:=I.un (Un.laid k hp (I.hok.fresh hp)) (I.hok.laid k hp new)
theorem Inv.write{x e:Addr}{o:HO}{t':Nat}(I:Inv X pins σ H s)(mu:wD (H x))(he:e=x\/H e=some (.own x))(k:∀b u,b≠e->s.heap.get? b=some u->h'.get? b=some u)(EF:∃u,h'.get? e=some u)
  (new:Az X.prog X.w (upd H x o) h' x o):Inv X pins σ (upd H x o) { s with heap:=h',toks:=t' }:=I.un (Un.write mu he k EF) (I.hok.write mu he k EF new)
def Inv.weak{σ':List (Option V)}(I:Inv X pins σ H s)(hl:σ'.length=σ.length)(w:∀(i:Nat) v,σ'[i]?=some (some v)->σ[i]?=some (some v)):Inv X pins σ' H s:=
 ⟨I.ok,I.os,I.bare,I.base,let ⟨m,hn,hl'⟩:=I.loc;⟨m,hn,fun i x v e1 e2 e3=>hl' i x v e1 (w i v e2) e3⟩,I.cell,I.free,I.Bs,I.pin,I.hok,hl.trans I.len⟩
def Inv.Cl{Eb:Va}(I:Inv X pins σ H s)(h:∀p∈Eb,s.heap.get? p.1=some p.2/\H p.1=none/\p.1≠X.env.locals/\p.1 ∉ X.fs/\∀v,p.2.data ≠ .cell v):Inv X Eb σ H s:=
 ⟨I.ok,I.os,I.bare,I.base,I.loc,I.cell,I.free,I.Bs,fun p hp=>(Iu.mp hp).elim (fun z=>I.pin p (JF _ z)) (h p),I.hok,I.len⟩
def lP{N:Vs}(hN:N.Nodup){i j:Nat}{x:Str}(a:N[i]?=some x)(b:N[j]?=some x):i=j:=by
 obtain⟨h1,e1⟩:=Jj.mp a
 obtain⟨h2,e2⟩:=Jj.mp b
 exact(List.getElem_inj hN).mp (e1.trans e2.symm)
def j4 {M : Model} {A : Around} {E : Value -> Shared -> Prop} {i : Nat} {x : Str} {v : V} {u : Value} {Q : Unit -> Shared -> Prop} (I : Inv X pins σ H s) (hN : X.N.Nodup) (hi : X.N[i]? = some x) (hx : tZ X.env.scope x) (r : RelV v u)
  (h : ∀ s', Inv X pins (σ.set i (some v)) H s' -> (∃ a, Heap.SameBut a s.heap s'.heap /\ (a = X.env.locals \/ X.env.cells.lookup x = some a)) -> Q () s') (hf : X.fn x = true \/ X.env.scope.names.lookup x = some .local := by first | exact .inl rfl | exact .inr rfl | assumption) : wpAny M A (storeName X.env x u) Q E s := by
 obtain ⟨m, hn, hl⟩ := id I.loc
 have hcls : (X.env.scope.kind == .class || (X.env.scope.kind == .module && X.env.locals != X.env.globals)) = false := by rw [I.ok.kind]; rfl
 have Gp : i < σ.length := by rw [I.len]; exact (Jj.mp hi).1
 have Ek := I.Ek
 have tracked : ∀ {a : Addr} {h' : Heap}, (∃ o, s.heap.get? a = some o /\ H a = none) -> Heap.SameBut a s.heap h' -> BD X.prog X.w H h' := fun {a h'} ha hs b ob e => by
  obtain ⟨_, _, hfree⟩ := ha
  refine (I.hok b ob e).stay (fun c w' hc q => (hs.2 c ?_).trans q) (fun _ q => q) fun _ _ q => q
  rintro rfl
  rcases hc with rfl | hc
  ·rw [hfree] at e; cases e
  ·rw [hfree] at hc; cases hc
 rcases hx with hk | hk
 ·refine wpAny_storeName_local hk hn (fun h' hn' hs => ?_) hcls
  obtain ⟨oL, _, _, G1, _⟩ := id hn
  refine h _ ⟨I.ok, I.os, I.bare, ⟨fun b o e n hb hx => ?_, fun b o e n hb hx => ?_, I.base.free, fun b o e hx => ?_, I.base.tups, I.base.CH, I.base.C0⟩, ⟨_, hn', fun j y v' e1 e2 e3 => ?_⟩, fun y c e => ?_, I.free, I.Bs, fun p hp => ?_, tracked ⟨oL, G1, I.free⟩ hs, by simpa using I.len⟩ ⟨_, hs, .inl rfl⟩
  ·exact (hs.2 b (Ik (HX (HR e) I.ok.above))).trans (I.base.keep b o e n hb hx)
  ·obtain ⟨sl, e1⟩ := I.base.slot b o e n hb hx
   exact ⟨sl, (hs.2 b (Ik (HX (HR e) I.ok.above))).trans e1⟩
  ·obtain ⟨o', e1⟩ := I.base.there b o e hx
   exact ⟨o', (hs.2 b (Ik (HX (HR e) I.ok.above))).trans e1⟩
  ·by_cases hj : j = i
   ·subst hj
    rw [hi] at e1; cases e1
    rw [List.getElem?_set_self Gp] at e2
    cases e2
    exact ⟨u, r, .inl ⟨hk, by simp⟩⟩
   ·rw [List.getElem?_set_ne (J8 hj)] at e2
    obtain ⟨u', r', q⟩ := hl j y v' e1 e2 e3
    refine ⟨u', r', ?_⟩
    rcases q with ⟨k, e⟩ | ⟨k, c, e, z⟩
    ·refine .inl ⟨k, ?_⟩
     have : y ≠ x := fun e => hj (lP hN e1 (e ▸ hi))
     simp [this, e]
    ·exact .inr ⟨k, c, e, z.sameBut hs (Ek y c e)⟩
  ·obtain ⟨w', z⟩ := I.cell y c e
   exact ⟨w', z.sameBut hs (Ek y c e)⟩
  ·obtain ⟨e, n, ne, nf, d⟩ := I.pin p hp
   exact ⟨(hs.2 p.1 ne).trans e, n, ne, nf, d⟩
 ·have hfn : X.fn x = true := by
   rcases hf with z | z
   ·exact z
   ·rw [z] at hk; cases hk
  obtain ⟨c, hc⟩ := I.ok.has x (.inl hk)
  obtain ⟨w', z⟩ := I.cell x c hc
  refine wpAny_storeName_cell I.ok.kind hk hc z (fun h' hc' hs => ?_)
  obtain ⟨oc, hoc, FE⟩ := id z
  refine h { s with heap := h' } ⟨I.ok, I.os, I.bare, ⟨fun b o e n hb hx => ?_, fun b o e n hb hx => ?_, I.base.free, fun b o e hx => ?_, I.base.tups, I.base.CH, I.base.C0⟩, ⟨m, hn.sameBut hs (J8 (Ek x c hc)), fun j y v' e1 e2 e3 => ?_⟩, fun y c' e => ?_, I.free, I.Bs, fun p hp => ?_, tracked ⟨oc, hoc, I.Bs x c hc⟩ hs, by simpa using I.len⟩ ⟨c, hs, .inr hc⟩
  ·exact (hs.2 b (Ik (HX (HR e) (I.ok.EG x c hfn hc)))).trans (I.base.keep b o e n hb hx)
  ·obtain ⟨sl, e1⟩ := I.base.slot b o e n hb hx
   exact ⟨sl, (hs.2 b (Ik (HX (HR e) (I.ok.EG x c hfn hc)))).trans e1⟩
  ·obtain ⟨o', e1⟩ := I.base.there b o e hx
   exact ⟨o', (hs.2 b (Ik (HX (HR e) (I.ok.EG x c hfn hc)))).trans e1⟩
  ·by_cases hj : j = i
   ·subst hj
    rw [hi] at e1; cases e1
    rw [List.getElem?_set_self Gp] at e2
    cases e2
    exact ⟨u, r, .inr ⟨.inl hk, c, hc, hc'⟩⟩
   ·rw [List.getElem?_set_ne (J8 hj)] at e2
    obtain ⟨u', r', q⟩ := hl j y v' e1 e2 e3
    refine ⟨u', r', ?_⟩
    rcases q with q | ⟨k, c', e, z'⟩
    ·exact .inl q
    ·refine .inr ⟨k, c', e, z'.sameBut hs ?_⟩
     rintro rfl
     exact hj (lP hN e1 (I.ok.inj _ _ _ e hc ▸ hi))
  ·by_cases hcc : c' = c
   ·subst hcc; exact ⟨_, hc'⟩
   ·obtain ⟨w2, z2⟩ := I.cell y c' e
    exact ⟨w2, z2.sameBut hs hcc⟩
  ·obtain ⟨e, n, ne, nf, d⟩ := I.pin p hp
   refine ⟨(hs.2 p.1 ?_).trans e, n, ne, nf, d⟩
   intro q
   rw [q, hoc] at e
   have q' : oc = p.2 := IY e
   exact d w' (by rw [<- q']; exact FE)
def cC{M:Model}{A:Around}{E:Vq}{i:Nat}{x:Str}{v:V}{u:Value}{Q:Unit->Shared->Prop}(I:Inv X pins σ H s)(hN:X.N.Nodup)(hi:X.N[i]?=some x)(hx:tZ X.env.scope x)(r:RelV v u)
  (h:∀s',Inv X pins (σ.set i (some v)) H s'->Q () s') (hf:X.fn x=true\/X.env.scope.names.lookup x=some .local:=by first|exact .inl rfl|exact .inr rfl|assumption):wpAny M A (storeName X.env x u) Q E s:=
 j4 I hN hi hx r (fun s' I' _=>h s' I') hf
def Inv.EW{s':Shared}{ch:List Addr}(I:Inv X pins σ H s)(ho:s'.os=s.os)(u:Un (frs X.stack) ch H H' s.heap s'.heap)(hok:BD X.prog X.w H' s'.heap)(hg:AllBare s'.gens)
  (hch:∀b∈ch,(b∈X.ex\/X.s₀.heap.objs.size<=b)/\b≠X.env.locals/\(∀x c,X.env.cells.lookup x=some c->c≠b)/\∀p∈X.pn++pins,p.1≠b):Inv X pins σ H' s':=by
 obtain⟨h',g',d',t',o'⟩:=s'
 have e:o'=s.os:=ho
 subst e
 exact I.call (g':=g') (t':=t') (d':=d') u hok hg hch
end
abbrev XK:=Value->Option Addr->Hp->Prop
abbrev St:=List (Option V)
abbrev VK:=V->Hp->Prop
abbrev TE:=St->Hp->VK->Prop
abbrev TT:=St->Hp->(Bool->Hp->Prop)->Prop
abbrev TA:=St->Hp->(List V->Hp->Prop)->Prop
structure mJ where
 nx:St->Hp->Prop
 rt:VK
 bk:St->Hp->Prop:=fun _ _=>False
 ct:St->Hp->Prop:=fun _ _=>False
abbrev TS:=mJ->St->Hp->Prop
def EP(X:Cx)(pins:Va)(σ:St)(Q:VK)(u:Value)(s':Shared):Prop:=∃v H',Inv X pins σ H' s'/\RelV v u/\Q v H'
def TP(X:Cx)(pins:Va)(σ:St)(Q:Bool->Hp->Prop)(b:Bool)(s':Shared):Prop:=∃H',Inv X pins σ H' s'/\Q b H'
def AP(X:Cx)(pins:Va)(σ:St)(Q:List V->Hp->Prop)(us:Vv)(s':Shared):Prop:=∃vs H',Inv X pins σ H' s'/\Vals vs us/\Q vs H'
def SP(X:Cx)(pins:Va)(D:mJ)(f:Flow)(s':Shared):Prop:=
 match f with
 | .next=>∃σ' H',Inv X pins σ' H' s'/\D.nx σ' H'
 | .brk=>∃σ' H',Inv X pins σ' H' s'/\D.bk σ' H'
 | .cont=>∃σ' H',Inv X pins σ' H' s'/\D.ct σ' H'
 | .ret u=>∃v σ' H',Inv X pins σ' H' s'/\RelV v u/\D.rt v H'
def PE(X:Cx)(e:Expr)(t:TE):Prop:=
 ∀(pins:Va) (s:Shared) (σ:St) (H:Hp) (Q:VK),Inv X pins σ H s->t σ H Q->wpAny (model X.prog X.w) X.A (eval e X.env) (EP X pins σ Q) X.xe s
def PT(X:Cx)(e:Expr)(t:TT):Prop:=
 ∀(pins:Va) (s:Shared) (σ:St) (H:Hp) (Q:Bool->Hp->Prop),Inv X pins σ H s->t σ H Q->wpAny (model X.prog X.w) X.A (isTrue e X.env (eval e X.env)) (TP X pins σ Q) X.xe s
def PW(X:Cx)(e:Expr)(t:TT):Prop:=
 ∀(whole:Sem Value) (pins:Va) (s:Shared) (σ:St) (H:Hp) (Q:Bool->Hp->Prop),Inv X pins σ H s->t σ H Q->wpAny (model X.prog X.w) X.A (isTrue e X.env whole) (TP X pins σ Q) X.xe s
def PW.pt{X:Cx}{e:Expr}{t:TT}(h:PW X e t):PT X e t:=h _
def PA(X:Cx)(es:List Expr)(t:TA):Prop:=
 ∀(pos:Pos) (pins:Va) (s:Shared) (σ:St) (H:Hp) (Q:List V->Hp->Prop),Inv X pins σ H s->t σ H Q->wpAny (model X.prog X.w) X.A (spliced (backTo pos (starEach es X.env))) (AP X pins σ Q) X.xe s
def PS(X:Cx)(st:Stmt)(t:TS):Prop:=
 ∀(pins:Va) (s:Shared) (σ:St) (H:Hp) (D:mJ),Inv X pins σ H s->t D σ H->wpAny (model X.prog X.w) X.A (exec st X.env) (SP X pins D) X.xe s
def C9(X:Cx)(st:List Stmt)(t:TS):Prop:=
 ∀(pins:Va) (s:Shared) (σ:St) (H:Hp) (D:mJ),Inv X pins σ H s->t D σ H->wpAny (model X.prog X.w) X.A (execs st X.env) (SP X pins D) X.xe s
def Ak{α:Type}{t:Sem α}{Q Q':α->Shared->Prop}{M:Model}{A:Around}{E:Vq}{s:Shared}(h:wpAny M A t Q E s)(hQ:∀a s,Q a s->Q' a s):wpAny M A t Q' E s:=JL h hQ fun _ _ x=>x
section
variable {X:Cx}
def yC(i:Nat):TE:=fun σ H Q=>∃v,σ[i]?=some (some v)/\Q v H
def tC(v:V):TE:=fun _ H Q=>Q v H
def uz{i:Nat}{x:Str}{pos:Pos}(hN:X.N[i]?=some x)(hv:yo X.env.scope x)(hd:(x == ("__debug__":Str))=false:=by decide)(hcd:(x == ("__classdict__":Str))=false:=by decide):PE X (.Name x pos) (yC i):=by
 intro pins s σ H Q I h
 obtain⟨v,e,h⟩:=h
 obtain⟨m,hn,hl⟩:=I.loc
 obtain⟨u,r,l⟩:=hl i x v hN e hv
 have fin:EP X pins σ Q u s:=⟨v,H,I,r,h⟩
 rcases l with⟨hk,hm⟩|⟨hk,c,hc,hcell⟩
 ·exact wpAny_Name (wpAny_loadName_local I.ok.kind hk hn hm fin) hd
 ·rcases hk with hk|hk
  ·exact wpAny_Name (wpAny_loadName_cell I.ok.kind hk hc hcell fin) hd
  ·exact wpAny_Name (wpAny_loadName_free I.ok.kind hk hc hcell fin hcd) hd
def uA{i j pos}:PE X (.Constant (.int i) j pos) (tC (.int i)):=fun _ _ _ H _ I h=>wpAny_Constant_int ⟨.int i,H,I.tok _,⟨_,rfl⟩,h⟩
def wE{b j pos}:PE X (.Constant (.bool b) j pos) (tC (.bl b)):=fun _ _ _ H _ I h=>Constant_bool ⟨.bl b,H,I,rfl,h⟩
def uB{x j pos}:PE X (.Constant (.str x) j pos) (tC (.str x)):=fun _ _ _ H _ I h=>Calls.Constant_str ⟨.str x,H,I.tok _,⟨_,rfl⟩,h⟩
def Gl(X:Cx)(x:Str):Prop:=X.env.kindOf x=some .globalImplicit
def sh{E:Vq}{pins:Va}{s:Shared}{σ:St}{H:Hp}{x:Str}{u:Value}{pos:Pos}{Q:Vq}(I:Inv X pins σ H s)(hg:Gl X x)(hm:X.mg x=some u)(h:Q u s)
  (hd:(x == ("__debug__":Str))=false:=by decide):wpAny (model X.prog X.w) X.A (eval (.Name x pos) X.env) Q E s:=
 Calls.Name_function_global I.ok.kind hg (Calls.loadGlobal_global (by rw[I.ok.glob];exact I.mod.glob.keeps I.bk) hm h) hd
def fR{E:Vq}{pins:Va}{s:Shared}{σ:St}{H:Hp}{x:Str}{u:Value}{pos:Pos}{Q:Vq}(I:Inv X pins σ H s)(hg:Gl X x)(hm:X.mg x=none)(hv:bootBuiltins x=some u)(h:Q u s)
  (hn:x ≠ "__name__":=by decide) (hd:(x == ("__debug__":Str))=false:=by decide):wpAny (model X.prog X.w) X.A (eval (.Name x pos) X.env) Q E s:=by
 obtain⟨mb,h1,h2⟩:=I.mod.blt
 exact Calls.Name_function_global I.ok.kind hg (Calls.loadGlobal_builtin (by rw[I.ok.glob];exact I.mod.glob.keeps I.bk) hm (by rw[I.ok.blt];exact h1.keeps I.bk) ((h2 x hn).trans hv) h) hd
variable {a b:Expr} {ta tb:TE} {pos:Pos}
def tB(t:TE):TT:=fun σ H Q=>t σ H fun x H1=>∃c,x = .bl c/\Q c H1
def uC{e:Expr}{t:TE}(h:PE X e t)(he:∀whole,isTrue e X.env whole=(do let v <-whole;standAt e.pos;holding [v] (truthy v)):=by intro _;rfl):PT X e (tB t):=by
 intro pins s σ H Q I hw
 refine isTrue_plain (Ak (h pins s σ H _ I hw) fun v s1 ⟨x,H1,I1,r1,q1⟩=>?_) (he _)
 obtain⟨d,rfl,q⟩:=q1
 cases r1
 exact wpAny_truthy_bool ⟨H1,I1,q⟩
variable {tA Fj:TT} {rest:List Expr}
def yD(t u:TT):TT:=fun σ H Q=>t σ H fun c H1=>if c=true then u σ H1 Q else Q false H1
def zH(t u:TT):TT:=fun σ H Q=>t σ H fun c H1=>if c=true then Q true H1 else u σ H1 Q
def yE(t:TT):TT:=fun σ H Q=>t σ H fun c H1=>Q (!c) H1
def si(ha:PT X a tA):PW X (.BoolOp .And [a] pos) tA:=by
 intro wh pins s σ H Q I h
 refine isTrue_and (Ak (ha pins s σ H Q I h) fun c s1 e=>?_)
 cases c with
 |true=>exact isTrue_and_nil e
 |false=>exact e
def uD(ha:PT X a tA):PW X (.BoolOp .Or [a] pos) tA:=by
 intro wh pins s σ H Q I h
 refine isTrue_or (Ak (ha pins s σ H Q I h) fun c s1 e=>?_)
 cases c with
 |false=>exact isTrue_or_nil e
 |true=>exact e
def uE(ha:PT X a tA)(hb:PW X (.BoolOp .And (b::rest) pos) Fj):PW X (.BoolOp .And (a::b::rest) pos) (yD tA Fj):=by
 intro wh pins s σ H Q I h
 refine isTrue_and (Ak (ha pins s σ H _ I h) fun c s1 ⟨H1,I1,q1⟩=>?_)
 cases c with
 |true=>exact hb wh pins s1 σ H1 Q I1 q1
 |false=>exact⟨H1,I1,q1⟩
def wF(ha:PT X a tA)(hb:PW X (.BoolOp .Or (b::rest) pos) Fj):PW X (.BoolOp .Or (a::b::rest) pos) (zH tA Fj):=by
 intro wh pins s σ H Q I h
 refine isTrue_or (Ak (ha pins s σ H _ I h) fun c s1 ⟨H1,I1,q1⟩=>?_)
 cases c with
 |true=>exact⟨H1,I1,q1⟩
 |false=>exact hb wh pins s1 σ H1 Q I1 q1
def uF(ha:PT X a tA):PT X (.UnaryOp .Not a pos) (yE tA):=by
 intro pins s σ H Q I h
 exact isTrue_not (ha pins s σ H (fun c H1=>Q (!c) H1) I h)
def zI(t:TT)(ta tb:TE):TE:=fun σ H Q=>t σ H fun c H1=>if c=true then ta σ H1 Q else tb σ H1 Q
def pM{c:Expr}(hc:PT X c tA)(ha:PE X a ta)(hb:PE X b tb):PE X (.IfExp c a b pos) (zI tA ta tb):=by
 intro pins s σ H Q I h
 refine wpAny_IfExp (Ak (hc pins s σ H _ I h) fun d s1 ⟨H1,I1,q1⟩=>?_)
 cases d with
 |true=>exact ha pins s1 σ H1 Q I1 q1
 |false=>exact hb pins s1 σ H1 Q I1 q1
end
def SqL(K:Vo)(H:Hp)(a:Addr)(xs:List V):Prop:=
 Rd H a (.lst xs) \/
  ∃(o:Obj) (its:Vw) (n:Nat),K.lookup a=some o/\o.cls = .type "list"/\o.dict=none/\o.data = .seq its n/\its.size<=sizeLine/\Vals xs its.toList
def SqT(K:Vo)(H:Hp)(a:Addr)(xs:List V):Prop:=
 Rd H a (.tup xs) \/
  ∃(o:Obj) (its:Vw) (n:Nat),K.lookup a=some o/\o.cls = .type "tuple"/\o.dict=none/\o.data = .seq its n/\its.size<=sizeLine/\Vals xs its.toList
noncomputable def yF:Value->Option V
 | .none=>some .non
 | .bool b=>some (.bl b)
 | .int i _=>some (.int i)
 | .str x _=>some (.str x)
 | .bytes b _=>some (.Dw b)
 | .float b _=>some (.Fx b)
 | .ref a=>some (.ref a)
 | .type n=>some (.ty n)
 |_=>none
def RelV.abs{x:V}{u:Value}(r:RelV x u):yF u=some x:=by
 cases x with
 |non=>cases r;rfl
 |bl _=>cases r;rfl
 |int _=>obtain⟨t,rfl⟩:=r;rfl
 |str _=>obtain⟨t,rfl⟩:=r;rfl
 |Dw _=>obtain⟨t,rfl⟩:=r;rfl
 |Fx _=>obtain⟨t,rfl⟩:=r;rfl
 |ref _=>cases r;rfl
 |ty _=>cases r;rfl
theorem RelV.inj{x y:V}{u:Value}(r:RelV x u)(q:RelV y u):x=y:=IY (r.abs.symm.trans q.abs)
theorem Vals.inj:∀{xs ys:List V} {us:Vv},Vals xs us->Vals ys us->xs=ys
 |_,_,_,.nil,.nil=>rfl
 |_,_,_,.cons r t,.cons r' t'=>by rw[r.inj r',Vals.inj t t']
section
variable {X:Cx} {pins:Va} {σ:St} {H:Hp} {s:Shared} {a:Addr} {xs ys:List V}
def SqL.of{K:Vo}(h:H a=some (.lst xs)):SqL K H a xs:=.inl (.inl h)
def SqT.of{K:Vo}(h:H a=some (.tup xs)):SqT K H a xs:=.inl (.inl h)
def Inv.list(I:Inv X pins σ H s)(h:SqL X.K H a xs):∃its:List Value,Vals xs its/\PlainL s.heap a its.toArray/\xs.length<=sizeLine:=by
 rcases h with h|⟨o,its,n,hk,hc,hd,hs,hz,r⟩
 ·obtain⟨z,its,n,r,e⟩:=h.ok I.hok
  exact⟨its,r,⟨_,n,e,rfl,rfl,rfl⟩,z⟩
 ·refine⟨its.toList,r,⟨o,n,I.EH a o hk,hc,hd,by simpa using hs⟩,?_⟩
  have e:=r.length
  simp only[Array.length_toList]at e
  omega
def Inv.tuple(I:Inv X pins σ H s)(h:SqT X.K H a xs):∃its:List Value,Vals xs its/\IsTup s.heap a its.toArray/\xs.length<=sizeLine:=by
 rcases h with h|⟨o,its,n,hk,hc,_,hs,hz,r⟩
 ·obtain⟨z,its,r,p⟩:=h.ok I.hok
  exact⟨its,r,p.tup,z⟩
 ·refine⟨its.toList,r,⟨o,I.EH a o hk,hc,n,by simpa using hs⟩,?_⟩
  have e:=r.length
  simp only[Array.length_toList]at e
  omega
def Inv.C1(I:Inv X pins σ H s)(h:SqL X.K H a xs)(h':SqL X.K H a ys):xs=ys:=by
 obtain⟨its,r,⟨o,n,e,_,_,d⟩,_⟩:=I.list h
 obtain⟨its',r',⟨o',n',e',_,_,d'⟩,_⟩:=I.list h'
 rw[e]at e';cases e'
 rw[d]at d'
 injection d' with d1 _
 have:its=its':=by simpa using IS Array.toList d1
 subst this
 exact r.inj r'
def Inv.CF(I:Inv X pins σ H s)(h:SqT X.K H a xs)(h':SqT X.K H a ys):xs=ys:=by
 obtain⟨its,r,⟨o,e,_,n,d⟩,_⟩:=I.tuple h
 obtain⟨its',r',⟨o',e',_,n',d'⟩,_⟩:=I.tuple h'
 rw[e]at e';cases e'
 rw[d]at d'
 injection d' with d1 _
 have:its=its':=by simpa using IS Array.toList d1
 subst this
 exact r.inj r'
end
noncomputable abbrev Cx.wish(X:Cx)(E:Vq):Cx:={ X with xe:=E }
noncomputable abbrev Cx.EX(X:Cx):Cx:=X.wish fun _ _=>False
theorem Cx.Ok.wish{X:Cx}(ok:X.Ok)(E:Vq):(X.wish E).Ok:=
 ⟨ok.mod,ok.kind,ok.glob,ok.blt,ok.above,ok.inj,ok.has,ok.EG,ok.hd,ok.frames,ok.stk,ok.FB,ok.bs,ok.DR,ok.Do,ok.Dx,ok.Ci,ok.Ej⟩
def Cx.Ok.Bt{X:Cx}{E:Vq}(ok:(X.wish E).Ok):X.Ok:=
 ⟨ok.mod,ok.kind,ok.glob,ok.blt,ok.above,ok.inj,ok.has,ok.EG,ok.hd,ok.frames,ok.stk,ok.FB,ok.bs,ok.DR,ok.Do,ok.Dx,ok.Ci,ok.Ej⟩
section
variable {X:Cx} {pins:Va} {σ:St} {H:Hp} {s:Shared} {E:Vq}
theorem Inv.wish(I:Inv X pins σ H s)(E:Vq):Inv (X.wish E) pins σ H s:=⟨I.ok.wish E,I.os,I.bare,I.base,I.loc,I.cell,I.free,I.Bs,I.pin,I.hok,I.len⟩
theorem Inv.Bt(I:Inv (X.wish E) pins σ H s):Inv X pins σ H s:=⟨I.ok.Bt,I.os,I.bare,I.base,I.loc,I.cell,I.free,I.Bs,I.pin,I.hok,I.len⟩
theorem SP.Bt{D:mJ}{f:Flow}{s':Shared}(h:SP (X.wish E) pins D f s'):SP X pins D f s':=by
 cases f with
 |next=>obtain⟨σ',H',I,q⟩:=h;exact⟨σ',H',I.Bt,q⟩
 |brk=>obtain⟨σ',H',I,q⟩:=h;exact⟨σ',H',I.Bt,q⟩
 |cont=>obtain⟨σ',H',I,q⟩:=h;exact⟨σ',H',I.Bt,q⟩
 |ret u=>obtain⟨v,σ',H',I,r,q⟩:=h;exact⟨v,σ',H',I.Bt,r,q⟩
theorem C9.EX{st:List Stmt}{t:TS}(h:C9 X.EX st t):C9 X st t:=fun pins s σ H D I hw=>
 JL (h pins s σ H D (I.wish _) hw) (fun _ _ q=>q.Bt) fun _ _ z=>False.elim z
end
section
variable {X:Cx} {st:Stmt} {rest:List Stmt} {t u:TS} {e:Expr} {te:TE} {pos:Pos}
def wG:TS:=fun D σ H=>D.nx σ H
def yG(t u:TS):TS:=fun D σ H=>t { D with nx:=u D } σ H
def sj:C9 X [] wG:=fun _ _ σ H _ I h=>KO ⟨σ,H,I,h⟩
def pN(h1:PS X st t)(h2:C9 X rest u):C9 X (st::rest) (yG t u):=by
 intro pins s σ H D I h
 refine wpAny_execs_cons (Ak (h1 pins s σ H { D with nx:=u D } I h) fun f s1 q=>?_)
 cases f with
 |next=>
  obtain⟨σ',H',I',q⟩:=q
  exact h2 pins s1 σ' H' D I' q
 |ret v=>exact q
 |brk=>exact q
 |cont=>exact q
def sk(h1:PS X st t):C9 X [st] t:=by
 intro pins s σ H D I h
 refine wpAny_execs_cons (Ak (h1 pins s σ H D I h) fun f s1 q=>?_)
 cases f with
 |next=>exact KO q
 |ret v=>exact q
 |brk=>exact q
 |cont=>exact q
def Inv.quiet{pins:Va}{σ:St}{H:Hp}{s:Shared}(I:Inv X pins σ H s):interactive X.env=false:=by simp[interactive,I.ok.kind]
def wH(te:TE):TS:=fun D σ H=>te σ H fun _ H1=>D.nx σ H1
def sn(he:PE X e te)(hs:swapsWith e none pos.line X.env=pure false:=by rfl):PS X (.Expr e pos) (wH te):=by
 intro pins s σ H D I h
 exact wpAny_Expr_any (Ak (he pins s σ H _ I h) fun v s1 ⟨x,H1,I1,r1,q1⟩=>⟨σ,H1,I1,q1⟩) I.quiet hs
def yH(te:TE):TS:=fun D σ H=>te σ H D.rt
def uG(he:PE X e te):PS X (.Return (some e) pos) (yH te):=by
 intro pins s σ H D I h
 exact wpAny_Return_some (Ak (he pins s σ H _ I h) fun v s1 ⟨x,H1,I1,r1,q1⟩=>⟨x,σ,H1,I1,r1,q1⟩)
def yI(c:TT)(t u:TS):TS:=fun D σ H=>c σ H fun b H1=>if b=true then t D σ H1 else u D σ H1
def wI{c:Expr}{a b:List Stmt}{tc:TT}(hc:PT X c tc)(ha:C9 X a t)(hb:C9 X b u):PS X (.If c a b pos) (yI tc t u):=by
 intro pins s σ H D I h
 refine wpAny_If (Ak (hc pins s σ H _ I h) fun d s1 ⟨H1,I1,q1⟩=>?_)
 cases d with
 |true=>exact ha pins s1 σ H1 D I1 q1
 |false=>exact hb pins s1 σ H1 D I1 q1
end
abbrev TG:=V->St->Hp->(St->Hp->Prop)->Prop
abbrev t4:=List V->St->Hp->(St->Hp->Prop)->Prop
def PG(X:Cx)(target:Expr)(t:TG):Prop:=
 ∀(pins:Va) (s:Shared) (σ:St) (H:Hp) (v:V) (u:Value) (Q:St->Hp->Prop),Inv X pins σ H s->RelV v u->t v σ H Q->
  wpAny (model X.prog X.w) X.A (assign target X.env u) (fun _ s'=>∃σ' H',Inv X pins σ' H' s'/\Q σ' H') X.xe s
def wJ(X:Cx)(ts:List Expr)(t:t4):Prop:=
 ∀(pins:Va) (s:Shared) (σ:St) (H:Hp) (vs:List V) (us:Vv) (Q:St->Hp->Prop),Inv X pins σ H s->Vals vs us->t vs σ H Q->
  wpAny (model X.prog X.w) X.A (assignInOrder ((assignEach ts X.env).map (·.2)) us) (fun _ s'=>∃σ' H',Inv X pins σ' H' s'/\Q σ' H') X.xe s
abbrev uH:=V->V->V->Hp->(Hp->Prop)->Prop
def sr(X:Cx)(t:uH):Prop:=
 ∀(pins:Va) (s:Shared) (σ:St) (H:Hp) (o i v:V) (ov iv u:Value) (Q:Hp->Prop),Inv X pins σ H s->RelV o ov->RelV i iv->RelV v u->t o i v H Q->
  wpAny (model X.prog X.w) X.A (setItem ov iv u) (fun _ s'=>∃H',Inv X pins σ H' s'/\Q H') X.xe s
section
variable {X:Cx} {pos:Pos}
def lQ(i:Nat):TG:=fun v σ H Q=>Q (σ.set i (some v)) H
def ss{i:Nat}{x:Str}(hN:X.N.Nodup)(hi:X.N[i]?=some x)(hx:tZ X.env.scope x)(hf:X.fn x=true\/X.env.scope.names.lookup x=some .local:=by first|exact .inl rfl|exact .inr rfl|assumption):PG X (.Name x pos) (lQ i):=by
 intro pins s σ H v u Q I r h
 exact wpAny_assign_Name (cC I hN hi hx r (fun s' I'=>⟨_,H,I',h⟩) hf)
noncomputable def wK:t4:=fun vs σ H Q=>vs=[]/\Q σ H
noncomputable def t5(t:TG)(u:t4):t4:=fun vs σ H Q=>∃v r,vs=v::r/\t v σ H fun σ' H'=>u r σ' H' Q
def su:wJ X [] wK:=by
 intro pins s σ H vs us Q I r h
 obtain⟨e,h⟩:=h
 subst e
 cases r
 exact assignInOrder_nil ⟨σ,H,I,h⟩
def pO{e:Expr}{es:List Expr}{t:TG}{u:t4}(h1:PG X e t)(h2:wJ X es u)
  (hs:(assignEach (e::es) X.env).map (·.2)=assign e X.env::(assignEach es X.env).map (·.2):=by rfl):wJ X (e::es) (t5 t u):=by
 intro pins s σ H vs us Q I r h
 obtain⟨v,vr,e1,h⟩:=h
 subst e1
 cases r with
 |cons r rr=>
  rw[hs]
  refine Jz (Ak (h1 pins s σ H _ _ _ I r h) fun _ s1 ⟨σ1,H1,I1,q1⟩=>?_)
  exact h2 pins s1 σ1 H1 _ _ Q I1 rr q1
def wL(K:Vo)(n:Nat)(t:t4):TG:=fun v σ H Q=>∃a xs,v = .ref a/\SqT K H a xs/\xs.length=n/\t xs σ H Q
def uI{es:List Expr}{k:Nat}{t:t4}{n:Nat}(hc:X.calm=true)(h:wJ X es t)
  (hn:(assignEach es X.env).length=n:=by rfl) (hst:(assignEach es X.env).findIdx? (·.1)=none:=by rfl):PG X (.Tuple es k pos) (wL X.K n t):=by
 intro pins s σ H v u Q I r hw
 obtain⟨a,xs,e1,hq,hl,hw⟩:=hw
 subst e1
 cases r
 obtain⟨its,rv,ht,hz⟩:=I.tuple hq
 refine assign_Tuple_tuple (I.ok.hd hc) ht (by simp[hn,<-hl,rv.length]) hst fun h' hx=>?_
 have I1:Inv X pins σ H { s with heap:=h' }:=I.kept (t':=s.toks) fun b o e=>hx b o (Ik (HR e)) e
 exact h pins _ σ H xs _ Q I1 (by simpa using rv) hw
def yJ(to ti:TE)(t:uH):TG:=fun v σ H Q=>to σ H fun o H1=>ti σ H1 fun i H2=>t o i v H2 fun H3=>Q σ H3
def uJ{o i:Expr}{to ti:TE}{t:uH}(ho:PE X o to)(hi:PE X i ti)(hs:sr X t)
  (ha:∀v,assign (.Subscript o i pos) X.env v=(do
   let ov <-holding [v] (eval o X.env)
   let iv <-holding [v,ov] (eval i X.env)
   standAt pos
   holding [v,ov,iv] (setItem ov iv v)
   release [v,ov,iv] []):=by intro _;rfl):PG X (.Subscript o i pos) (yJ to ti t):=by
 intro pins s σ H v u Q I r h
 rw[ha]
 refine HL (J6 (Ak (ho pins s σ H _ I h) fun ov s1 ⟨x,H1,I1,r1,q1⟩=>?_))
 refine HL (J6 (Ak (hi pins s1 σ H1 _ I1 q1) fun iv s2 ⟨y,H2,I2,r2,q2⟩=>?_))
 refine HL (wpAny_standAt (HL (J6 (Ak (hs pins s2 σ H2 x y v ov iv u _ I2 r1 r2 r q2) fun _ s3 ⟨H3,I3,q3⟩=>?_))))
 exact wpAny_release ⟨σ,H3,I3,q3⟩
def sv(te:TE)(g:TG):TS:=fun D σ H=>te σ H fun x H1=>g x σ H1 D.nx
def pP{tg e:Expr}{te:TE}{g:TG}(he:PE X e te)(hg:PG X tg g)(hs:swapsWithSole [tg] e pos.line X.env=pure false:=by rfl)(hw:swappedStores [tg] e X.env=pure none:=by rfl)
  (h1:(assignEach [tg] X.env).map (·.2)=[assign tg X.env]:=by rfl):PS X (.Assign [tg] e pos) (sv te g):=by
 intro pins s σ H D I h
 refine wpAny_Assign_stores (Ak (he pins s σ H _ I h) fun v s1 ⟨x,H1,I1,r1,q1⟩=>?_) hs hw
 rw[h1]
 exact Ak (hg pins s1 σ H1 x v _ I1 r1 q1) fun _ s2 q=>q
def uK{i:Nat}{x:Str}{e:Expr}{te:TE}{pos':Pos}(hN:X.N.Nodup)(hi:X.N[i]?=some x)(hx:tZ X.env.scope x)(he:PE X e te)(hs:swapsWith e (some (.Name x pos')) pos.line X.env=pure false:=by rfl)(hf:X.fn x=true\/X.env.scope.names.lookup x=some .local:=by first|exact .inl rfl|exact .inr rfl|assumption) :
  PS X (.Assign [.Name x pos'] e pos) (sv te (lQ i)):=by
 intro pins s σ H D I h
 refine wpAny_Assign_Name (Ak (he pins s σ H _ I h) fun v s1 ⟨y,H1,I1,r1,q1⟩=>?_) hs
 exact cC I1 hN hi hx r1 (fun s2 I2=>⟨_,H1,I2,q1⟩) hf
def yK(i j:Nat)(ta:TA):TS:=fun D σ H=>ta σ H fun vs H1=>∃v w,vs=[v,w]/\D.nx ((σ.set i (some v)).set j (some w)) H1
def uL{i j:Nat}{x y:Str}{a b:Expr}{ta:TA}{px py pt:Pos}{kt k2 El}(hc:X.calm=true)(hN:X.N.Nodup)(hi:X.N[i]?=some x)(hj:X.N[j]?=some y)(hij:i≠j)
  (hx:X.env.scope.names.lookup x=some .local) (hy:X.env.scope.names.lookup y=some .local) (ha:PA X [a,b] ta)
  (hw:swappedStores [.Tuple [.Name x px,.Name y py] kt pt] (.Tuple [a,b] k2 El) X.env=pure (some [x,y]))
  (hs:swapsWithSole [.Tuple [.Name x px,.Name y py] kt pt] (.Tuple [a,b] k2 El) pos.line X.env=pure false:=by rfl) :
  PS X (.Assign [.Tuple [.Name x px,.Name y py] kt pt] (.Tuple [a,b] k2 El) pos) (yK i j ta):=by
 intro pins s σ H D I h
 rw[exec_Assign_arm]
 refine HL (wpAny_standAt ?_)
 rw[hs]
 refine HL (HS ?_)
 rw[if_neg (by decide)]
 refine HL (Tuple_ (Ak (ha _ pins s σ H _ I h) fun us s1 ⟨vs,H1,I1,r1,q1⟩=>?_))
 obtain⟨v,w,e1,q1⟩:=q1
 subst e1
 obtain⟨u1,u2,rfl,rv,rw'⟩:∃u1 u2,us=[u1,u2]/\RelV v u1/\RelV w u2:=by
  cases r1 with
  |cons p q=>
   cases q with
   |cons p' q'=>
    cases q'
    exact⟨_,_,rfl,p,p'⟩
 refine Jb ?_ (by show 2<=sizeLine;decide)
 have I2:Inv X pins σ H1 { s1 with heap:=s1.heap.push { cls:=.type "tuple",data:=.seq [u1,u2].toArray } }:=I1.kept (t':=s1.toks) fun b o e=>HM _ e
 rw[hw]
 refine HL (HS ?_)
 show wpAny (model X.prog X.w) X.A (do rule "assign.swapped-stores"; let items <-unpackItems (.ref s1.heap.objs.size) 2 none;assignInOrder [fun v=>bindName X.env y v,fun v=>bindName X.env x v] items.reverse;pure Flow.next) _ _ _
 refine HL (JT (HL (unpackItems_tuple (items:=#[u1,u2]) (I.ok.hd hc) (IsTup.new s1.heap _) fun h' hx'=>?_)))
 have I3:=I2.kept (h':=h') (t':=s1.toks) fun b o e=>hx' b o (Ik (HR e)) e
 show wpAny _ _ (assignInOrder [fun v=>bindName X.env y v,fun v=>bindName X.env x v] [u2,u1] >>= fun _=>pure Flow.next) _ _ _
 refine HL (Jz (Ko (cC I3 hN hj (.inl hy) rw' (fun s2 I4=>?_) (.inr hy))))
 refine Jz (Ko (cC I4 hN hi (.inl hx) rv (fun s3 I5=>assignInOrder_nil (HS ?_)) (.inr hx)))
 rw[List.set_comm _ _ (J8 hij)]at I5
 exact⟨_,H1,I5,q1⟩
end
section
variable {X:Cx} {pos:Pos}
def uM(c:TT)(tb:TS):TS:=fun D σ H=>∃W:Nat->St->Hp->Prop,(∃m,W m σ H)/\∀m σ H,W m σ H->
 c σ H fun b H1=>if b=true then ∃N:St->Hp->Prop,(∀σ' H',N σ' H'->∃m',m' < m/\W m' σ' H')/\tb { D with nx:=N,ct:=N,bk:=D.nx } σ H1 else D.nx σ H1
def pQ{c:Expr}{body:List Stmt}{tc:TT}{tb:TS}(hp:PassesOwn (model X.prog X.w) X.A X.env X.xe)(hc:PT X c tc)(hb:C9 X body tb):PS X (.While c body [] pos) (uM tc tb):=by
 intro pins s σ H D I h
 obtain⟨W,⟨m0,w0⟩,turn⟩:=h
 refine wpAny_While (codeAny_whileLoop (fun n s'=>∃σ' H',Inv X pins σ' H' s'/\W n σ' H') ?_ m0 ⟨σ,H,I,w0⟩)
 rintro n s1 ⟨σ1,H1,I1,w1⟩
 refine JD hp (Ak (hc pins s1 σ1 H1 _ I1 (turn n σ1 H1 w1)) fun b s2 ⟨H2,I2,q2⟩=>?_)
 cases b with
 |true=>
  obtain⟨N,hN,q2⟩:=q2
  rw[if_pos rfl]
  refine JD hp (Ak (hb pins s2 σ1 H2 _ I2 q2) fun f s3 q3=>?_)
  cases f with
  |next=>
   obtain⟨σ3,H3,I3,n3⟩:=q3
   obtain⟨m',hm,w3⟩:=hN σ3 H3 n3
   exact⟨m',hm,σ3,H3,I3,w3⟩
  |cont=>
   obtain⟨σ3,H3,I3,n3⟩:=q3
   obtain⟨m',hm,w3⟩:=hN σ3 H3 n3
   exact⟨m',hm,σ3,H3,I3,w3⟩
  |brk=>exact q3
  |ret v=>exact q3
 |false=>
  rw[if_neg Ig]
  exact KO ⟨σ1,H2,I2,q2⟩
end
structure It where
 go:Nat->Hp->Prop
 Fk:Nat->Hp->V->Hp->Prop
 stop:Nat->Hp->Prop
def eN(X:Cx)(pins:Va)(H:Hp)(b:Addr):Prop:=
 H b=none/\b≠X.env.locals/\b ∉ X.fs/\(b∈X.ex\/X.s₀.heap.objs.size<=b)/\(∀x c,X.env.cells.lookup x=some c->c≠b)/\∀p∈X.pn++pins,p.1≠b
def Inv.CA{X:Cx}{pins:Va}{σ:St}{H H':Hp}{s:Shared}{b:Addr}(I:Inv X pins σ H s)(hb:s.heap.objs.size<=b)(hn:H' b=none):eN X pins H' b:=by
 refine⟨hn,JM (HX I.lt hb),I.ES hb,.inr (Ib I.sz hb),fun x c e z=>?_,fun p hp z=>?_⟩
 ·obtain⟨v,q⟩:=I.cell x c e
  exact absurd (HX q.lt (by rw[z];exact hb)) (Jy _)
 ·exact absurd (HX (HR (I.pin p hp).1) (by rw[z];exact hb)) (Jy _)
structure lR (P:Program) (w:World) (K:Vo) (tg:Expr) (J:It) (fp:List Addr) (it:Addr) (tn:Nat->Heap->Prop):Prop where
 mem:it∈fp
 obj:∀i h,tn i h->∀b∈fp,∃o,h.get? b=some o/\∀v,o.data ≠ .cell v
 keep:∀i h h',tn i h->(∀b∈fp,∀o,h.get? b=some o->h'.get? b=some o)->tn i h'
 item:∀(X:Cx),X.prog=P->X.w=w->X.K=K->X.calm=true->∀(i:Nat) (pins:Va) (s:Shared) (σ:St) (H:Hp) (E:Vq),Inv X pins σ H s->(∀b∈fp,eN X pins H b)->tn i s.heap->J.go i H->
  wpAny (model P w) X.A (pyNext (.ref it)) (fun r s1=>∃u,r=some u/\
   wpAny (model P w) X.A (letOwnedTupleGo tg (.ref it) u) (fun _ s2=>∃x H',Inv X pins σ H' s2/\RelV x u/\J.Fk i H x H'/\tn (i+1) s2.heap/\∀b∈fp,H' b=none) E s1) E s
 done:∀(X:Cx),X.prog=P->X.w=w->X.K=K->X.calm=true->∀(i:Nat) (pins:Va) (s:Shared) (σ:St) (H:Hp) (E:Vq),Inv X pins σ H s->(∀b∈fp,eN X pins H b)->tn i s.heap->J.stop i H->
  wpAny (model P w) X.A (pyNext (.ref it)) (fun r s1=>r=none/\Inv X pins σ H s1) E s
 self:∀(A:Around) (i:Nat) (s:Shared) (Q:Vq) (E:Vq),tn i s.heap->Q (.ref it) s->wpAny (model P w) A (pyIter (.ref it)) Q E s
abbrev TI:=St->Hp->(It->Hp->Prop)->Prop
def yL(X:Cx)(pins:Va)(σ:St)(tg:Expr)(R:It->Hp->Prop)(itv:Value)(s2:Shared):Prop:=
 ∃(it:Addr) (fp:List Addr) (tn:Nat->Heap->Prop) (J:It) (H':Hp),itv = .ref it/\Inv X pins σ H' s2/\lR X.prog X.w X.K tg J fp it tn/\tn 0 s2.heap/\(∀b∈fp,eN X pins H' b)/\R J H'
def PI(X:Cx)(tg iter:Expr)(wi:TI):Prop:=
 ∀(pins:Va) (s:Shared) (σ:St) (H:Hp) (R:It->Hp->Prop),Inv X pins σ H s->wi σ H R->
  wpAny (model X.prog X.w) X.A (eval iter X.env) (fun v s1=>wpAny (model X.prog X.w) X.A (pyIter v) (yL X pins σ tg R) X.xe s1) X.xe s
def eO {M : Model} {A : Around} {E : Value -> Shared -> Prop} {s : Shared} {tg : Expr} {it : Addr} {u : Value} {o : Obj} {n : String} {vs : Array Value} {Q : Unit -> Shared -> Prop} (ho : s.heap.get? it = some o) (hc : o.cls = .type n) (hd : o.data = .fields vs)
    (hn : ["enumerate", "zip", "dict_itemiterator", "dict_reverseitemiterator", "odict_iterator", "itertools.zip_longest", "itertools.pairwise"].contains n = false) (hQ : Q () s) : wpAny M A (letOwnedTupleGo tg (.ref it) u) Q E s := by
  unfold letOwnedTupleGo
  cases tg <;> first
    | exact HS hQ
    | (cases u <;> first
        | exact HS hQ
        | (refine HL (wpAny_load ho ?_)
           rw [hc, hd]
           show wpAny M A (if (["enumerate", "zip", "dict_itemiterator", "dict_reverseitemiterator", "odict_iterator", "itertools.zip_longest", "itertools.pairwise"].contains n && vs[0]? == some (rawInt _)) = true then _ else _) Q E s
           rw [if_neg (by intro h; rw [hn, Bool.false_and] at h; cases h)]
           exact HS hQ))
noncomputable def yp(K:Vo)(a:Addr):It:=
 ⟨fun i H=>∃xs x,SqL K H a xs/\xs[i]?=some x,fun i H x H'=>H'=H/\∀xs,SqL K H a xs->xs[i]?=some x,fun i H=>∃xs,SqL K H a xs/\xs.length<=i⟩
noncomputable def yM(K:Vo)(a:Addr):It:=
 ⟨fun i H=>∃xs x,SqT K H a xs/\xs[i]?=some x,fun i H x H'=>H'=H/\∀xs,SqT K H a xs->xs[i]?=some x,fun i H=>∃xs,SqT K H a xs/\xs.length<=i⟩
noncomputable def yq(lo:Int)(n:Nat):It:=⟨fun i _=>i < n,fun i H x H'=>H'=H/\x = .int (lo+i),fun i _=>n<=i⟩
def om{P:Program}{w:World}{K:Vo}{tg:Expr}(a it:Addr):lR P w K tg (yp K a) [it] it (fun i h=>h.IsListIter it a i) where
 mem:=by simp
 obj:=fun i h st b hb=>by
  have e:b=it:=by simpa using hb
  subst e
  obtain⟨o,e,c,d⟩:=st
  exact⟨o,e,fun v z=>by rw[d]at z;cases z⟩
 keep:=fun i h h' st k=>st.at fun o e=>k it (by simp) o e
 item:=by
  intro X hP hw hK hc i pins s σ H E I hf st hg
  subst hP hw hK
  obtain⟨xs,x,hq,hx⟩:=hg
  obtain⟨its,rv,p,hz⟩:=I.list hq
  obtain⟨u,hu,ru⟩:=rv.get hx
  obtain⟨f0,f1,f2,f3,f4,f5⟩:=hf it (by simp)
  refine wpAny_pyNext_list_item st p.isList (x:=u) (by simpa using hu) fun h' st' sb=>?_
  have I1:Inv X pins σ H { s with heap:=h' }:=I.turned (t':=s.toks) (fun b o hb e=>(sb.2 b hb).trans e) f0 f1 f3 f4 f5
  obtain⟨o,e,c,d⟩:=id st'
  exact⟨u,rfl,eO (s:={ s with heap:=h' }) e c d (by decide) ⟨x,H,I1,ru,⟨rfl,fun ys hy=>by rw[I.C1 hy hq];exact hx⟩,st',fun b hb=>(hf b hb).1⟩⟩
 done:=by
  intro X hP hw hK hc i pins s σ H E I hf st hg
  subst hP hw hK
  obtain⟨xs,hq,hx⟩:=hg
  obtain⟨its,rv,p,hz⟩:=I.list hq
  obtain⟨f0,f1,f2,f3,f4,f5⟩:=hf it (by simp)
  have hl:=rv.length
  exact wpAny_pyNext_list_end (I.ok.hd hc) st p.isList (by simp;omega) fun h' eb=>⟨rfl,I.turned (t':=s.toks) (fun b o hb e=>eb b o hb e) f0 f1 f3 f4 f5⟩
 self:=fun _ _ _ _ _ st h=>wpAny_pyIter_listiter st h
def mK{P:Program}{w:World}{K:Vo}{tg:Expr}(a it:Addr):lR P w K tg (yM K a) [it] it (fun i h=>h.IsTupleIter it a i) where
 mem:=by simp
 obj:=fun i h st b hb=>by
  have e:b=it:=by simpa using hb
  subst e
  obtain⟨o,e,c,d⟩:=st
  exact⟨o,e,fun v z=>by rw[d]at z;cases z⟩
 keep:=fun i h h' st k=>st.at fun o e=>k it (by simp) o e
 item:=by
  intro X hP hw hK hc i pins s σ H E I hf st hg
  subst hP hw hK
  obtain⟨xs,x,hq,hx⟩:=hg
  obtain⟨its,rv,p,hz⟩:=I.tuple hq
  obtain⟨u,hu,ru⟩:=rv.get hx
  obtain⟨f0,f1,f2,f3,f4,f5⟩:=hf it (by simp)
  refine wpAny_pyNext_tuple_item st (show s.heap.IsTuple a its.toArray from p) (x:=u) (by simpa using hu) fun h' st' sb=>?_
  have I1:Inv X pins σ H { s with heap:=h' }:=I.turned (t':=s.toks) (fun b o hb e=>(sb.2 b hb).trans e) f0 f1 f3 f4 f5
  obtain⟨o,e,c,d⟩:=id st'
  exact⟨u,rfl,eO (s:={ s with heap:=h' }) e c d (by decide) ⟨x,H,I1,ru,⟨rfl,fun ys hy=>by rw[I.CF hy hq];exact hx⟩,st',fun b hb=>(hf b hb).1⟩⟩
 done:=by
  intro X hP hw hK hc i pins s σ H E I hf st hg
  subst hP hw hK
  obtain⟨xs,hq,hx⟩:=hg
  obtain⟨its,rv,p,hz⟩:=I.tuple hq
  obtain⟨f0,f1,f2,f3,f4,f5⟩:=hf it (by simp)
  have hl:=rv.length
  exact wpAny_pyNext_tuple_end (I.ok.hd hc) st (show s.heap.IsTuple a its.toArray from p) (by simp;omega) fun h' eb=>⟨rfl,I.turned (t':=s.toks) (fun b o hb e=>eb b o hb e) f0 f1 f3 f4 f5⟩
 self:=fun _ _ _ _ _ st h=>wpAny_pyIter_tupleiter st h
def mL{P:Program}{w:World}{K:Vo}{tg:Expr}(it:Addr)(lo:Int)(n:Nat):lR P w K tg (yq lo n) [it] it (fun i h=>IsRangeIter h it (lo+(i:Nat) * 1) ((n:Int) - (i:Nat)) 1) where
 mem:=by simp
 obj:=fun i h st b hb=>by
  have e:b=it:=by simpa using hb
  subst e
  exact⟨_,st,fun v z=>by
   have z':Data.fields _=Data.cell v:=z
   cases z'⟩
 keep:=fun i h h' st k=>k it (by simp) _ st
 item:=by
  intro X hP hw hK hc i pins s σ H E I hf st hg
  subst hP hw hK
  obtain⟨f0,f1,f2,f3,f4,f5⟩:=hf it (by simp)
  have W:=Walks.range (prog:=X.prog) (w:=X.w) (I.ok.hd hc) it lo 1 n
  refine W.item i s _ _ hg st fun v h' tk hv st' kk=>?_
  obtain⟨t,rfl⟩:=hv
  have I1:Inv X pins σ H { s with heap:=h',toks:=tk }:=I.turned (fun b o hb e=>kk b o (by simpa using hb) e) f0 f1 f3 f4 f5
  refine⟨_,rfl,eO (s:={ s with heap:=h',toks:=tk }) (n:="range_iterator") st' rfl rfl (by decide) ⟨.int (lo+i),H,I1,⟨t,?_⟩,⟨rfl,rfl⟩,st',fun b hb=>(hf b hb).1⟩⟩
  rw[JU]
 done:=by
  intro X hP hw hK hc i pins s σ H E I hf st hg
  subst hP hw hK
  obtain⟨f0,f1,f2,f3,f4,f5⟩:=hf it (by simp)
  exact wpAny_pyNext_range_end (I.ok.hd hc) st (by have:n<=i:=hg;omega) fun h' eb=>⟨rfl,I.turned (t':=s.toks) (fun b o hb e=>eb b o hb e) f0 f1 f3 f4 f5⟩
 self:=fun _ _ _ _ _ st h=>wpAny_pyIter_rangeiter st h
section
variable {X:Cx} {tg:Expr}
def pR{pins:Va}{σ:St}{H:Hp}{s:Shared}{R:It->Hp->Prop}{E:Vq}{lo hi:Int}{t u v:Tok}{tk:Nat}(I:Inv X pins σ H s)(h1:-(2 ^ 62)<=lo)(h2:lo < 2 ^ 62)(h3:-(2 ^ 62)<=hi)(h4:hi < 2 ^ 62)
  (q:R (yq lo (hi - lo).toNat) H):wpAny (model X.prog X.w) X.A (pyIter (.ref s.heap.objs.size)) (yL X pins σ tg R) E { s with heap:=s.heap.push { cls:=.type "range",data:=.fields #[.int lo t,.int hi u,.int 1 v] },toks:=tk }:=by
 refine wpAny_pyIter_range (IsRange.new ..) (small_one h1 h2 h3 h4) ?_
 have I1:Inv X pins σ H { s with heap:=s.heap.push { cls:=.type "range",data:=.fields #[.int lo t,.int hi u,.int 1 v] },toks:=tk }:=I.kept fun b o e=>HM _ e
 refine⟨(s.heap.push { cls:=.type "range",data:=.fields #[.int lo t,.int hi u,.int 1 v] }).objs.size,[(s.heap.push { cls:=.type "range",data:=.fields #[.int lo t,.int hi u,.int 1 v] }).objs.size],_,_,H,rfl,
  I1.kept (t':=tk) fun b o e=>HM _ e,mL _ lo (hi - lo).toNat,?_,fun b hb=>?_,q⟩
 ·have e1:lo+((0:Nat):Int) * 1=lo:=by simp
  have e2:(((hi - lo).toNat:Nat):Int) - ((0:Nat):Int)=Builtin.Range.rangeSize lo hi 1:=by rw[rangeSize_one];split<;>omega
  show IsRangeIter _ _ (lo+((0:Nat):Int) * 1) ((((hi - lo).toNat:Nat):Int) - ((0:Nat):Int)) 1
  rw[e1,e2]
  exact HV _ rfl
 ·have e:b=(s.heap.push { cls:=.type "range",data:=.fields #[.int lo t,.int hi u,.int 1 v] }).objs.size:=by simpa using hb
  subst e
  exact I1.CA (HN _) (I1.hok.fresh (HN _))
def wM(ta:TA):TI:=fun σ H R=>ta σ H fun vs H1=>∃j:Int,vs=[.int j]/\-(2 ^ 62)<=j/\j < 2 ^ 62/\R (yq 0 j.toNat) H1
def oo{a:Expr}{ta:TA}{p pos:Pos}(hg:Gl X "range")(hm:X.mg "range" = none)(ha:PA X [a] ta)(hs:starEach [a] X.env=[(false,eval a X.env)]:=by rfl):PI X tg (.Call (.Name "range" p) [a] [] pos) (wM ta):=by
 intro pins s σ H R I h
 refine Call_ (fR I hg hm boot_range (IQ (Ak (ha pos pins s σ H _ I h) fun us s1 ⟨vs,H1,I1,r1,q1⟩=>?_) hs rfl))
 obtain⟨j,e,q1,q2,q⟩:=q1
 subst e
 cases r1 with
 |cons r rr=>
  cases rr
  obtain⟨t,rfl⟩:=r
  exact call_range_1 (pR I1 (by omega) (by omega) q1 q2 (by simpa using q))
def yN(wi:TI)(g:TG)(tb:TS):TS:=fun D σ H=>wi σ H fun J H1=>∃W:Nat->Nat->St->Hp->Prop,(∃m,W 0 m σ H1)/\∀i m σ H,W i m σ H->
 (J.stop i H/\D.nx σ H)\/(J.go i H/\∃N:St->Hp->Prop,(∀σ' H',N σ' H'->∃m',m' < m/\W (i+1) m' σ' H')/\∀x H',J.Fk i H x H'->g x σ H' fun σ2 H2=>tb { D with nx:=N,ct:=N,bk:=D.nx } σ2 H2)
noncomputable def iY(fp:List Addr)(h:Heap):List (Addr×Obj):=fp.filterMap fun b=>(h.get? b).map fun o=>(b,o)
def fS{fp:List Addr}{h:Heap}{b:Addr}{o:Obj}(hb:b∈fp)(e:h.get? b=some o):(b,o)∈iY fp h:=List.mem_filterMap.mpr ⟨b,hb,by rw[e];rfl⟩
def oq{fp:List Addr}{h:Heap}{p:Addr×Obj}(hp:p∈iY fp h):p.1∈fp/\h.get? p.1=some p.2:=by
 obtain⟨b,hb,e⟩:=List.mem_filterMap.mp hp
 cases q:h.get? b with
 |none=>rw[q]at e;cases e
 |some o=>
  rw[q]at e
  have e':(b,o)=p:=IY e
  subst e'
  exact⟨hb,q⟩
def Inv.pinned{pins:Va}{σ:St}{H:Hp}{s:Shared}{fp:List Addr}(I:Inv X pins σ H s)(hf:∀b∈fp,eN X pins H b)(ho:∀b∈fp,∃o,s.heap.get? b=some o/\∀v,o.data ≠ .cell v):Inv X (pins++iY fp s.heap) σ H s:=
 I.Cl fun p hp=>(Iu.mp hp).elim (fun z=>I.pin p (Io _ z)) fun z=>by
  obtain⟨hb,e⟩:=oq z
  obtain⟨f0,f1,f2,_⟩:=hf p.1 hb
  obtain⟨o,e',d⟩:=ho p.1 hb
  rw[e]at e';cases e'
  exact⟨e,f0,f1,f2,d⟩
def Inv.BW{pins pl:Va}{σ:St}{H:Hp}{s:Shared}(I:Inv X (pins++pl) σ H s):Inv X pins σ H s:=I.Cl fun p hp=>I.pin p (Io _ (JF _ hp))
def uN{iter:Expr}{body:List Stmt}{wi:TI}{g:TG}{tb:TS}{pos:Pos}(hp:PassesOwn (model X.prog X.w) X.A X.env X.xe)(hc:X.calm=true)(hi:PI X tg iter wi)(hg:PG X tg g)(hb:C9 X body tb)
  (hs:∀x,foldedSetIterable iter X.env x=pure x:=by intro _;rfl):PS X (.For tg iter body [] pos) (yN wi g tb):=by
 intro pins s σ H D I h
 refine wpAny_For (Ak (hi pins s σ H _ I h) fun v s1 h1=>Ak h1 fun itv s2 h2=>?_) hs
 obtain⟨it,fp,tn,J,H2,e,I2,T,st2,f2,W,⟨m0,w0⟩,turn⟩:=h2
 subst e
 -- what stays true of the iterator's objects through the loop
 have stat:∀{H':Hp},(∀b∈fp,H' b=none)->∀b∈fp,eN X pins H' b:=fun hn b hb=>⟨hn b hb,(f2 b hb).2⟩
 refine codeAny_forLoop_any (fun n s'=>∃i σ' H',Inv X pins σ' H' s'/\tn i s'.heap/\(∀b∈fp,H' b=none)/\W i n σ' H') ?_ m0 ⟨0,σ,H2,I2,st2,fun b hb=>(f2 b hb).1,w0⟩
 rintro n s3 ⟨i,σ3,H3,I3,st3,Gq,w3⟩
 rcases turn i n σ3 H3 w3 with⟨stop,qn⟩|⟨go,N,hN,step⟩
 ·refine JD hp (Ak (T.done X rfl rfl rfl hc i pins s3 σ3 H3 X.xe I3 (stat Gq) st3 stop) fun r s4 ⟨hr,I4⟩=>?_)
  subst hr
  exact KO ⟨σ3,H3,I4,qn⟩
 ·refine JD hp (Ak (T.item X rfl rfl rfl hc i pins s3 σ3 H3 X.xe I3 (stat Gq) st3 go) fun r s4 ⟨u,hr,h4⟩=>?_)
  subst hr
  refine JD hp (Ak h4 fun _ s5 ⟨x,H5,I5,r5,y5,DS,FF⟩=>?_)
  have FG:=I5.pinned (stat FF) (T.obj _ _ DS)
  refine JD hp (Ak (hg _ s5 σ3 H5 x u _ FG r5 (step x H5 y5)) fun _ s6 ⟨σ6,H6,I6,q6⟩=>?_)
  refine JD hp (Ak (hb _ s6 σ6 H6 _ I6 q6) fun f s7 q7=>?_)
  have again:∀{σ7:St} {H7:Hp},Inv X (pins++iY fp s5.heap) σ7 H7 s7->N σ7 H7->∃m,m < n/\∃i σ' H',Inv X pins σ' H' s7/\tn i s7.heap/\(∀b∈fp,H' b=none)/\W i m σ' H':=fun{σ7 H7} I7 n7=>by
   obtain⟨m',hm,w7⟩:=hN σ7 H7 n7
   refine⟨m',hm,i+1,σ7,H7,I7.BW,T.keep _ _ _ DS fun b hb o e=>(I7.pin (b,o) (Io _ (Io _ (fS hb e)))).1,fun b hb=>?_,w7⟩
   obtain⟨o,e,d⟩:=T.obj _ _ DS b hb
   exact(I7.pin (b,o) (Io _ (Io _ (fS hb e)))).2.1
  cases f with
  |next=>obtain⟨σ7,H7,I7,n7⟩:=q7;exact again I7 n7
  |cont=>obtain⟨σ7,H7,I7,n7⟩:=q7;exact again I7 n7
  |brk=>obtain⟨σ7,H7,I7,q7⟩:=q7;exact⟨σ7,H7,I7.BW,q7⟩
  |ret v=>obtain⟨x7,σ7,H7,I7,r7,q7⟩:=q7;exact⟨x7,σ7,H7,I7.BW,r7,q7⟩
end
abbrev R2:=V->V->Hp->VK->Prop
def g7(X:Cx)(f:Value->Value->Sem Value)(r:R2):Prop:=
 ∀(pins:Va) (s:Shared) (σ:St) (H:Hp) (x y:V) (v u:Value) (Q:VK),Inv X pins σ H s->RelV x v->RelV y u->r x y H Q->
  wpAny (model X.prog X.w) X.A (f v u) (EP X pins σ Q) X.xe s
def yr(X:Cx)(f:Value->Sem Value)(r:V->Hp->VK->Prop):Prop:=
 ∀(pins:Va) (s:Shared) (σ:St) (H:Hp) (x:V) (v:Value) (Q:VK),Inv X pins σ H s->RelV x v->r x H Q->
  wpAny (model X.prog X.w) X.A (f v) (EP X pins σ Q) X.xe s
def fJ(X:Cx)(f:Value)(r:List V->Hp->VK->Prop):Prop:=
 ∀(pins:Va) (s:Shared) (σ:St) (H:Hp) (xs:List V) (us:Vv) (Q:VK),Inv X pins σ H s->Vals xs us->r xs H Q->
  wpAny (model X.prog X.w) X.A (call f us) (EP X pins σ Q) X.xe s
def wN(r:R2)(ta tb:TE):TE:=fun σ H Q=>ta σ H fun x H1=>tb σ H1 fun y H2=>r x y H2 Q
def zJ(r:V->Hp->VK->Prop)(ta:TE):TE:=fun σ H Q=>ta σ H fun x H1=>r x H1 Q
def rI(C:Int->Int->Prop)(g:Int->Int->V):R2:=fun x y H Q=>∃i j,x = .int i/\y = .int j/\C i j/\Q (g i j) H
def sw(g:Int->Int->V):R2:=fun x y H Q=>∃i j,x = .int i/\y = .int j/\Q (g i j) H
noncomputable def rU(g:Int->V):V->Hp->VK->Prop:=fun x H Q=>∃i,x = .int i/\Q (g i) H
section
variable {X:Cx} {a b c:Expr} {ta tb tc:TE} {pos:Pos}
def uO(ha:PE X a ta)(hb:PE X b tb){pins:Va}{s:Shared}{σ:St}{H:Hp}{R:V->V->Hp->Prop}(I:Inv X pins σ H s)
  (h:ta σ H fun x H1=>tb σ H1 fun y H2=>R x y H2) {Q:Vq} {f:Value->Value->Sem Value}
  (hf:∀v u s2 x y H2,Inv X pins σ H2 s2->RelV x v->RelV y u->R x y H2->wpAny (model X.prog X.w) X.A (f v u) Q X.xe s2) :
  wpAny (model X.prog X.w) X.A (eval a X.env) (fun v s₁=>wpAny (model X.prog X.w) X.A (eval b X.env) (fun u s₂=>wpAny (model X.prog X.w) X.A (f v u) Q X.xe s₂) X.xe s₁) X.xe s:=by
 refine Ak (ha pins s σ H _ I h) fun v s1 ⟨x,H1,I1,r1,q1⟩=>?_
 refine Ak (hb pins s1 σ H1 _ I1 q1) fun u s2 ⟨y,H2,I2,r2,q2⟩=>?_
 exact hf v u s2 x y H2 I2 r1 r2 q2
def wO{op:Operator}{r:R2}(ho:g7 X (binaryOp op) r)(ha:PE X a ta)(hb:PE X b tb):PE X (.BinOp a op b pos) (wN r ta tb):=by
 intro pins s σ H Q I h
 exact wpAny_BinOp (uO ha hb I h fun v u s2 x y H2 I2 rx ry q=>ho pins s2 σ H2 x y v u Q I2 rx ry q)
def wP{op:UnaryOp}{r:V->Hp->VK->Prop}(ho:yr X (unaryOp op) r)(ha:PE X a ta):PE X (.UnaryOp op a pos) (zJ r ta):=by
 intro pins s σ H Q I h
 exact UnaryOp_ (Ak (ha pins s σ H _ I h) fun v s1 ⟨x,H1,I1,r1,q1⟩=>ho pins s1 σ H1 x v Q I1 r1 q1)
def yt{f:Value->Value->Sem Value}{C:Int->Int->Prop}{g:Int->Int->Int}
  (rule:∀(i j:Int) (t u:Tok) (s:Shared) (Q:Vq) (E:Vq),C i j->Q (.int (g i j) s.toks) { s with toks:=s.toks+1 }->wpAny (model X.prog X.w) X.A (f (.int i t) (.int j u)) Q E s) :
  g7 X f (rI C fun i j=>.int (g i j)):=by
 intro pins s σ H x y v u Q I rx ry h
 obtain⟨i,j,rfl,rfl,hc,q⟩:=h
 obtain⟨t,rfl⟩:=rx
 obtain⟨t',rfl⟩:=ry
 exact rule i j t t' s _ _ hc ⟨.int (g i j),H,I.tok _,⟨_,rfl⟩,q⟩
def wQ{f:Value->Value->Sem Value}{g:Int->Int->Int}
  (rule:∀(i j:Int) (t u:Tok) (s:Shared) (Q:Vq) (E:Vq),Q (.int (g i j) s.toks) { s with toks:=s.toks+1 }->wpAny (model X.prog X.w) X.A (f (.int i t) (.int j u)) Q E s) :
  g7 X f (sw fun i j=>.int (g i j)):=by
 intro pins s σ H x y v u Q I rx ry h
 obtain⟨i,j,rfl,rfl,q⟩:=h
 obtain⟨t,rfl⟩:=rx
 obtain⟨t',rfl⟩:=ry
 exact rule i j t t' s _ _ ⟨.int (g i j),H,I.tok _,⟨_,rfl⟩,q⟩
def uP{f:Value->Value->Sem Value}{g:Int->Int->Bool}
  (rule:∀(i j:Int) (t u:Tok) (s:Shared) (Q:Vq) (E:Vq),Q (.bool (g i j)) s->wpAny (model X.prog X.w) X.A (f (.int i t) (.int j u)) Q E s) :
  g7 X f (sw fun i j=>.bl (g i j)):=by
 intro pins s σ H x y v u Q I rx ry h
 obtain⟨i,j,rfl,rfl,q⟩:=h
 obtain⟨t,rfl⟩:=rx
 obtain⟨t',rfl⟩:=ry
 exact rule i j t t' s _ _ ⟨.bl (g i j),H,I,rfl,q⟩
def uQ(i j:Int):Prop:=0<=j/\j<=1000000/\i.natAbs < 2 ^ 64
def DT(i j:Int):Prop:=(-(2 ^ 64) < i/\i < 2 ^ 64)\/(-(2 ^ 64) < j/\j < 2 ^ 64)
def DT.ok{i j:Int}(h:DT i j):IntMulOk i j:=by
 rcases h with⟨h1,h2⟩|⟨h1,h2⟩
 ·exact .of_left (intBits_le_64 h1 h2)
 ·exact .of_right (intBits_le_64 h1 h2)
def uR:g7 X (binaryOp .Add) (sw fun i j=>.int (i+j)):=wQ fun _ _ _ _ _ _ _ q=>add_int q
def uS:g7 X (binaryOp .Sub) (sw fun i j=>.int (i - j)):=wQ fun _ _ _ _ _ _ _ q=>sub_int q
def sx:g7 X (binaryOp .Mod) (rI (fun _ j=>j≠0) fun i j=>.int (i.fmod j)):=yt fun _ _ _ _ _ _ _ hc q=>mod_int' hc q
def uT:g7 X (binaryOp .Pow) (rI uQ fun i j=>.int (i ^ j.toNat)):=yt fun _ _ _ _ _ _ _ hc q=>pow_int_small hc.1 hc.2.1 hc.2.2 q
def zK{f:Value->Sem Value}{g:Int->Int}
  (rule:∀(i:Int) (t:Tok) (s:Shared) (Q:Vq) (E:Vq),Q (.int (g i) s.toks) { s with toks:=s.toks+1 }->wpAny (model X.prog X.w) X.A (f (.int i t)) Q E s) :
  yr X f (rU fun i=>.int (g i)):=by
 intro pins s σ H x v Q I rx h
 obtain⟨i,rfl,q⟩:=h
 obtain⟨t,rfl⟩:=rx
 exact rule i t s _ _ ⟨.int (g i),H,I.tok _,⟨_,rfl⟩,q⟩
def uU:yr X (unaryOp .USub) (rU fun i=>.int (-i)):=zK fun _ _ _ _ _ q=>neg_int q
end
noncomputable def wR:V->V->Bool
 | .non,.non=>true | .non,.int _=>true | .int _,.non=>true | .non,.bl _=>true | .bl _,.non=>true | .non,.str _=>true | .str _,.non=>true
 | .int _,.int _=>true | .bl _,.bl _=>true | .str _,.str _=>true | .Dw _,.Dw _=>true
 | .int _,.str _=>true | .str _,.int _=>true | .bl _,.str _=>true | .str _,.bl _=>true
 |_,_=>false
def zL:R2:=fun x y H Q=>wR x y=true/\Q (.bl (decide (x=y))) H
def zM:R2:=fun x y H Q=>wR x y=true/\Q (.bl (!decide (x=y))) H
def nz{i j:Int}:decide (V.int i=V.int j)=(i == j):=by
 rw[J9]
 simp
def pS{i j:Bool}:decide (V.bl i=V.bl j)=(i == j):=by
 rw[J9]
 simp
def nA{i j:Str}:decide (V.str i=V.str j)=(i == j):=by
 rw[J9]
 simp
def nB{i j:Array UInt8}:decide (V.Dw i=V.Dw j)=(i.toList == j.toList):=by
 rw[J9]
 cases i
 cases j
 simp
section
variable {X:Cx} {a b c:Expr} {ta tb tc:TE} {pos:Pos}
def aF{pins:Va}{σ:St}{H:Hp}{s:Shared}{Q:VK}{k k':Bool}(I:Inv X pins σ H s)(q:Q (.bl k) H)(e:k=k'):EP X pins σ Q (.bool k') s:=by
 subst e
 exact⟨.bl k,H,I,rfl,q⟩
def pU:g7 X (compareOp .Eq) zL:=by
 intro pins s σ H x y v u Q I rx ry h
 obtain⟨hs,q⟩:=h
 cases x with
 |non=>
  cases rx
  cases y with
  |non=>cases ry;exact PySem.EqNone.eq_none_none (aF I q (by simp))
  |bl j=>cases ry;exact PySem.EqNone.eq_none_bool (aF I q (by simp))
  |int j=>obtain⟨t',rfl⟩:=ry;exact PySem.EqNone.eq_none_int (aF I q (by simp))
  |str j=>obtain⟨t',rfl⟩:=ry;exact PySem.EqNone.eq_none_str (aF I q (by simp))
  |_=>exact absurd (show false=true from hs) Ig
 |bl i=>
  cases rx
  cases y with
  |non=>cases ry;exact PySem.EqNone.eq_bool_none (aF I q (by simp))
  |bl j=>cases ry;exact eq_bool (aF I q pS)
  |str j=>obtain⟨t',rfl⟩:=ry;exact PySem.EqMixed.eq_bool_str (aF I q (by simp))
  |_=>exact absurd (show false=true from hs) Ig
 |int i=>
  obtain⟨t,rfl⟩:=rx
  cases y with
  |non=>cases ry;exact PySem.EqNone.eq_int_none (aF I q (by simp))
  |int j=>obtain⟨t',rfl⟩:=ry;exact eq_int (aF I q nz)
  |str j=>obtain⟨t',rfl⟩:=ry;exact PySem.EqMixed.eq_int_str (aF I q (by simp))
  |_=>exact absurd (show false=true from hs) Ig
 |str i=>
  obtain⟨t,rfl⟩:=rx
  cases y with
  |non=>cases ry;exact PySem.EqNone.eq_str_none (aF I q (by simp))
  |bl j=>cases ry;exact PySem.EqMixed.eq_str_bool (aF I q (by simp))
  |int j=>obtain⟨t',rfl⟩:=ry;exact PySem.EqMixed.eq_str_int (aF I q (by simp))
  |str j=>obtain⟨t',rfl⟩:=ry;exact eq_str (aF I q nA)
  |_=>exact absurd (show false=true from hs) Ig
 |Dw i=>
  obtain⟨t,rfl⟩:=rx
  cases y with
  |Dw j=>obtain⟨t',rfl⟩:=ry;exact PySem.W.eq_bytes (aF I q nB)
  |_=>exact absurd (show false=true from hs) Ig
 |_=>cases y<;>exact absurd (show false=true from hs) Ig
def pV:g7 X (compareOp .NotEq) zM:=by
 intro pins s σ H x y v u Q I rx ry h
 obtain⟨hs,q⟩:=h
 cases x with
 |non=>
  cases rx
  cases y with
  |non=>cases ry;exact PySem.EqNone.ne_none_none (aF I q (by simp))
  |bl j=>cases ry;exact PySem.EqNone.ne_none_bool (aF I q (by simp))
  |int j=>obtain⟨t',rfl⟩:=ry;exact PySem.EqNone.ne_none_int (aF I q (by simp))
  |str j=>obtain⟨t',rfl⟩:=ry;exact PySem.EqNone.ne_none_str (aF I q (by simp))
  |_=>exact absurd (show false=true from hs) Ig
 |bl i=>
  cases rx
  cases y with
  |non=>cases ry;exact PySem.EqNone.ne_bool_none (aF I q (by simp))
  |bl j=>cases ry;exact ne_bool (aF I q (IS not pS))
  |str j=>obtain⟨t',rfl⟩:=ry;exact PySem.EqMixed.ne_bool_str (aF I q (by simp))
  |_=>exact absurd (show false=true from hs) Ig
 |int i=>
  obtain⟨t,rfl⟩:=rx
  cases y with
  |non=>cases ry;exact PySem.EqNone.ne_int_none (aF I q (by simp))
  |int j=>obtain⟨t',rfl⟩:=ry;exact ne_int (aF I q (IS not nz))
  |str j=>obtain⟨t',rfl⟩:=ry;exact PySem.EqMixed.ne_int_str (aF I q (by simp))
  |_=>exact absurd (show false=true from hs) Ig
 |str i=>
  obtain⟨t,rfl⟩:=rx
  cases y with
  |non=>cases ry;exact PySem.EqNone.ne_str_none (aF I q (by simp))
  |bl j=>cases ry;exact PySem.EqMixed.ne_str_bool (aF I q (by simp))
  |int j=>obtain⟨t',rfl⟩:=ry;exact PySem.EqMixed.ne_str_int (aF I q (by simp))
  |str j=>obtain⟨t',rfl⟩:=ry;exact ne_str (aF I q (IS not nA))
  |_=>exact absurd (show false=true from hs) Ig
 |Dw i=>
  obtain⟨t,rfl⟩:=rx
  cases y with
  |Dw j=>obtain⟨t',rfl⟩:=ry;exact PySem.W.ne_bytes (aF I q (IS not nB))
  |_=>exact absurd (show false=true from hs) Ig
 |_=>cases y<;>exact absurd (show false=true from hs) Ig
def wS:g7 X (compareOp .Lt) (sw fun i j=>.bl (decide (i < j))):=uP fun _ _ _ _ _ _ _ q=>lt_int q
def wT:g7 X (compareOp .Gt) (sw fun i j=>.bl (decide (j < i))):=uP fun _ _ _ _ _ _ _ q=>gt_int q
def wU:g7 X (compareOp .GtE) (sw fun i j=>.bl (decide (j<=i))):=uP fun _ _ _ _ _ _ _ q=>ge_int q
def ot:g7 X (compareOp .In) (fun x y H Q=>∃i j,x = .str i/\y = .str j/\Q (.bl (!(Builtin.Str.occurrences j i 0 j.length 1).isEmpty)) H):=by
 intro pins s σ H x y v u Q I rx ry h
 obtain⟨i,j,rfl,rfl,q⟩:=h
 obtain⟨t,rfl⟩:=rx
 obtain⟨t',rfl⟩:=ry
 exact in_str (aF I q rfl)
def aQ(b:Expr){op:CmpOp}(h:op ≠ .In:=by decide)(h2:op ≠ .NotIn:=by decide):behindInMarks op b=false:=by
 have e1:(op == CmpOp.In)=false:=by cases op<;>first|rfl|exact absurd rfl h
 have e2:(op == CmpOp.NotIn)=false:=by cases op<;>first|rfl|exact absurd rfl h2
 cases b<;>simp[behindInMarks,e1,e2]
def sy{op:CmpOp}{r:R2}(ho:g7 X (compareOp op) r)(ha:PE X a ta)(hb:PE X b tb)(hm:behindInMarks op b=false):PE X (.Compare a [op] [b] pos) (wN r ta tb):=by
 intro pins s σ H Q I h
 exact wpAny_Compare1 (uO ha hb I h fun v u s2 x y H2 I2 rx ry q=>ho pins s2 σ H2 x y v u Q I2 rx ry q) hm
def wV(t:TE):TT:=fun σ H Q=>t σ H fun x H'=>∃k,x = .bl k/\Q k H'
def sA{op:CmpOp}{r:R2}(ho:g7 X (compareOp op) r)(ha:PE X a ta)(hb:PE X b tb)(hm:behindInMarks op b=false):PT X (.Compare a [op] [b] pos) (wV (wN r ta tb)):=by
 intro pins s σ H Q I h
 refine wpAny_isTrue_Compare1 (Ak (ha pins s σ H _ I h) fun v s1 ⟨x,H1,I1,r1,q1⟩=>Ak (hb pins s1 σ H1 _ I1 q1) fun u s2 ⟨y,H2,I2,r2,q2⟩=>
  Ak (ho pins s2 σ H2 x y v u _ I2 r1 r2 q2) fun c s3 ⟨z,H3,I3,r3,k,e,q3⟩=>?_) hm
 subst e
 cases r3
 exact wpAny_truthy_bool ⟨H3,I3,q3⟩
def hG:(sizeLine:Nat) < 2 ^ 63:=by rw[sizeLine_eq];decide
def mM:g7 X (binaryOp .Add) (fun x y H Q=>∃i j,x = .str i/\y = .str j/\i.length+j.length<=sizeLine/\Q (.str (i++j)) H):=by
 intro pins s σ H x y v u Q I rx ry h
 obtain⟨i,j,rfl,rfl,hz,q⟩:=h
 obtain⟨t,rfl⟩:=rx
 obtain⟨t',rfl⟩:=ry
 exact add_str (fun t' tk=>⟨.str (i++j),H,I.tok _,⟨_,rfl⟩,q⟩) hz
def gv{x:V}{us:Vv}(r:Vals [x] us):∃u,us=[u]/\RelV x u:=by
 cases r with
 |cons r1 r2=>cases r2;exact⟨_,rfl,r1⟩
def pW{x y:V}{us:Vv}(r:Vals [x,y] us):∃u w',us=[u,w']/\RelV x u/\RelV y w':=by
 cases r with
 |cons r1 r2=>
  cases r2 with
  |cons r3 r4=>cases r4;exact⟨_,_,rfl,r1,r3⟩
def pX:fJ X (.builtin "abs") (fun xs H Q=>∃i,xs=[.int i]/\Q (.int (if i < 0 then -i else i)) H):=by
 intro pins s σ H xs us Q I r h
 obtain⟨i,rfl,q⟩:=h
 obtain⟨u,rfl,t,rfl⟩:=gv r
 exact call_abs_int fun u tk=>⟨.int (if i < 0 then -i else i),H,I.tok _,⟨_,rfl⟩,q⟩
def ou(hc:X.calm=true):fJ X (.builtin "max") (fun xs H Q=>∃i j,xs=[.int i,.int j]/\Q (.int (if j > i then j else i)) H):=by
 intro pins s σ H xs us Q I r h
 obtain⟨i,j,rfl,q⟩:=h
 obtain⟨u,w',rfl,⟨t,rfl⟩,⟨t',rfl⟩⟩:=pW r
 refine max_two_ints (I.ok.hd hc) fun h' tk k=>⟨_,H,I.kept k,?_,q⟩
 by_cases hj:j > i
 ·rw[if_pos hj,if_pos hj];exact⟨_,rfl⟩
 ·rw[if_neg hj,if_neg hj];exact⟨_,rfl⟩
def j5:fJ X (.type "int") (fun xs H Q=>(∃i,xs=[.int i]/\Q (.int i) H)\/∃k,xs=[.bl k]/\Q (.int (if k then 1 else 0)) H):=by
 intro pins s σ H xs us Q I r h
 rcases h with⟨i,rfl,q⟩|⟨k,rfl,q⟩
 ·obtain⟨u,rfl,t,rfl⟩:=gv r
  exact call_int_int ⟨.int i,H,I,⟨_,rfl⟩,q⟩
 ·obtain⟨u,rfl,r1⟩:=gv r
  cases r1
  exact call_int_bool ⟨.int (if k then 1 else 0),H,I.tok _,⟨_,rfl⟩,q⟩
end
def RelO.some_of{v:V}{o:Option Value}(r:RelO (some v) o):∃u,o=some u/\RelV v u:=by
 cases o with
 |none=>exact(show False from r).elim
 |some u=>exact⟨u,rfl,r⟩
structure Room (k:Nat) (A:Around):Prop where
 hd:A.handled=none
 dp:A.depth+3 * k+5 < recursionLimit
 un:A.units+16 * k+200 < cLine
 gd:A.guards=some []
def Room.mono{j k:Nat}{A:Around}(r:Room k A)(h:j<=k):Room j A:=⟨r.hd,by have:=r.dp;omega,by have:=r.un;omega,r.gd⟩
theorem Room.deeper{k:Nat}{A:Around}(r:Room (k+1) A)(env:Env):Room k (A.deeper env):=
 ⟨r.hd,by have:=r.dp;show A.depth+1+3 * k+5 < _;omega,by have:=r.un;show A.units+3+16 * k+200 < _;omega,r.gd⟩
theorem Room.depth{k:Nat}{A:Around}(r:Room k A):A.depth < recursionLimit:=by have:=r.dp;omega
def wW:TA:=fun _ H Q=>Q [] H
def t6(ta:TE)(tr:TA):TA:=fun σ H Q=>ta σ H fun x H1=>tr σ H1 fun xs H2=>Q (x::xs) H2
section
variable {X:Cx} {e:Expr} {es:List Expr} {te:TE} {t:TA} {pos:Pos}
def uV:PA X [] wW:=fun _ _ _ _ H Q I h=>Calls.spliced_nil ⟨[],H,I,.nil,h⟩
def sC(ha:PE X e te)(hr:PA X es t)(hs:starEach (e::es) X.env=(false,eval e X.env)::starEach es X.env:=by rfl):PA X (e::es) (t6 te t):=by
 intro pos pins s σ H Q I h
 rw[hs]
 show wpAny _ _ (spliced ((false,eval e X.env)::backTo pos (starEach es X.env))) _ _ s
 refine Calls.spliced_cons (Ak (ha pins s σ H _ I h) fun u s1 ⟨x,H1,I1,r1,q1⟩=>?_)
 exact Ak (hr pos pins s1 σ H1 _ I1 q1) fun us s2 ⟨xs,H2,I2,r2,q2⟩=>⟨x::xs,H2,I2,.cons r1 r2,q2⟩
def yO(t:TA):TE:=fun σ H Q=>t σ H fun xs H1=>xs.length<=sizeLine/\∀p,H1 p=none->Q (.ref p) (upd H1 p (.tup xs))
def yP(t:TA):TE:=fun σ H Q=>t σ H fun xs H1=>xs.length<=sizeLine/\∀p,H1 p=none->Q (.ref p) (upd H1 p (.lst xs))
def uW{x1}(h:PA X es t):PE X (.Tuple es x1 pos) (yO t):=by
 intro pins s σ H Q I hq
 refine wpAny_Tuple_spliced (Ak (h pos pins s σ H _ I hq) fun us s1 ⟨xs,H1,I1,r,z,q⟩=>⟨by rw[<-r.length];exact z,?_⟩)
 have hf:H1 s1.heap.objs.size=none:=I1.hok.fresh (HN _)
 refine⟨.ref s1.heap.objs.size,upd H1 s1.heap.objs.size (.tup xs),I1.laid (t':=s1.toks) (fun b u e=>HM _ e) (HN _) ?_,rfl,q _ hf⟩
 exact⟨z,us,r,⟨_,HV _ rfl,rfl,rfl,_,rfl⟩⟩
def uX(h:PA X es t):PE X (.List es pos) (yP t):=by
 intro pins s σ H Q I hq
 refine wpAny_List_spliced (Ak (h pos pins s σ H _ I hq) fun us s1 ⟨xs,H1,I1,r,z,q⟩=>⟨by rw[<-r.length];exact z,?_⟩)
 have hf:H1 s1.heap.objs.size=none:=I1.hok.fresh (HN _)
 refine⟨.ref s1.heap.objs.size,upd H1 s1.heap.objs.size (.lst xs),I1.laid (t':=s1.toks) (fun b u e=>HM _ e) (HN _) ?_,rfl,q _ hf⟩
 exact⟨z,us,0,r,HV _ rfl⟩
end
abbrev Sp:=List V->Hp->VK->XK->Prop
abbrev r6:=List Env->Hp->Shared->XK->Value->Shared->Prop
structure sD (P:Program) (w:World) (K:Vo) (mg:Vr) (base:Heap) (A:Around) (outer:List Env) (s:Shared) (H:Hp):Prop where
 frames:A.frames=some outer
 mod:Mod K mg base
 bs:∀b o,base.get? b=some o->s.heap.get? b=some o/\H b=none
 DR:base.objs.size<=s.heap.objs.size
 Ci:s.heap.FunFrames base outer
 Ej:∀b∈frs outer,H b=none
 hok:BD P w H s.heap
 bare:AllBare s.gens
def CE(outer:List Env)(P:Program)(w:World)(H:Hp)(s:Shared)(Q:VK)(u:Value)(s':Shared):Prop:=
 ∃v H',s'.os=s.os/\AllBare s'.gens/\Un (frs outer) [] H H' s.heap s'.heap/\BD P w H' s'.heap/\RelV v u/\Q v H'
def CR(CX:r6)(outer:List Env)(P:Program)(w:World)(H:Hp)(s:Shared)(Q:VK)(E:XK)(r:Result)(s':Shared):Prop:=
 match r with
 | .ok (.ret u)=>CE outer P w H s Q u s'
 | .ok _=>False
 | .error e=>CX outer H s E e s'
structure kF (P:Program) (w:World) (K:Vo) (mg:Vr) (base:Heap) (CX:r6) (k:Nat) (f:Addr) (fd:FuncData) (ps:Vs) (sp:Sp):Prop where
 len:∀vs H Q E,sp vs H Q E->vs.length=ps.length
 run:∀(A:Around) (outer:List Env) (s:Shared) (H:Hp) (args:Args) (us:Vv) (vs:List V) (Q:VK) (E:XK),Room k A->sD P w K mg base A outer s H->BindsTo s fd args (ps.zip us)->Vals vs us->sp vs H Q E->
  codeAny (model P w) A (.call (.ref f) args) (CR CX outer P w H s Q E) s
section
variable {X:Cx} {pins:Va} {σ:St} {H:Hp} {s s':Shared}
def Inv.FH(I:Inv X pins σ H s):sD X.prog X.w X.K X.mg X.base X.A X.stack s H:=
 ⟨I.ok.frames,I.ok.mod,I.bs,Ib I.ok.DR I.sz,I.stack,I.Di,I.hok,I.bare⟩
def Inv.after{Q:VK}{u:Value}(I:Inv X pins σ H s)(h:CE X.stack X.prog X.w H s Q u s'):EP X pins σ Q u s':=by
 obtain⟨v,H',os,bare,un,hok,r,q⟩:=h
 obtain⟨hh,g,d,t,os'⟩:=s'
 obtain rfl:os'=s.os:=os
 exact⟨v,H',I.call (h':=hh) (g':=g) (d':=d) (t':=t) (ch:=[]) un hok bare (fun b z=>absurd z (by simp)),r,q⟩
end
def wX(sp:Sp)(dvs:List V)(E:XK)(t:TA):TE:=fun σ H Q=>t σ H fun vs H1=>sp (vs++dvs) H1 Q E
def Binds(K:Vo)(fd:FuncData)(ps:Vs)(ds:Vv):Prop:=
 ∀(s:Shared) (us:Vv),K.In s.heap->(us++ds).length=ps.length->BindsTo s fd ⟨us,[]⟩ (ps.zip (us++ds))
def Binds.all{K:Vo}{fd:FuncData}{ps:Vs}(h:∀us:List Value,us.length=ps.length->bindArgs fd ⟨us,[]⟩=pure (ps.zip us)):Binds K fd ps []:=fun s us _ hl=>by
 rw[JP]at hl ⊢
 exact .of_eq (h us hl)
def mN(CX:r6)(X:Cx)(E:XK):Prop:=∀(pins:Va) (σ:St) (H:Hp) (s:Shared) (e:Value) (s':Shared),Inv X pins σ H s->CX X.stack H s E e s'->X.xe e s'
section
variable {X:Cx} {CX:r6} {k:Nat} {f C:Addr} {fd:FuncData} {ps:Vs} {sp:Sp} {dvs:List V} {ds:Vv} {E:XK} {x m:Str} {p pos apos:Pos} {e o:Expr} {es:List Expr} {ta:TE} {t:TA}
def uY{pins:Va}{σ:St}{H:Hp}{s:Shared}{Q:VK}{us:Vv}{vs:List V}(F:kF X.prog X.w X.K X.mg X.base CX k f fd ps sp)(hr:Room k X.A)(hb:Binds X.K fd ps ds)(hd:Vals dvs ds)(hx:mN CX X E)
  (I:Inv X pins σ H s) (r:Vals vs us) (h:sp (vs++dvs) H Q E):wpAny (model X.prog X.w) X.A (call (.ref f) us) (EP X pins σ Q) X.xe s:=by
 have r2:Vals (vs++dvs) (us++ds):=r.append hd
 have hl:(us++ds).length=ps.length:=by rw[<-r2.length];exact F.len _ _ _ _ h
 refine wpAny_call (codeAny_mono (F.run X.A X.stack s H ⟨us,[]⟩ (us++ds) (vs++dvs) Q E hr I.FH (hb s us I.EH hl) r2 h) fun r s' hq=>?_)
 cases r with
 |error e=>exact hx pins σ H s e s' I hq
 |ok fl=>
  cases fl with
  |ret u=>exact I.after hq
  |next=>exact False.elim hq
  |brk=>exact False.elim hq
  |cont=>exact False.elim hq
def sE(F:kF X.prog X.w X.K X.mg X.base CX k f fd ps sp)(hr:Room k X.A)(hg:Gl X x)(hm:X.mg x=some (.ref f))(hk:PySem.W.keepIn X.K (.ref f)=true)(hb:Binds X.K fd ps ds)(hd:Vals dvs ds)(hx:mN CX X E)
  (ha:PA X (e::es) t) (hdb:(x == ("__debug__":Str))=false:=by decide) (he:starEach (e::es) X.env=(false,eval e X.env)::starEach es X.env:=by rfl) (hpl:(backTo pos (starEach es X.env)).any (·.1)=false:=by rfl) :
  PE X (.Call (.Name x p) (e::es) [] pos) (wX sp dvs E t):=by
 intro pins s σ H Q I h
 refine JN (sh I hg hm ?_ hdb)
 refine PySem.W.callWith_K (h₀:=X.base) I.ok.mod.FA hk (Ak (ha pos pins s σ H _ I h) fun us s1 ⟨vs,H1,I1,r,q⟩=>⟨I1.EH,?_⟩) he hpl
 exact uY F hr hb hd hx I1 r q
end
structure fx (N P:Vs) (sc:Scope):Prop where
 kind:sc.kind = .function
 co:sc.isCoroutine=false
 gen:sc.isGenerator=false
 nd:N.Nodup
 pre:N.take P.length=P
 par:∀x∈P,sc.names.lookup x=some .local\/sc.names.lookup x=some .cell
 Em:∀y∈sc.names,y.2 ≠ .free
theorem j6{kindOf:Str->Option NameKind}{x:Str}:∀{binds:List (Str×Value)} {m:Vr},(∀v,(x,v) ∉ binds)->bindL kindOf binds m x=m x
 |[],_,_=>rfl
 |(n,v)::r,m,h=>by
  unfold bindL
  rw[j6 fun w hw=>h w (IZ _ hw)]
  split
  ·have:x≠n:=by rintro rfl;exact h v Jl
   simp[this]
  ·rfl
theorem j7{kindOf:Str->Option NameKind}{x:Str}:∀{binds:List (Str×Value)} {m:Vr},(∀v,(x,v) ∉ binds)->bindC kindOf binds m x=m x
 |[],_,_=>rfl
 |(n,v)::r,m,h=>by
  unfold bindC
  rw[j7 fun w hw=>h w (IZ _ hw)]
  split
  ·rfl
  ·have:x≠n:=by rintro rfl;exact h v Jl
   simp[this]
theorem j8{kindOf:Str->Option NameKind}{x:Str}{v:Value}:∀{P:Vs} {vs:Vv} {i:Nat} {m:Vr},P.Nodup->P[i]?=some x->vs[i]?=some v->kindOf x=some .local->
  bindL kindOf (P.zip vs) m x=some v
 |[],_,_,_,_,h,_,_=>by simp at h
 |_::_,[],_,_,_,_,h,_=>by simp at h
 |p::P,w::vs,0,m,nd,h1,h2,hk=>by
  simp at h1 h2;subst h1;subst h2
  show bindL kindOf ((p,w)::P.zip vs) m p=_
  unfold bindL
  rw[j6 fun v hv=>(JE.mp nd).1 (List.of_mem_zip hv).1,if_pos hk]
  simp
 |p::P,w::vs,i+1,m,nd,h1,h2,hk=>by
  show bindL kindOf ((p,w)::P.zip vs) m x=_
  unfold bindL
  exact j8 (i:=i) (JE.mp nd).2 (by simpa using h1) (by simpa using h2) hk
theorem j9{kindOf:Str->Option NameKind}{x:Str}{v:Value}:∀{P:Vs} {vs:Vv} {i:Nat} {m:Vr},P.Nodup->P[i]?=some x->vs[i]?=some v->kindOf x≠some .local->
  bindC kindOf (P.zip vs) m x=some v
 |[],_,_,_,_,h,_,_=>by simp at h
 |_::_,[],_,_,_,_,h,_=>by simp at h
 |p::P,w::vs,0,m,nd,h1,h2,hk=>by
  simp at h1 h2;subst h1;subst h2
  show bindC kindOf ((p,w)::P.zip vs) m p=_
  unfold bindC
  rw[j7 fun v hv=>(JE.mp nd).1 (List.of_mem_zip hv).1,if_neg hk]
  simp
 |p::P,w::vs,i+1,m,nd,h1,h2,hk=>by
  show bindC kindOf ((p,w)::P.zip vs) m x=_
  unfold bindC
  exact j9 (i:=i) (JE.mp nd).2 (by simpa using h1) (by simpa using h2) hk
noncomputable def eP(N:Vs)(vs:List V):St:=vs.map some++List.replicate (N.length - vs.length) none
noncomputable def mO(CX:r6)(P:Program)(w:World)(K:Vo)(mg:Vr)(base:Heap)(N:Vs)(qual:Str)(scope:Scope)(f:Addr)(cd:Value)(A:Around)(outer:List Env)(s:Shared)(H:Hp)(E:XK):Cx where
 prog:=P
 w:=w
 K:=K
 mg:=mg
 base:=base
 A:=A.deeper (envOfC qual scope s.heap.objs.size f cd)
 N:=N
 s₀:=s
 H₀:=H
 env:=envOfC qual scope s.heap.objs.size f cd
 outer:=outer
 stack:=envOfC qual scope s.heap.objs.size f cd::outer
 ex:=[]
 calm:=true
 fn:=fun _=>true
 pn:=[]
 xe:=fun e s'=>wpAny (model P w) (A.deeper (envOfC qual scope s.heap.objs.size f cd)) (leaving (envOfC qual scope s.heap.objs.size f cd) e) (fun _ s''=>CX outer H s E e s'') (fun e' s''=>CX outer H s E e' s'') s'
def lS{sc:Scope}{n:Nat}{x:Str}(h:sc.names.lookup x=some .cell):∃c,(cellsFrom n sc.names []).lookup x=some c:=by
 have q:=PySem.W.cellsFrom_some sc.names n [] (.inl h)
 exact Option.isSome_iff_exists.mp q
def ow{CX:r6}{P:Program}{w:World}{K:Vo}{mg:Vr}{base:Heap}{N ps:Vs}{qual:Str}{scope:Scope}{f:Addr}{cd:Value}{A:Around}{outer:List Env}{s s1:Shared}{H:Hp}{E:XK}{us:Vv}{vs:List V}
  (S:fx N ps scope) (hd:A.handled=none) (e0:sD P w K mg base A outer s H) (hl:vs.length=ps.length) (r:Vals vs us)
  (x:InCallC s s.heap.objs.size (bindL (envOfC qual scope s.heap.objs.size f cd).kindOf (ps.zip us) fun _=>none) (cellsFrom (s.heap.objs.size+1) scope.names []) (bindC (envOfC qual scope s.heap.objs.size f cd).kindOf (ps.zip us) fun _=>none) s1) :
  Inv (mO CX P w K mg base N qual scope f cd A outer s H E) [] (eP N vs) H s1:=by
 have hpl:ps.length<=N.length:=by have:=IS List.length S.pre;rw[Jm]at this;omega
 obtain⟨h1,tk,rfl,hk⟩:=x.done
 have EY:∀b:Addr,b ∉ (mO CX P w K mg base N qual scope f cd A outer s H E).ex:=fun b z=>absurd (show b∈([]:List Addr)from z) (by simp)
 refine⟨⟨e0.mod,S.kind,rfl,rfl,HN _,fun y z c h1 h2=>?_,fun y hy=>?_,fun y c _ h=>?_,fun _=>hd,Around.frames_deeper e0.frames,.inr ⟨rfl,rfl⟩,fun b z=>absurd z (EY b),e0.bs,e0.DR,fun b _ _=>EY b,fun b z=>absurd z (EY b),e0.Ci,e0.Ej⟩,
  rfl,e0.bare,Un.kept hk,⟨_,x.toInCall.ns,fun i y v h1 h2 h3=>?_⟩,fun y c h=>⟨_,x.cell y c h⟩,e0.hok.fresh (HN _),fun y c h=>?_,fun p hp=>absurd (show p∈([]:Va)from hp) (by simp),e0.hok.kept hk,?_⟩
 ·exact name_of_addr x.apart (Jv h1) (Jv h2)
 ·have hy:scope.names.lookup y=some .cell\/scope.names.lookup y=some .free:=hy
  rcases hy with hy|hy
  ·exact lS hy
  ·exact absurd rfl (S.Em _ (Jv hy))
 ·exact Kn (x.above y c (Jv h))
 ·have hi:i < vs.length:=by
   unfold eP at h2
   by_cases hi:i < vs.length
   ·exact hi
   ·rw[Jc (by simpa using hi)]at h2
    rw[Jt]at h2
    split at h2<;>cases h2
  have ha:vs[i]?=some v:=by
   unfold eP at h2
   rw[IV (by simpa using hi),Ia]at h2
   cases e:vs[i]? with
   |none=>rw[e]at h2;cases h2
   |some a=>rw[e]at h2;cases h2;rfl
  obtain⟨u,hu,rv⟩:=r.get ha
  have hp:ps[i]?=some y:=by
   rw[<-S.pre,List.getElem?_take_of_lt (by omega)];exact h1
  have Gr:ps.Nodup:=by rw[<-S.pre];exact S.nd.sublist (JR _ _)
  refine⟨u,rv,?_⟩
  rcases S.par y (IU hp)with k|k
  ·exact .inl ⟨k,j8 Gr hp hu k⟩
  ·obtain⟨c,e⟩:=lS (n:=s.heap.objs.size+1) k
   refine .inr ⟨.inl k,c,e,?_⟩
   have q:=x.cell y c e
   rw[j9 Gr hp hu (by show scope.names.lookup y≠_;rw[k];decide)]at q
   exact q
 ·exact e0.hok.fresh (Kn (x.above y c (Jv h)))
 ·unfold eP
  show _=N.length
  rw[HY,HQ,IF]
  omega
def wY{CX:r6}{P:Program}{w:World}{K:Vo}{mg:Vr}{base:Heap}{k:Nat}{f:Addr}{name qual:Str}{params:Arguments}{body:List Stmt}{scope:Scope}{dV kV doc pm cdv ct oc:Value}{an od:Option Addr}
  {osl:Array (Option Value)} {N ps:Vs} {sp:Sp} (lk:K.lookup f=some ⟨oc,od,.func (PySem.W.fnOf name qual params body scope dV kV doc pm an cdv ct),osl⟩) (hcd:PySem.W.codeIn K cdv qual=true) (S:fx N ps scope)
  (len:∀vs H Q E,sp vs H Q E->vs.length=ps.length)
  (hbody:∀(A:Around) (outer:List Env) (s:Shared) (H:Hp) (vs:List V) (Q:VK) (E:XK),Room k (A.deeper (envOfC qual scope s.heap.objs.size f cdv))->sp vs H Q E->
   ∃t,C9 (mO CX P w K mg base N qual scope f cdv A outer s H E) body t/\t { nx:=fun _ H'=>Q .non H',rt:=Q } (eP N vs) H) :
  kF P w K mg base CX (k+1) f (PySem.W.fnOf name qual params body scope dV kV doc pm an cdv ct) ps sp:=by
 refine⟨len,fun A outer s H args us vs Q E hr e0 hb r Ec=>?_⟩
 have hl:=len _ _ _ _ Ec
 have KX:K.In s.heap:=e0.mod.FA.keeps fun b o e=>(e0.bs b o e).1
 have lim:s.heap.NoLimit:=e0.mod.nolimit.keeps fun b o e=>(e0.bs b o e).1
 have hkind:∀y∈ps.zip us,scope.names.lookup y.1=some .local\/(scope.names.lookup y.1=some .cell/\((cellsFrom (s.heap.objs.size+1) scope.names []).lookup y.1).isSome=true):=fun⟨n,v⟩ hy=>by
  rcases S.par n (List.of_mem_zip hy).1 with q|q
  ·exact .inl q
  ·exact .inr ⟨q,PySem.W.cellsFrom_some _ _ _ (.inl q)⟩
 refine codeAny_call_function hr.depth (KX _ _ lk) rfl S.co S.gen rfl (PySem.W.codeRec_of KX hcd) (hb _ _ _ _ ?_)
 refine wpAny_newFunctionEnv_cells S.kind hkind fun env he s1 x=>?_
 subst he
 refine⟨lim.keeps x.toInCall.keep,codeAny_func ?_⟩
 obtain⟨t,ht,hq⟩:=hbody A outer s H vs Q E (hr.deeper _) Ec
 have I:Inv (mO CX P w K mg base N qual scope f cdv A outer s H E) [] (eP N vs) H s1:=ow S hr.hd e0 hl r x
 refine JL (ht [] s1 (eP N vs) H _ I hq) (fun fl s' hs=>?_) fun e s' hs=>hs
 have fin:∀{σ':St} {H':Hp} {v:V} {u:Value},Inv (mO CX P w K mg base N qual scope f cdv A outer s H E) [] σ' H' s'->RelV v u->Q v H'->CE outer P w H s Q u s':=
  fun{σ' H' v u} J rv q=>⟨v,H',J.os,J.bare,J.base,J.hok,rv,q⟩
 cases fl with
 |ret u=>
  obtain⟨v,σ',H',J,rv,q⟩:=hs
  exact fin J rv q
 |next=>
  obtain⟨σ',H',J,q⟩:=hs
  exact fin (v:=V.non) (u:=Value.none) J rfl q
 |brk=>
  obtain⟨_,_,_,q⟩:=hs
  exact False.elim q
 |cont=>
  obtain⟨_,_,_,q⟩:=hs
  exact False.elim q
section
variable {X:Cx} {x:Str} {p pos:Pos} {e:Expr} {es:List Expr} {t:TA} {id T:String} {r:List V->Hp->VK->Prop}
def zA(r:List V->Hp->VK->Prop)(t:TA):TE:=fun σ H Q=>t σ H fun vs H1=>r vs H1 Q
def pY(hc:fJ X (.builtin id) r)(hg:Gl X x)(hm:X.mg x=none)(hv:bootBuiltins x=some (.builtin id))(ha:PA X (e::es) t)(hn:x ≠ "__name__":=by decide)(hdb:(x == ("__debug__":Str))=false:=by decide)
  (he:starEach (e::es) X.env=(false,eval e X.env)::starEach es X.env:=by rfl) (hpl:(backTo pos (starEach es X.env)).any (·.1)=false:=by rfl):PE X (.Call (.Name x p) (e::es) [] pos) (zA r t):=by
 intro pins s σ H Q I h
 refine JN (fR I hg hm hv ?_ hn hdb)
 exact PyProof.Rows.callWith_builtin1 (Ak (ha pos pins s σ H _ I h) fun us s1 ⟨vs,H1,I1,r1,q1⟩=>hc pins s1 σ H1 vs us Q I1 r1 q1) he hpl
def ox(hc:fJ X (.type T) r)(hg:Gl X x)(hm:X.mg x=none)(hv:bootBuiltins x=some (.type T))(ha:PA X (e::es) t)(hn:x ≠ "__name__":=by decide)(hdb:(x == ("__debug__":Str))=false:=by decide)
  (he:starEach (e::es) X.env=(false,eval e X.env)::starEach es X.env:=by rfl) (hpl:(backTo pos (starEach es X.env)).any (·.1)=false:=by rfl):PE X (.Call (.Name x p) (e::es) [] pos) (zA r t):=by
 intro pins s σ H Q I h
 refine JN (fR I hg hm hv ?_ hn hdb)
 exact IQ (Ak (ha pos pins s σ H _ I h) fun us s1 ⟨vs,H1,I1,r1,q1⟩=>hc pins s1 σ H1 vs us Q I1 r1 q1) he hpl
end
end L2
namespace HT
open PySem PyProof.Rows
section
open PySem.SeqAt
open PySem.AutoSeq1 (wpAny_loadPart')
open PySem.MeetsSeq PySem.MeetsSeq2 PySem.MeetsSeq3
end
section
variable {prog:Program} {w:World} {A:Around} {E:Vq} {s:Shared}
def sF{t b:Addr}{vs ws:Vv}{Q:Vq}(ht:IsTup s.heap t vs.toArray)(hb:IsTup s.heap b ws.toArray)(hv:vs≠[])
  (h1:ws=[]->Q (.ref t) s) (h2:ws≠[]->Q (.ref s.heap.objs.size) { s with heap:=s.heap.push { cls:=.type "tuple",data:=.seq (vs++ws).toArray } })
  (hsz:vs.length+ws.length<=sizeLine):wpAny (model prog w) A (binaryOp .Add (.ref t) (.ref b)) Q E s:=by
 obtain⟨⟨cls,dd,data,sl⟩,ho,hc,n,hd⟩:=id ht
 obtain⟨⟨FI,dd2,data2,sl2⟩,ho2,hc2,n2,hd2⟩:=id hb
 simp only at hc hd hc2 hd2
 subst hc hd hc2 hd2
 have e:vs.toArray++ws.toArray=(vs++ws).toArray:=by simp
 by_cases hw:ws=[]
 ·exact concat_meets ⟨_,ho,rfl⟩ ⟨_,ho2,rfl⟩ noFill_tuple_add seq_tuple_add Kp Kh (J7 _ _)
   (tuple_addW1 t b vs.toArray ws.toArray n n2 dd dd2 sl sl2 (by simpa using hv) (by simp[hw])) ⟨ho,ho2,h1 hw⟩
 ·refine concat_meets ⟨_,ho,rfl⟩ ⟨_,ho2,rfl⟩ noFill_tuple_add seq_tuple_add Kp Kh (J7 _ _)
   (tuple_addW2 t b vs.toArray ws.toArray n n2 dd dd2 sl sl2 (by simpa using hv) (by simpa using hw) (by rw[HU,HU];exact hsz)) ⟨ho,ho2,?_⟩
  rw[e]
  exact h2 hw
noncomputable def As(n d:Nat):Option Int->Nat
 |none=>d
 |some v=>if v < 0 then (v+(n:Int)).toNat else min v.toNat n
def pZ(n d:Nat):As n d none=d:=rfl
def sG(n d k:Nat):As n d (some (k:Int))=min k n:=by
 show(if (k:Int) < 0 then ((k:Int)+(n:Int)).toNat else min (k:Int).toNat n)=min k n
 rw[if_neg (by omega),Iw]
def uZ(n d:Nat)(hd:d<=n)(o:Option Int):As n d o<=n:=by
 cases o with
 |none=>exact hd
 |some v=>
  show(if v < 0 then (v+(n:Int)).toNat else min v.toNat n)<=n
  by_cases hv:v < 0
  ·rw[if_pos hv];omega
  ·rw[if_neg hv];exact Nat.min_le_right _ _
def nC(v:Int)(n d:Nat):(if v < 0 then max (v+(n:Int)) 0 else min v (n:Int))=((As n d (some v):Nat):Int):=by
 show(if v < 0 then max (v+(n:Int)) 0 else min v (n:Int))=(((if v < 0 then (v+(n:Int)).toNat else min v.toNat n):Nat):Int)
 by_cases hv:v < 0
 ·simp only[if_pos hv];omega
 ·simp only[if_neg hv];omega
def mP(lo hi:Option Int)(n:Nat):Builtin.Slice.sliceAdjust lo hi 1 (n:Int)=(((As n 0 lo:Nat):Int),((As n n hi:Nat):Int)):=by
 have h1:¬((1:Int) < 0):=by omega
 unfold Builtin.Slice.sliceAdjust
 simp only[h1,Li]
 refine Kq ?_ ?_
 ·cases lo with
  |none=>rfl
  |some v=>exact nC v n 0
 ·cases hi with
  |none=>rfl
  |some v=>exact nC v n n
def mQ(i j:Nat):Builtin.Slice.slicePlaces (i:Int) (j:Int) 1=j - i:=by
 unfold Builtin.Slice.slicePlaces
 have h1:(1:Int) > 0:=by omega
 simp only[h1,JO,Int.ediv_one]
 split<;>omega
def iZ{v:Value}{o:Option Int}{Q:Option Int->Shared->Prop}(p:IsPart v o)(h:Q o s):wpAny (model prog w) A (Builtin.Slice.slicePartIndex v) Q E s:=by
 cases p with
 |none=>exact slicePart_none h
 |int i t=>exact slicePart_int h
def df{sl:Addr}{vl vu:Value}{lo hi:Option Int}{n:Nat}{Q:Int×Int×Nat->Shared->Prop}(hs:s.heap.IsSliceOf sl vl vu .none)(pl:IsPart vl lo)(pu:IsPart vu hi)
  (h:Q (((As n 0 lo:Nat):Int),1,As n n hi - As n 0 lo) s):wpAny (model prog w) A (Builtin.Slice.sliceApplied (.ref sl) (pure (n:Int))) Q E s:=by
 obtain⟨os,hos,hcs,hds⟩:=id hs
 unfold Builtin.Slice.sliceApplied Builtin.Slice.sliceFields
 refine HL (HL (Ip hos hds (x:=vl) rfl (HL (Ip hos hds (x:=vu) rfl (HL (Ip hos hds (x:=.none) rfl (HS ?_)))))))
 refine HL (slicePart_none ?_)
 show wpAny _ _ (if ((1:Int) == 0)=true then _ else _) _ _ s
 rw[if_neg (by decide)]
 refine HL (iZ pl (HL (iZ pu (HL (HS ?_)))))
 show wpAny _ _ (match Builtin.Slice.sliceAdjust lo hi 1 (n:Int)with|(lo,hi)=>pure (lo,(1:Int),Builtin.Slice.slicePlaces lo hi 1)) _ _ s
 rw[mP lo hi n]
 show wpAny _ _ (pure (((As n 0 lo:Nat):Int),(1:Int),Builtin.Slice.slicePlaces ((As n 0 lo:Nat):Int) ((As n n hi:Nat):Int) 1)) _ _ s
 rw[mQ]
 exact HS h
def p7(xs:Vw)(i k:Nat):((List.range k).filterMap fun(m:Nat)=>xs[((i:Int)+(m:Int) * 1).toNat]?).toArray=((xs.toList.drop i).take k).toArray:=by
 have e:(fun(m:Nat)=>xs[((i:Int)+(m:Int) * 1).toNat]?)=fun m=>xs[i+m]?:=by
  funext m
  have:((i:Int)+(m:Int) * 1).toNat=i+m:=by omega
  rw[this]
 rw[e]
 have:=pick_run xs i k
 rw[List.filterMap_map]at this
 have e2:((fun x=>xs[x]?) ∘ fun x=>i+x)=fun m=>xs[i+m]?:=rfl
 rw[e2]at this
 rw[this]
def gw{t sl:Addr}{items:Vw}{vl vu:Value}{lo hi:Option Int}{Q:Vq}(ht:IsTup s.heap t items)(hs:s.heap.IsSliceOf sl vl vu .none)(pl:IsPart vl lo)(pu:IsPart vu hi)
  (hw:¬(As items.size 0 lo=0/\As items.size items.size hi=items.size))
  (h:Q (.ref s.heap.objs.size) { s with heap:=s.heap.push { cls:=.type "tuple",data:=.seq ((items.toList.drop (As items.size 0 lo)).take (As items.size items.size hi - As items.size 0 lo)).toArray } })
  (hsz:items.size<=sizeLine):wpAny (model prog w) A (getItem (.ref t) (.ref sl)) Q E s:=by
 have Dj:sizeOk (.seq ((items.toList.drop (As items.size 0 lo)).take (As items.size items.size hi - As items.size 0 lo)).toArray):=by
  show((items.toList.drop (As items.size 0 lo)).take (As items.size items.size hi - As items.size 0 lo)).toArray.size<=sizeLine
  rw[HU,Jm,Jo,KZ]
  omega
 have hj:As items.size items.size hi<=items.size:=uZ _ _ (HN _) hi
 obtain⟨os,hos,hcs,hds⟩:=id hs
 have FJ:s.TypeIs (.ref sl) "slice":=⟨os,hos,hcs⟩
 unfold getItem
 try with_reducible refine J6 ?_
 first|refine HL (HS ?_)|skip
 refine HL (wpAny_sequenceKey ht.typeIs (by decide) ?_)
 refine HL (IG (name:=Str.ofString "__getitem__") ht.typeIs IE
  (Jp IE ht.typeIs entry_tuple_getitem ?_ (args_tuple_getitem _ _)))
 show wpAny _ _ (Builtin.Tuple.tupleItemsOf (.ref t) >>= _) _ _ s
 refine HL (tupleItemsOf_ ht ?_)
 refine HL (wpAny_typeOf FJ ?_)
 rw[if_pos (by decide)]
 refine HL (df hs pl pu ?_)
 have hno:¬((((As items.size 0 lo:Nat):Int) == 0&&(1:Int) == 1&&(As items.size items.size hi - As items.size 0 lo) == items.size)=true):=by
  intro q
  rw[KA,KA]at q
  have q1:((As items.size 0 lo:Nat):Int)=0:=eq_of_beq q.1.1
  have q2:As items.size items.size hi - As items.size 0 lo=items.size:=eq_of_beq q.2
  exact hw ⟨by omega,by omega⟩
 show wpAny _ _ (if (((As items.size 0 lo:Nat):Int) == 0&&(1:Int) == 1&&(As items.size items.size hi - As items.size 0 lo) == items.size)=true then _ else _) _ _ s
 rw[if_neg hno,p7]
 first
  |exact HL (m:=Builtin.Tuple.tupleExact _) (Jb (HS ⟨_,rfl,HS h⟩) Dj)
  |exact HL (m:=Builtin.Tuple.tupleExact _) (Jb (HL (HS (HS ⟨_,rfl,HS h⟩))) Dj)
  |exact HL (HL (m:=Builtin.Tuple.tupleExact _) (Jb (HS (HS ⟨_,rfl,HS h⟩)) Dj))
  |exact HL (HL (m:=Builtin.Tuple.tupleExact _) (Jb (HS ⟨_,rfl,HS h⟩) Dj))
end
end HT
namespace L2
open PySem PySem.Spec PyProof.Rows
abbrev TO:=St->Hp->(Option Int->Hp->Prop)->Prop
def PO(X:Cx)(e:Option Expr)(t:TO):Prop:=
 ∀(pins:Va) (s:Shared) (σ:St) (H:Hp) (Q:Option Int->Hp->Prop),Inv X pins σ H s->t σ H Q->
  wpAny (model X.prog X.w) X.A (evalPart e X.env) (fun u s'=>∃o H',Inv X pins σ H' s'/\IsPart u o/\Q o H') X.xe s
noncomputable def sH:TO:=fun _ H Q=>Q none H
noncomputable def wZ(t:TE):TO:=fun σ H Q=>t σ H fun x H1=>∃i,x = .int i/\Q (some i) H1
section
variable {X:Cx} {e:Expr} {te:TE} {lo hi:Option Expr} {tl th:TO} {pos p2:Pos}
def sI:PO X none sH:=by
 intro pins s σ H Q I h
 rw[evalPart_none]
 exact HS ⟨none,H,I,.none,h⟩
def sJ(h:PE X e te):PO X (some e) (wZ te):=by
 intro pins s σ H Q I hw
 rw[evalPart_some]
 refine Ak (h pins s σ H _ I hw) fun u s1 ⟨x,H1,I1,r1,q1⟩=>?_
 obtain⟨i,rfl,q⟩:=q1
 obtain⟨t,rfl⟩:=r1
 exact⟨some i,H1,I1,.int i t,q⟩
def wf(X:Cx)(r:V->Option Int->Option Int->Hp->VK->Prop):Prop:=
 ∀(pins:Va) (s:Shared) (σ:St) (H:Hp) (x:V) (v vl vu:Value) (lo hi:Option Int) (sl:Addr) (Q:VK),Inv X pins σ H s->RelV x v->s.heap.IsSliceOf sl vl vu .none->IsPart vl lo->IsPart vu hi->r x lo hi H Q->
  ∃T id,typeLookup (.type T) "__getitem__" = pure (some (.builtin id))/\s.TypeIs v T/\wpAny (model X.prog X.w) X.A (getItem v (.ref sl)) (EP X pins σ Q) X.xe s
def zN(r:V->Option Int->Option Int->Hp->VK->Prop)(te:TE)(tl th:TO):TE:=fun σ H Q=>te σ H fun x H1=>tl σ H1 fun l H2=>th σ H2 fun u H3=>r x l u H3 Q
def p8{r:V->Option Int->Option Int->Hp->VK->Prop}(hr:wf X r)(he:PE X e te)(hl:PO X lo tl)(hu:PO X hi th):PE X (.Subscript e (.Slice lo hi none p2) pos) (zN r te tl th):=by
 intro pins s σ H Q I h
 refine Subscript_ (Ak (he pins s σ H _ I h) fun v s1 ⟨x,H1,I1,r1,q1⟩=>?_)
 refine wpAny_Slice (Ak (hl pins s1 σ H1 _ I1 q1) fun vl s2 ⟨l,H2,I2,pl,q2⟩=>Ak (hu pins s2 σ H2 _ I2 q2) fun vu s3 ⟨u,H3,I3,pu,q3⟩=>?_)
 rw[evalPart_none]
 refine HS ?_
 have I4:Inv X pins σ H3 { s3 with heap:=s3.heap.push { cls:=.type "slice",data:=.fields #[vl,vu,.none] } }:=I3.kept (t':=s3.toks) fun b ob q=>HM _ q
 obtain⟨T,id,hT,ht,hg⟩:=hr pins { s3 with heap:=s3.heap.push { cls:=.type "slice",data:=.fields #[vl,vu,.none] } } σ H3 x v vl vu l u s3.heap.objs.size Q I4 r1 (Heap.IsSliceOf.new ..) pl pu q3
 show wpAny (model X.prog X.w) X.A (subscriptTail e (.Slice lo hi none p2) v (.ref s3.heap.objs.size)) (EP X pins σ Q) X.xe { s3 with heap:=s3.heap.push { cls:=.type "slice",data:=.fields #[vl,vu,.none] } }
 exact tail_any (ops:=[.ref s3.heap.objs.size,v]) ht hT hg (by with_unfolding_all rfl)
noncomputable def i3(xs:List V)(lo hi:Option Int):List V:=(xs.drop (HT.As xs.length 0 lo)).take (HT.As xs.length xs.length hi - HT.As xs.length 0 lo)
def iC(xs:List V)(lo hi:Option Int):(i3 xs lo hi).length<=xs.length:=by
 unfold i3
 rw[Jm,Jo]
 omega
noncomputable def yQ(K:Vo):V->Option Int->Option Int->Hp->VK->Prop:=fun x lo hi H Q=>∃a xs,x = .ref a/\SqT K H a xs/\
 ¬(HT.As xs.length 0 lo=0/\HT.As xs.length xs.length hi=xs.length)/\∀p,H p=none->Q (.ref p) (upd H p (.tup (i3 xs lo hi)))
def u4:wf X (yQ X.K):=by
 intro pins s σ H x v vl vu lo hi sl Q I rx hs pl pu h
 obtain⟨a,xs,rfl,hx,hw,q⟩:=h
 cases rx
 obtain⟨its,r,ht,hz⟩:=I.tuple hx
 have hlen:its.toArray.size=xs.length:=by rw[HU];exact r.length.symm
 refine⟨"tuple",_,IE.lookup,ht.typeIs,?_⟩
 refine HT.gw ht hs pl pu (by rw[hlen];exact hw) ?_ (by rw[hlen];exact hz)
 rw[hlen]
 refine⟨.ref s.heap.objs.size,_,I.laid (t':=s.toks) (o:=.tup (i3 xs lo hi)) (fun b ob q=>HM _ q) (HN _) ?_,rfl,q _ (I.hok.fresh (HN _))⟩
 exact⟨Ib (iC xs lo hi) hz,_,(r.drop (HT.As xs.length 0 lo)).take (HT.As xs.length xs.length hi - HT.As xs.length 0 lo),AM.new _ _⟩
def w4(K:Vo):R2:=fun x y H Q=>∃a b xs ys,x = .ref a/\y = .ref b/\SqT K H a xs/\SqT K H b ys/\xs≠[]/\xs.length+ys.length<=sizeLine/\
 (ys=[]->Q (.ref a) H)/\(ys≠[]->∀p,H p=none->Q (.ref p) (upd H p (.tup (xs++ys))))
def Vals.CI{xs:List V}{us:Vv}(r:Vals xs us):us=[]↔xs=[]:=by
 cases r with
 |nil=>simp
 |cons _ _=>simp
def sK:g7 X (binaryOp .Add) (w4 X.K):=by
 intro pins s σ H x y v u Q I rx ry h
 obtain⟨a,b,xs,ys,rfl,rfl,ha,hb,hx,hz,q1,q2⟩:=h
 cases rx
 cases ry
 obtain⟨its,r1,p1,_⟩:=I.tuple ha
 obtain⟨its2,r2,p2,_⟩:=I.tuple hb
 refine HT.sF p1 p2 (fun z=>hx (r1.CI.mp z)) (fun z=>⟨.ref a,H,I,rfl,q1 (r2.CI.mp z)⟩) (fun z=>?_) (by rw[<-r1.length,<-r2.length];exact hz)
 refine⟨.ref s.heap.objs.size,_,I.laid (t':=s.toks) (o:=.tup (xs++ys)) (fun b ob q=>HM _ q) (HN _) ?_,rfl,q2 (fun w=>z (r2.CI.mpr w)) _ (I.hok.fresh (HN _))⟩
 exact⟨by rw[HY];exact hz,_,r1.append r2,AM.new _ _⟩
end
noncomputable def mF(n:Nat)(i:Int):Option Nat:=if 0<=i then (if i < n then some i.toNat else none) else if -(n:Int)<=i then some (i+n).toNat else none
noncomputable def AS{α:Type}(xs:List α)(i:Int):Option α:=(mF xs.length i).bind fun j=>xs[j]?
def nE{n:Nat}{i:Int}{j:Nat}(h:mF n i=some j):seqIndex? i n=some j/\j < n/\-(n:Int)<=i/\i < n:=by
 unfold mF at h
 by_cases h0:0<=i
 ·rw[if_pos h0]at h
  by_cases h1:i < n
  ·rw[if_pos h1]at h
   have e:i.toNat=j:=IY h
   exact⟨by rw[seqIndex_of h0 h1,e],by omega,by omega,h1⟩
  ·rw[if_neg h1]at h;cases h
 ·rw[if_neg h0]at h
  by_cases h1:-(n:Int)<=i
  ·rw[if_pos h1]at h
   have e:(i+n).toNat=j:=IY h
   exact⟨by rw[seqIndex_neg (by omega) h1,e],by omega,h1,by omega⟩
  ·rw[if_neg h1]at h;cases h
def kG{α:Type}{xs:List α}{i:Int}{v:α}(h:AS xs i=some v):∃j,seqIndex? i xs.length=some j/\xs[j]?=some v/\j < xs.length/\-(xs.length:Int)<=i/\i < xs.length:=by
 unfold AS at h
 cases e:mF xs.length i with
 |none=>rw[e]at h;cases h
 |some j=>
  rw[e]at h
  obtain⟨h1,h2,h3,h4⟩:=nE e
  exact⟨j,h1,h,h2,h3,h4⟩
def bA{α:Type}{xs:List α}{j:Nat}{v:α}(h:xs[j]?=some v):AS xs (j:Int)=some v:=by
 have hj:j < xs.length:=(Jj.mp h).1
 have e:mF xs.length (j:Int)=some j:=by
  unfold mF
  rw[if_pos (by omega),if_pos (by omega)];simp
 unfold AS;rw[e];exact h
def iS(b:Expr):Prop:=∀o i,subscripted b false o i=operate [o,i] (getItem o i)
def wg(X:Cx)(r:R2):Prop:=
 ∀(value slice:Expr) (pins:Va) (s:Shared) (σ:St) (H:Hp) (x y:V) (v u:Value) (Q:VK),Inv X pins σ H s->RelV x v->RelV y u->r x y H Q->
  subscripted slice false v u=operate [v,u] (getItem v u)->wpAny (model X.prog X.w) X.A (subscriptTail value slice v u) (EP X pins σ Q) X.xe s
def w5(X:Cx)(id:String)(r:V->List V->Hp->VK->Prop):Prop:=
 ∀(pins:Va) (s:Shared) (σ:St) (H:Hp) (x:V) (xs:List V) (v:Value) (us:Vv) (Q:VK),Inv X pins σ H s->RelV x v->Vals xs us->r x xs H Q->
  wpAny (model X.prog X.w) X.A (call (.builtin id) (v::us)) (EP X pins σ Q) X.xe s
section
variable {X:Cx} {a b:Expr} {ta tb:TE} {pos:Pos}
def w9{r:R2}(hr:wg X r)(ha:PE X a ta)(hb:PE X b tb)(hs:iS b):PE X (.Subscript a b pos) (wN r ta tb):=by
 intro pins s σ H Q I h
 exact Subscript_ (uO ha hb I h fun v u s2 x y H2 I2 rx ry q=>hr a b pins s2 σ H2 x y v u Q I2 rx ry q (hs _ _))
def yR(K:Vo):R2:=fun x y H Q=>∃p xs i v,x = .ref p/\y = .int i/\SqL K H p xs/\AS xs i=some v/\Q v H
def yS(K:Vo):R2:=fun x y H Q=>∃p xs i v,x = .ref p/\y = .int i/\SqT K H p xs/\AS xs i=some v/\Q v H
def yT:R2:=fun x y H Q=>∃z i c,x = .str z/\y = .int i/\z.length<=sizeLine/\AS z.cps.toList i=some c/\Q (.str ⟨#[c]⟩) H
def nF:wg X (yR X.K):=by
 intro value slice pins s σ H x y v u Q I rx ry h hs
 obtain⟨p,xs,i,z,rfl,rfl,hq,he,q⟩:=h
 cases rx
 obtain⟨t,rfl⟩:=ry
 obtain⟨its,r,pl,hz⟩:=I.list hq
 obtain⟨j,h1,h2,h3,h4,h5⟩:=kG he
 obtain⟨w,ew,rw'⟩:=r.get h2
 have hl:=r.length
 have hn:=hG
 have fin:EP X pins σ Q w s:=⟨z,H,I,rw',q⟩
 by_cases h0:0<=i
 ·have hj:i.toNat=j:=by
   rw[seqIndex_of h0 h5]at h1
   exact IY h1
  exact item_listR pl.isList h0 (by omega) (by rw[hj];simpa using ew) fin hs
 ·have hj:(i+(its.toArray.size:Int)).toNat=j:=by
   rw[seqIndex_neg (by omega) h4]at h1
   rw[HU,<-hl]
   exact IY h1
  exact subscriptTail_builtinR (x:=w) pl.isList.typeIs slot_list_getitem.lookup
   (wpAny_getItem_list_neg (Q:=fun r s'=>r=w/\EP X pins σ Q r s') pl.isList (by omega) (by rw[HU]<;>omega) (by omega) (by rw[hj];simpa using ew) ⟨rfl,fin⟩) hs
def u5:wg X (yS X.K):=by
 intro value slice pins s σ H x y v u Q I rx ry h hs
 obtain⟨p,xs,i,z,rfl,rfl,hq,he,q⟩:=h
 cases rx
 obtain⟨t,rfl⟩:=ry
 obtain⟨its,r,pl,hz⟩:=I.tuple hq
 obtain⟨j,h1,h2,h3,h4,h5⟩:=kG he
 obtain⟨w,ew,rw'⟩:=r.get h2
 have hl:=r.length
 have hn:=hG
 have fin:EP X pins σ Q w s:=⟨z,H,I,rw',q⟩
 exact subscriptTail_builtinR (x:=w) pl.typeIs slot_tuple_getitem.lookup
  (getItem_tuple (j:=j) (Q:=fun r s'=>r=w/\EP X pins σ Q r s') pl (by omega) (by omega) (by rw[HU,<-hl];exact h1) (by simpa using ew) ⟨rfl,fin⟩) hs
def u6:wg X yT:=by
 intro value slice pins s σ H x y v u Q I rx ry h hs
 obtain⟨z,i,c,rfl,rfl,hz,he,q⟩:=h
 obtain⟨t,rfl⟩:=rx
 obtain⟨t',rfl⟩:=ry
 obtain⟨j,h1,h2,h3,h4,h5⟩:=kG he
 have hl:z.cps.toList.length=z.length:=by simp[Str.length]
 rw[hl]at h1 h4 h5
 have hn:=hG
 exact tail_any (typeIs_str s z t) slot_str_getitem.lookup (getItem_str (c:=c) (by
  have e1:decide (i < -(2 ^ 63:Int))=false:=IJ (by omega)
  have e2:decide (i>=2 ^ 63)=false:=IJ (by omega)
  rw[e1,e2,Bool.or_false]) (by rw[h1];simpa using h2) ⟨.str ⟨#[c]⟩,H,I.tok _,⟨_,rfl⟩,q⟩) hs
def mR(its:Vv)(n j:Nat)(u:Value):Obj.mapSeq (·.setIfInBounds j u) { cls:=.type "list",data:=.seq its.toArray n }={ cls:=.type "list",data:=.seq (its.set j u).toArray n }:=by
 simp[Obj.mapSeq]
theorem Inv.lst{pins:Va}{σ:St}{H:Hp}{s:Shared}{p:Addr}{xs:List V}(I:Inv X pins σ H s)(h:H p=some (.lst xs)) :
  ∃(its:Vv) (n:Nat),Vals xs its/\s.heap.get? p=some { cls:=.type "list",data:=.seq its.toArray n }/\xs.length<=sizeLine:=by
 obtain⟨z,its,n,r,e⟩:=I.hok p _ h
 exact⟨its,n,r,e,z⟩
def Inv.En{pins:Va}{σ:St}{H:Hp}{s:Shared}{p:Addr}{xs ys:List V}{its its':Vv}{n n':Nat}{f:Obj->Obj}(I:Inv X pins σ H s)(h:H p=some (.lst xs))
  (ho:s.heap.get? p=some { cls:=.type "list",data:=.seq its.toArray n }) (hf:f { cls:=.type "list",data:=.seq its.toArray n }={ cls:=.type "list",data:=.seq its'.toArray n' }) (r:Vals ys its') (hz:ys.length<=sizeLine) (t:Nat) :
  Inv X pins σ (upd H p (.lst ys)) { s with heap:=s.heap.update p f,toks:=t }:=by
 have e:(s.heap.update p f).get? p=some { cls:=.type "list",data:=.seq its'.toArray n' }:=by
  rw[JQ f ho (by rw[hf]<;>rfl),hf]
 refine I.write (x:=p) (e:=p) (by rw[h];trivial) (.inl rfl) (fun b u hb q=>(Kr _ _ (J8 hb)).trans q) ⟨_,e⟩ ?_
 exact⟨hz,its',n',r,e⟩
noncomputable def w_:V->V->V->Hp->(Hp->Prop)->Prop:=fun o i v H Q=>∃p xs k j,o = .ref p/\i = .int k/\H p=some (.lst xs)/\mF xs.length k=some j/\Q (upd H p (.lst (xs.set j v)))
def p9:sr X w_:=by
 intro pins s σ H o i v ov iv u Q I ro ri rv h
 obtain⟨p,xs,k,j,rfl,rfl,hp,hj,q⟩:=h
 cases ro
 obtain⟨t,rfl⟩:=ri
 obtain⟨its,n,r,ho,hz⟩:=I.lst hp
 obtain⟨h1,h2,h3,h4⟩:=nE hj
 have hl:=r.length
 have hn:=hG
 have I':Inv X pins σ (upd H p (.lst (xs.set j v))) { s with heap:=s.heap.update p (Obj.mapSeq (·.setIfInBounds j u)) }:=
  I.En hp ho (mR its n j u) (r.set rv j) (by rw[List.length_set];exact hz) s.toks
 by_cases h0:0<=k
 ·have hk:k.toNat=j:=by
   rw[seqIndex_of h0 h4]at h1
   exact IY h1
  exact PySem.W.ki_setAt ho h0 (by omega) (by rw[HU,<-hl];exact h4) (by rw[hk];exact⟨_,I',q⟩)
 ·have hk:(k+(its.toArray.size:Int)).toNat=j:=by
   rw[seqIndex_neg (by omega) h3]at h1
   rw[HU,<-hl]
   exact IY h1
  exact PySem.W.ki_setBack ho (by omega) (by rw[HU,<-hl];exact h3) (by omega) (by rw[hk];exact⟨_,I',q⟩)
def kH(lo hi:Option Int)(n:Nat):(sliceBounds lo hi none n).1=((HT.As n 0 lo:Nat):Int)/\(sliceBounds lo hi none n).2.1=((HT.As n n hi:Nat):Int)/\(sliceBounds lo hi none n).2.2=1:=by
 refine⟨?_,?_,rfl⟩
 ·cases lo with
  |none=>simp[sliceBounds,HT.As]
  |some i=>
   simp only[sliceBounds,HT.As,Option.getD_none,show(1:Int) > 0 by decide,JO]
   by_cases h:i < 0
   ·simp only[h,JO]<;>omega
   ·simp only[h,Li]<;>omega
 ·cases hi with
  |none=>simp[sliceBounds,HT.As]
  |some i=>
   simp only[sliceBounds,HT.As,Option.getD_none,show(1:Int) > 0 by decide,JO]
   by_cases h:i < 0
   ·simp only[h,JO]<;>omega
   ·simp only[h,Li]<;>omega
def jT(its:Vv)(lo hi:Option Int):slicePick its.toArray lo hi none=((its.drop (HT.As its.length 0 lo)).take (HT.As its.length its.length hi - HT.As its.length 0 lo)).toArray:=by
 obtain⟨h1,h2,h3⟩:=kH lo hi its.toArray.size
 unfold slicePick
 rw[h1,h2,h3]
 simp only[sliceRange_one,pick_run,HU]<;>rfl
noncomputable def yU(K:Vo):V->Option Int->Option Int->Hp->VK->Prop:=fun x lo hi H Q=>∃a xs,x = .ref a/\SqL K H a xs/\∀p,H p=none->Q (.ref p) (upd H p (.lst (i3 xs lo hi)))
def nG:wf X (yU X.K):=by
 intro pins s σ H x v vl vu lo hi sl Q I rx hs pl pu h
 obtain⟨a,xs,rfl,hx,q⟩:=h
 cases rx
 obtain⟨its,r,ht,hz⟩:=I.list hx
 have hlen:=r.length
 refine⟨"list",_,slot_list_getitem.lookup,ht.isList.typeIs,?_⟩
 refine wpAny_getItem_list_slice ht.isList hs pl pu .none (by simp) ?_ (by rw[HU]<;>omega)
 rw[jT,<-hlen]
 refine⟨.ref s.heap.objs.size,_,I.laid (t':=s.toks) (o:=.lst (i3 xs lo hi)) (fun b ob q=>HM _ q) (HN _) ?_,rfl,q _ (I.hok.fresh (HN _))⟩
 exact⟨Ib (iC xs lo hi) hz,_,0,(r.drop (HT.As xs.length 0 lo)).take (HT.As xs.length xs.length hi - HT.As xs.length 0 lo),HV _ rfl⟩
def kI:g7 X (compareOp .NotIn) (fun x y H Q=>∃i j,x = .str i/\y = .str j/\Q (.bl (!(!(Builtin.Str.occurrences j i 0 j.length 1).isEmpty))) H):=by
 intro pins s σ H x y v u Q I rx ry h
 obtain⟨i,j,rfl,rfl,q⟩:=h
 obtain⟨t,rfl⟩:=rx
 obtain⟨t',rfl⟩:=ry
 exact notIn_str ⟨.bl _,H,I,rfl,q⟩
def dC:fJ X (.builtin "len") (fun xs H Q=>∃p ys,xs=[.ref p]/\(SqL X.K H p ys\/SqT X.K H p ys)/\Q (.int ys.length) H):=by
 intro pins s σ H xs us Q I r h
 obtain⟨p,ys,rfl,hq,q⟩:=h
 obtain⟨u,rfl,rx⟩:=gv r
 cases rx
 have hn:=hG
 rcases hq with hq|hq
 ·obtain⟨its,r',pl,hz⟩:=I.list hq
  have hlen:=r'.length
  exact Calls.call_len_list pl.isList (by simp only[HU]<;>omega) ⟨.int ys.length,H,I.tok _,⟨s.toks+1,by rw[HU,hlen]⟩,q⟩
 ·obtain⟨its,r',pl,hz⟩:=I.tuple hq
  have hlen:=r'.length
  exact len_tuple pl (by simp only[HU]<;>omega) ⟨.int ys.length,H,I.tok _,⟨s.toks+1,by rw[HU,hlen]⟩,q⟩
def kJ:fJ X (.builtin "len") (fun xs H Q=>∃z,xs=[.str z]/\z.length<=sizeLine/\Q (.int z.length) H):=by
 intro pins s σ H xs us Q I r h
 obtain⟨z,rfl,hz,q⟩:=h
 obtain⟨u,rfl,t,rfl⟩:=gv r
 have hn:=hG
 exact len_str (by omega) ⟨.int z.length,H,I.tok _,⟨_,rfl⟩,q⟩
def fK:fJ X (.type "tuple") (fun xs H Q=>∃p ys,xs=[.ref p]/\((SqL X.K H p ys/\∀l,H l=none->Q (.ref l) (upd H l (.tup ys)))\/(SqT X.K H p ys/\Q (.ref p) H))):=by
 intro pins s σ H xs us Q I r h
 obtain⟨p,ys,rfl,h⟩:=h
 obtain⟨u,rfl,rx⟩:=gv r
 cases rx
 rcases h with⟨hq,q⟩|⟨hq,q⟩
 ·obtain⟨its,r',pl,hz⟩:=I.list hq
  have hlen:=r'.length
  refine call_tuple_list pl.isList (fun h' kp=>?_) (by simp only[HU]<;>omega)
  have I1:Inv X pins σ H { s with heap:=h' }:=I.kept (t':=s.toks) kp
  have I2:Inv X pins σ (upd H h'.objs.size (.tup ys)) { s with heap:=h'.push { cls:=.type "tuple",data:=.seq its.toArray } }:=
   I1.laid (t':=s.toks) (fun b o e=>HM _ e) (HN _) (show Az X.prog X.w _ _ _ (.tup ys)from ⟨hz,its,r',AM.new _ _⟩)
  exact⟨.ref h'.objs.size,_,I2,rfl,q _ (I1.hok.fresh (HN _))⟩
 ·obtain⟨its,r',pl,hz⟩:=I.tuple hq
  exact call_tuple_same pl ⟨.ref p,H,I,rfl,q⟩
def yu(K:Vo)(T:String)(x:V)(H:Hp):Prop:=match x with
 | .str _=>T = "str"
 | .int _=>T = "int"
 | .ref p=>(T = "list"/\∃xs,SqL K H p xs)\/(T = "tuple"/\∃o,K.lookup p=some o/\o.cls = .type "tuple"/\o.dict=none) \/
   (T = "dict"/\((∃kvs,H p=some (.dK kvs))\/∃kvs,H p=some (.dT kvs)))\/(T = "set"/\∃S n,H p=some (.set S n))
 |_=>False
def p_{pins:Va}{σ:St}{H:Hp}{s:Shared}{T:String}{x:V}{v:Value}(I:Inv X pins σ H s)(r:RelV x v)(ty:yu X.K T x H) :
  s.TypeIs v T/\∀a,v = .ref a->∃ob,s.heap.get? a=some ob/\ob.dict=none:=by
 cases x with
 |str z=>
  obtain⟨t,rfl⟩:=r
  cases (show T = "str" from ty)
  exact⟨typeIs_str s z t,fun _ e=>nomatch e⟩
 |int i=>
  obtain⟨t,rfl⟩:=r
  cases (show T = "int" from ty)
  exact⟨typeIs_int s i t,fun _ e=>nomatch e⟩
 |ref p=>
  cases r
  rcases ty with⟨rfl,xs,hq⟩|⟨rfl,o,hk,hc,hd⟩|⟨rfl,hk⟩|⟨rfl,S,n,hk⟩
  ·obtain⟨its,_,pl,_⟩:=I.list hq
   refine⟨pl.isList.typeIs,fun a e=>?_⟩
   cases e
   obtain⟨o,n,e,c,hd,_⟩:=pl
   exact⟨o,e,hd⟩
  ·refine⟨⟨o,I.EH p o hk,hc⟩,fun a e=>?_⟩
   cases e
   exact⟨o,I.EH _ o hk,hd⟩
  ·have z:∃o,s.heap.get? p=some o/\o.ExactDict:=by
    rcases hk with⟨kvs,hk⟩|⟨kvs,hk⟩
    ·obtain⟨_,_,_,_,o,_,_,e,ex,_⟩:=I.hok p _ hk
     exact⟨o,e,ex⟩
    ·obtain⟨_,_,_,_,o,_,_,e,ex,_⟩:=I.hok p _ hk
     exact⟨o,e,ex⟩
   obtain⟨o,e,ex⟩:=z
   refine⟨⟨o,e,ex.1⟩,fun a e2=>?_⟩
   cases e2
   exact⟨o,e,ex.2.1⟩
  ·obtain⟨o,_,_,_,e,ex,_⟩:=I.hok p _ hk
   refine⟨⟨o,e,ex.1⟩,fun a e2=>?_⟩
   cases e2
   exact⟨o,e,ex.2.1⟩
 |_=>exact False.elim ty
def yV(K:Vo)(T:String)(r:V->List V->Hp->VK->Prop)(to:TE):TE:=fun σ H Q=>to σ H fun x H1=>yu K T x H1/\r x [] H1 Q
def zO(K:Vo)(T:String)(r:V->List V->Hp->VK->Prop)(to:TE)(t:TA):TE:=fun σ H Q=>to σ H fun x H1=>yu K T x H1/\t σ H1 fun xs H2=>r x xs H2 Q
variable {o e:Expr} {es:List Expr} {to:TE} {t:TA} {name:Str} {apos cpos:Pos} {T id:String} {r:V->List V->Hp->VK->Prop}
def u7(pa:PlainAttrs T)(slot:Slot T name id)(hty:typeOf (.builtin id)=pure (.type "method_descriptor"))(hm:w5 X id r)(ho:PE X o to)
  (hbase:attributeBase o name X.env (eval o X.env)=eval o X.env:=by rfl) (hline:(apos.endLine == cpos.line)=true:=by rfl):PE X (.Call (.Attribute o name apos) [] [] cpos) (yV X.K T r to):=by
 intro pins s σ H Q I h
 refine wpAny_Call_method0_late hbase hline (Ak (ho pins s σ H _ I h) fun v s1 ⟨x,H1,I1,r1,ty,q1⟩=>?_)
 obtain⟨h1,h2⟩:=p_ I1 r1 ty
 exact⟨T,id,pa,slot,hty,h1,h2,Calls.callWith_builtin rfl (PySem.evalArgs_none (hm pins s1 σ H1 x [] v [] Q I1 r1 .nil q1))⟩
def xg(pa:PlainAttrs T)(slot:Slot T name id)(hty:typeOf (.builtin id)=pure (.type "method_descriptor"))(hm:w5 X id r)(ho:PE X o to)(ha:PA X (e::es) t)
  (hbase:attributeBase o name X.env (eval o X.env)=eval o X.env:=by rfl)
  (hfew:((backTo cpos (starEach (e::es) X.env)).all (fun x=>!x.1)&&(backToKw cpos (keywordEach [] X.env)).all (fun x=>x.1.isSome)
   && decide ((e::es).length+([]:List Keyword).length+(if ([]:List Keyword).isEmpty then 0 else 1) < 30))=true:=by rfl)
  (hline:(apos.endLine == cpos.line)=true:=by rfl) (hs:starEach (e::es) X.env=(false,eval e X.env)::starEach es X.env:=by rfl) (hplain:(backTo cpos (starEach es X.env)).any (·.1)=false:=by rfl) :
  PE X (.Call (.Attribute o name apos) (e::es) [] cpos) (zO X.K T r to t):=by
 intro pins s σ H Q I h
 refine wpAny_Call_method_late hbase hfew hline rfl (Ak (ho pins s σ H _ I h) fun v s1 ⟨x,H1,I1,r1,ty,q1⟩=>?_)
 obtain⟨h1,h2⟩:=p_ I1 r1 ty
 refine⟨T,id,pa,slot,hty,h1,h2,?_⟩
 have hA:=ha cpos pins s1 σ H1 _ I1 q1
 rw[hs]at hA ⊢
 refine Calls.callWith_builtin (by show(false || (backTo cpos (starEach es X.env)).any (·.1))=false;rw[hplain]<;>rfl) (Calls.evalArgs_plain ?_)
 exact Ak hA fun us s2 ⟨vs,H2,I2,r2,q2⟩=>hm pins s2 σ H2 x vs v us Q I2 r1 r2 q2
end
def yW(X:Cx)(id:String)(r:V->List V->Hp->VK->Prop):Prop:=
 ∀(pins:Va) (s:Shared) (σ:St) (H:Hp) (x:V) (xs:List V) (v:Value) (us:Vv) (Q:VK),Inv X pins σ H s->RelV x v->Vals xs us->r x xs H Q->
  wpAny (model X.prog X.w) X.A (call (.builtin id) (v::us)) (EP X pins σ Q) X.xe s
theorem Vals.one:∀{x:V} {us:Vv},Vals [x] us->∃u,us=[u]/\RelV x u
 |_,_,.cons r .nil=>⟨_,rfl,r⟩
theorem Vals.zero:∀{us:Vv},Vals [] us->us=[]
 |_,.nil=>rfl
theorem Vals.dropLast{xs:List V}{us:Vv}(h:Vals xs us):Vals xs.dropLast us.dropLast:=by
 induction h with
 |nil=>exact .nil
 |cons r t ih=>
  cases t with
  |nil=>exact .nil
  |cons q t'=>exact .cons r ih
theorem Vals.eraseIdx:∀{xs:List V} {us:Vv} (i:Nat),Vals xs us->Vals (xs.eraseIdx i) (us.eraseIdx i)
 |_,_,_,.nil=>.nil
 |_,_,0,.cons _ t=>t
 |_,_,i+1,.cons r t=>.cons r (Vals.eraseIdx i t)
theorem Vals.reverse{xs:List V}{us:Vv}(h:Vals xs us):Vals xs.reverse us.reverse:=by
 induction h with
 |nil=>exact .nil
 |cons r t ih=>rw[Ks,Ks];exact Vals.append ih (.cons r .nil)
theorem Vals.rep{xs:List V}{us:Vv}(h:Vals xs us):∀k:Nat,Vals (List.replicate k xs).flatten (List.replicate k us).flatten
 |0=>.nil
 |k+1=>by
  rw[Iq,Iq,JG,JG]
  exact Vals.append h (Vals.rep h k)
def mS{α:Type}(l:List α):l.eraseIdx (l.length - 1)=l.dropLast:=by
 induction l with
 |nil=>rfl
 |cons a r ih=>
  cases r with
  |nil=>rfl
  |cons b r=>
   have e:(a::b::r).length - 1=((b::r).length - 1)+1:=by
    have h1:(a::b::r).length=r.length+2:=rfl
    have h2:(b::r).length=r.length+1:=rfl
    omega
   rw[e,List.eraseIdx_cons_succ,ih]
   all_goals rfl
theorem j_{α:Type}:∀(l:List α) (i:Nat),(l.eraseIdx i).length<=l.length
 |[],_=>HN _
 |_::_,0=>Nat.le_succ _
 |_::r,i+1=>Nat.succ_le_succ (j_ r i)
theorem hJ(its:Vv):∀(k:Nat) (acc:Vv),
  List.foldl (fun x1 x2=>x1++x2) acc.toArray (List.replicate k its.toArray)=(acc++(List.replicate k its).flatten).toArray
 |0,acc=>by simp
 |k+1,acc=>by
  have e:acc.toArray++its.toArray=(acc++its).toArray:=by simp
  have e2:(acc++its)++(List.replicate k its).flatten=acc++(List.replicate (k+1) its).flatten:=by
   rw[Iq,JG,List.append_assoc]
  rw[<-e2,<-hJ its k (acc++its),<-e,Iq,List.foldl_cons]
section
variable {X:Cx} {pins:Va} {σ:St} {H:Hp} {s:Shared} {l b:Addr} {xs ys zs:List V}
def Inv.Eo{its its':Vv}{n:Nat}{f:Array Value->Array Value}{t':Nat}(I:Inv X pins σ H s)(hH:H l=some (.lst xs))
  (e:s.heap.get? l=some { cls:=.type "list",data:=.seq its.toArray n }) (hf:f its.toArray=its'.toArray) (hv:Vals ys its') (hz:ys.length<=sizeLine) :
  Inv X pins σ (upd H l (.lst ys)) { s with heap:=s.heap.update l (Obj.mapSeq f),toks:=t' }:=by
 have q:=PySem.IsL.update e f
 rw[hf]at q
 refine I.write (x:=l) (e:=l) (by rw[hH];exact trivial) (.inl rfl) (fun b' u hb hu=>(Kr s.heap (Obj.mapSeq f) (J8 hb)).trans hu) ⟨_,q⟩ ?_
 exact⟨hz,its',_,hv,q⟩
def Inv.EZ{its:Vv}{t':Nat}(I:Inv X pins σ H s)(hv:Vals ys its)(hz:ys.length<=sizeLine) :
  Inv X pins σ (upd H s.heap.objs.size (.lst ys)) { s with heap:=s.heap.push { cls:=.type "list",data:=.seq its.toArray },toks:=t' }:=
 I.laid (fun _ _ q=>HM _ q) (HN _) ⟨hz,its,0,hv,HV _ rfl⟩
theorem Inv.fresh(I:Inv X pins σ H s):H s.heap.objs.size=none:=I.hok.fresh (HN _)
def Inv.Dp(I:Inv X pins σ H s)(hH:H l=some (.lst xs)):xs.length<=sizeLine/\∃(its:Vv) (n:Nat),Vals xs its/\xs.length=its.length/\s.heap.get? l=some { cls:=.type "list",data:=.seq its.toArray n }:=by
 obtain⟨z,its,n,r,e⟩:=I.hok l _ hH
 exact⟨z,its,n,r,r.length,e⟩
def qf{n:Nat}(h:n<=sizeLine):Builtin.List.listTooLong n=false:=by
 unfold Builtin.List.listTooLong
 exact IJ (by omega)
end
section
variable {X:Cx}
noncomputable def sL:V->List V->Hp->VK->Prop:=fun x vs H Q=>∃l xs y,x = .ref l/\vs=[y]/\H l=some (.lst xs)/\xs.length < sizeLine/\Q .non (upd H l (.lst (xs++[y])))
def oy:yW X "list.append" sL:=by
 intro pins s σ H x vs v us Q I rx rv h
 obtain⟨l,xs,y,rfl,rfl,hH,hz,q⟩:=h
 cases rx
 obtain⟨u,rfl,ru⟩:=rv.one
 obtain⟨z,its,n,r,hl,e⟩:=I.Dp hH
 refine JV F.slot_list_append ⟨_,e,rfl⟩ F.entry_list_append (F.args_list_append_2 _ _) (PySem.list_append l its.toArray n u (by rw[HU];omega)) ⟨e,?_⟩
 refine⟨.non,_,I.Eo (its':=its++[u]) hH e (by simp) (r.append (.cons ru .nil)) ?_,rfl,q⟩
 rw[HY,Jk]
 omega
noncomputable def yX:V->List V->Hp->VK->Prop:=fun x vs H Q=>∃l xs y,x = .ref l/\vs=[]/\H l=some (.lst xs)/\xs[xs.length - 1]?=some y/\Q y (upd H l (.lst xs.dropLast))
def u8:yW X "list.pop" yX:=by
 intro pins s σ H x vs v us Q I rx rv h
 obtain⟨l,xs,y,rfl,rfl,hH,hy,q⟩:=h
 cases rx
 have EI:=rv.zero
 subst EI
 obtain⟨z,its,n,r,hl,e⟩:=I.Dp hH
 obtain⟨u,hu,ru⟩:=r.get hy
 have hy':its.toArray[its.toArray.size - 1]?=some u:=by
  show its.toArray[its.length - 1]?=some u
  rw[<-Array.getElem?_toList,<-hl]
  exact hu
 refine JV F.slot_list_pop ⟨_,e,rfl⟩ F.entry_list_pop (F.args_list_pop_1 _) (MeetsSeq.list_pop_last l its.toArray n u hy' (by rw[HU];omega)) ⟨e,?_⟩
 refine⟨y,_,I.Eo (its':=its.dropLast) hH e ?_ r.dropLast ?_,ru,q⟩
 ·show its.toArray.eraseIdxIfInBounds (its.toArray.size - 1)=its.dropLast.toArray
  rw[HU,Ky,mS]
 ·rw[List.length_dropLast]
  omega
noncomputable def u9:V->List V->Hp->VK->Prop:=fun x vs H Q=>∃l xs i k y,x = .ref l/\vs=[.int i]/\H l=some (.lst xs)/\-(2 ^ 63)<=i/\i < 2 ^ 63/\seqIndex? i xs.length=some k/\xs[k]?=some y/\Q y (upd H l (.lst (xs.eraseIdx k)))
def qg:yW X "list.pop" u9:=by
 intro pins s σ H x vs v us Q I rx rv h
 obtain⟨l,xs,i,k,y,rfl,rfl,hH,h1,h2,hk,hy,q⟩:=h
 cases rx
 obtain⟨u,rfl,ru⟩:=rv.one
 obtain⟨t,rfl⟩:=ru
 obtain⟨z,its,n,r,hl,e⟩:=I.Dp hH
 obtain⟨w,hw,rw'⟩:=r.get hy
 refine JV F.slot_list_pop ⟨_,e,rfl⟩ F.entry_list_pop (F.args_list_pop_2 _ _)
  (MeetsSeq.list_pop_at l its.toArray n i t k w (fitsIndex_both h1 h2) (by rw[HU,<-hl];exact hk) (by rw[<-Array.getElem?_toList];exact hw) (by rw[HU];omega)) ⟨e,?_⟩
 refine⟨y,_,I.Eo (its':=its.eraseIdx k) hH e ?_ (r.eraseIdx k) ?_,rw',q⟩
 ·show its.toArray.eraseIdxIfInBounds k=(its.eraseIdx k).toArray
  rw[Ky]
 ·have:=j_ xs k
  omega
def yY:R2:=fun x y H Q=>∃l b xs zs,x = .ref l/\y = .ref b/\H l=some (.lst xs)/\H b=some (.lst zs)/\xs.length+zs.length<=sizeLine/\∀p,H p=none->Q (.ref p) (upd H p (.lst (xs++zs)))
def u_:g7 X (binaryOp .Add) yY:=by
 intro pins s σ H x y v u Q I rx ry h
 obtain⟨l,b,xs,zs,rfl,rfl,hH,hB,hz,q⟩:=h
 cases rx
 cases ry
 obtain⟨z,its,n,r,hl,e⟩:=I.Dp hH
 obtain⟨z2,its2,n2,r2,hl2,e2⟩:=I.Dp hB
 refine PySem.P.add_list e e2 ?_ (by rw[HU,HU];omega)
 have ea:its.toArray++its2.toArray=(its++its2).toArray:=by simp
 rw[ea]
 exact⟨.ref _,_,I.EZ (t':=s.toks) (r.append r2) (by rw[HY];omega),rfl,q _ I.fresh⟩
def yZ:R2:=fun x y H Q=>∃l k xs,x = .ref l/\y = .int k/\H l=some (.lst xs)/\-(2 ^ 63)<=k/\k < 2 ^ 63/\xs.length * k.toNat<=sizeLine/\
 ∀p,H p=none->Q (.ref p) (upd H p (.lst (List.replicate k.toNat xs).flatten))
def sM{α:Type}(xs:List α)(k:Nat):(List.replicate k xs).flatten.length=k * xs.length:=by
 induction k with
 |zero=>simp
 |succ k ih=>rw[Iq,JG,HY,ih,Nat.succ_mul,Nat.add_comm]
def va:g7 X (binaryOp .Mult) yZ:=by
 intro pins s σ H x y v u Q I rx ry h
 obtain⟨l,k,xs,rfl,rfl,hH,h1,h2,hz,q⟩:=h
 cases rx
 obtain⟨t,rfl⟩:=ry
 obtain⟨z,its,n,r,hl,e⟩:=I.Dp hH
 have hlen:its.toArray.size * k.toNat<=sizeLine:=by rw[HU,<-hl];exact hz
 have hcap:¬its.toArray.size * k.toNat > (2 ^ 63 - 1) / 8:=by
  have:(sizeLine:Nat)<=(2 ^ 63 - 1) / 8:=by decide
  omega
 have hfit:¬(!Builtin.List.listFitsIndex k)=true:=by
  rw[fitsIndex_both h1 h2]
  exact Ig
 have E1:¬Builtin.List.listTooLong (its.toArray.size * k.toNat)=true:=by
  rw[qf hlen]
  exact Ig
 have hnew:List.foldl (fun x1 x2=>x1++x2) #[] (List.replicate (if its.toArray.isEmpty=true then 0 else k.toNat) its.toArray)=(List.replicate k.toNat its).flatten.toArray:=by
  have f0:∀m:Nat,List.foldl (fun x1 x2=>x1++x2) #[] (List.replicate m its.toArray)=(List.replicate m its).flatten.toArray:=fun m=>by
   have:=hJ its m []
   rw[IK]at this
   exact this
  rw[f0]
  cases its with
  |nil=>simp
  |cons a r'=>rw[if_neg (by simp)]
 refine wpAny_binaryOp_repeat_ref (T:="list") (U:="int") (by decide) ⟨_,e,rfl⟩ (fun s'=>typeIs_int s' k t) noFill_list_mul F.fills_int_mul KP repeat_list F.slot_int_index.lookup
  (JV KP (typeIs_int s k t) F.entry_int_rmul (F.args_int_rmul_2 _ _) (int___rmul___int_list k t l its.toArray n)
   ⟨e,rfl,⟨_,e,rfl⟩,JV F.slot_list_mul ⟨_,e,rfl⟩ F.entry_list_mul (F.args_list_mul_2 _ _) (AutoListH.list___mul___list_int_3 l its.toArray n k t hfit hcap E1) ⟨e,?_⟩⟩)
 rw[hnew]
 exact⟨.ref _,_,I.EZ (t':=s.toks) (r.rep k.toNat) (by rw[sM,Nat.mul_comm];exact hz),rfl,q _ I.fresh⟩
end
section
variable {κ:Type} [DecidableEq κ]
noncomputable def hU(kvs:List (κ×V))(k:κ):Option V:=(kvs.find? fun kv=>decide (kv.1=k)).map (·.2)
noncomputable def eQ(kvs:List (κ×V))(k:κ)(v:V):List (κ×V):=
 if (kvs.any fun kv=>decide (kv.1=k))=true then kvs.map (fun kv=>if kv.1=k then (kv.1,v) else kv) else kvs++[(k,v)]
def Bu{p:κ×V}{r:List (κ×V)}{k:κ}(e:p.1=k):hU (p::r) k=some p.2:=by simp[hU,List.find?_cons,e]
def Bv{p:κ×V}{r:List (κ×V)}{k:κ}(e:¬p.1=k):hU (p::r) k=hU r k:=by simp[hU,List.find?_cons,e]
theorem i4(k:κ):∀kvs:List (κ×V),(kvs.any fun kv=>decide (kv.1=k))=(hU kvs k).isSome
 |[]=>rfl
 |p::r=>by
  rw[Ld]
  by_cases e:p.1=k
  ·simp only[Bu e,K7 e,Bool.true_or,Option.isSome_some]
  ·rw[Bv e,IJ e,Bool.false_or];exact i4 k r
def eR(kvs:List (κ×V))(k:κ)(v:V):(eQ kvs k v).length<=kvs.length+1:=by
 unfold eQ
 split
 ·rw[HQ];omega
 ·rw[HY,Ic,Jh];omega
def RelO.Bh{o:Option V}{u:Option Value}(r:RelO o u):o.isSome=u.isSome:=by
 cases o with
 |none=>cases u with
  |none=>rfl
  |some _=>exact(show False from r).elim
 |some _=>cases u with
  |none=>exact(show False from r).elim
  |some _=>rfl
def KV.val{kvs:List (κ×V)}{vs:List (κ×Value)}(r:KV kvs vs)(k:κ):RelO (hU kvs k) (valueAt vs k):=by
 unfold KV at r
 induction r with
 |nil=>exact True.intro
 |@cons p q ps qs h t ih=>
  obtain⟨h1,h2⟩:=h
  by_cases e:p.1=k
  ·have e':q.1=k:=h1.symm.trans e
   have b:valueAt (q::qs) k=some q.2:=by simp[valueAt,List.find?_cons,e']
   rw[Bu e,b];exact h2
  ·have e':¬q.1=k:=fun z=>e (h1.trans z)
   have b:valueAt (q::qs) k=valueAt qs k:=by simp[valueAt,List.find?_cons,e']
   rw[Bv e,b];exact ih
theorem KV.any{kvs:List (κ×V)}{vs:List (κ×Value)}(r:KV kvs vs)(k:κ):(kvs.any fun kv=>decide (kv.1=k))=vs.any fun kv=>decide (kv.1=k):=by
 unfold KV at r
 induction r with
 |nil=>rfl
 |cons h t ih=>rw[Ld,Ld,ih,h.1]
def KV.repl{kvs:List (κ×V)}{vs:List (κ×Value)}(r:KV kvs vs)(k:κ){y:V}{u:Value}(ry:RelV y u) :
  KV (kvs.map fun kv=>if kv.1=k then (kv.1,y) else kv) (vs.map fun kv=>if kv.1=k then (kv.1,u) else kv):=by
 unfold KV at r ⊢
 induction r with
 |nil=>exact .nil
 |@cons p q ps qs h t ih=>
  rw[Ir,Ir]
  refine .cons ?_ ih
  obtain⟨h1,h2⟩:=h
  by_cases e:p.1=k
  ·rw[if_pos e,if_pos (h1.symm.trans e)];exact⟨h1,ry⟩
  ·rw[if_neg e,if_neg (fun z=>e (h1.trans z))];exact⟨h1,h2⟩
def KV.put{kvs:List (κ×V)}{vs:List (κ×Value)}(r:KV kvs vs)(k:κ){y:V}{u:Value}(ry:RelV y u):KV (eQ kvs k y) (stored vs k u):=by
 unfold eQ stored
 rw[r.any k]
 by_cases e:(vs.any fun kv=>decide (kv.1=k))=true
 ·rw[if_pos e,if_pos e];exact r.repl k ry
 ·rw[if_neg e,if_neg e];exact Paired.snoc r ⟨rfl,ry⟩
theorem KV.length{kvs:List (κ×V)}{vs:List (κ×Value)}(r:KV kvs vs):kvs.length=vs.length:=Paired.length r
end
def ke{P:Program}{w:World}{k:bE}{u:Value}(r:RelV (kV k) u):(bh P w).is k u=true:=by
 cases k with
 |inl i=>obtain⟨t,e⟩:=(show ∃t,u=Value.int i t from r);subst e;exact lN P w i t
 |inr x=>obtain⟨t,e⟩:=(show ∃t,u=Value.str x t from r);subst e;exact lO P w x t
theorem kf{P:Program}{w:World}:∀{ks:List bE} {us:Vv},Vals (ks.map kV) us->ItemsAre (bh P w) ks us
 |[],_,r=>by rw[Ku]at r;cases r;exact .nil
 |k::ks,_,r=>by
  rw[Ir]at r
  cases r with
  |cons h t=>exact .cons (ke h) (kf t)
noncomputable abbrev KT(H:Hp):List (List bE×V)->List (List bE×Addr×Value)->Prop:=Paired fun p q=>p.1=q.1/\H q.2.1=some (.tup (p.1.map kV))/\RelV p.2 q.2.2
def KT.val{H:Hp}{kvs:List (List bE×V)}{xs:List (List bE×Addr×Value)}(r:KT H kvs xs)(k:List bE):RelO (hU kvs k) ((atKey xs k).map (·.2)):=by
 induction r with
 |nil=>exact True.intro
 |@cons p q ps qs h t ih=>
  obtain⟨h1,_,h2⟩:=h
  by_cases e:p.1=k
  ·have e':q.1=k:=h1.symm.trans e
   have b:atKey (q::qs) k=some q.2:=by simp[atKey,List.find?_cons,e']
   rw[Bu e,b];exact h2
  ·have e':¬q.1=k:=fun z=>e (h1.trans z)
   have b:atKey (q::qs) k=atKey qs k:=by simp[atKey,List.find?_cons,e']
   rw[Bv e,b];exact ih
def KT.repl{H:Hp}{kvs:List (List bE×V)}{xs:List (List bE×Addr×Value)}(r:KT H kvs xs)(k:List bE){y:V}{u:Value}(ry:RelV y u) :
  KT H (kvs.map fun kv=>if kv.1=k then (kv.1,y) else kv) (xs.map (putAt k u)):=by
 induction r with
 |nil=>exact .nil
 |@cons p q ps qs h t ih=>
  rw[Ir,Ir]
  refine .cons ?_ ih
  obtain⟨h1,h2,h3⟩:=h
  unfold putAt
  by_cases e:p.1=k
  ·rw[if_pos e,if_pos (h1.symm.trans e)];exact⟨h1,h2,ry⟩
  ·rw[if_neg e,if_neg (fun z=>e (h1.trans z))];exact⟨h1,h2,h3⟩
def KT.put{H:Hp}{kvs:List (List bE×V)}{xs:List (List bE×Addr×Value)}(r:KT H kvs xs)(k:List bE){b:Addr}{y:V}{u:Value}(hb:H b=some (.tup (k.map kV)))(ry:RelV y u) :
  KT H (eQ kvs k y) (storedH xs k b u):=by
 have e:(kvs.any fun kv=>decide (kv.1=k))=(atKey xs k).isSome:=by
  rw[i4,(r.val k).Bh,La]
 unfold eQ storedH
 rw[e]
 by_cases q:(atKey xs k).isSome=true
 ·rw[if_pos q,if_pos q];exact r.repl k ry
 ·rw[if_neg q,if_neg q];exact Paired.snoc r ⟨rfl,hb,ry⟩
def KT.keeps{H H':Hp}{kvs:List (List bE×V)}{xs:List (List bE×Addr×Value)}(r:KT H kvs xs)(ht:∀b ys,H b=some (.tup ys)->H' b=some (.tup ys)):KT H' kvs xs:=
 Paired.Eh r fun _ _ z=>⟨z.1,ht _ _ z.2.1,z.2.2⟩
section
variable {P:Program} {w:World} {H:Hp} {h:Heap} {a:Addr}
def t9{u:HO}(ok:BD P w H h)(e:Rd H a u):Az P w H h a u:=e.ok ok
def kg{kvs:List (bE×V)}(ok:BD P w H h)(e:Rd H a (.dK kvs)):kvs.length<=sizeLine/\(a == sysModules)=false/\∃vs,KV kvs vs/\h.DictOf (bh P w) a vs:=
 show Az P w H h a (.dK kvs)from t9 ok e
def t_{kvs:List (bE×V)}(ok:BD P w H h)(e:H a=some (.dK kvs)):kvs.length<=sizeLine/\(a == sysModules)=false/\∃vs,KV kvs vs/\h.DictOf (bh P w) a vs:=kg ok (.inl e)
def dD{ks:List bE}(ok:BD P w H h)(e:H a=some (.tup (ks.map kV))):(tupleKind (bh P w)).is h ks a:=by
 obtain⟨_,its,r,o,h1,_,h2,n,h3⟩:=(show Az P w H h a (.tup (ks.map kV))from ok a _ e)
 exact⟨o,its.toArray,n,h1,h2,h3,by simpa using kf r⟩
def lT{kvs:List (List bE×V)}(ok:BD P w H h)(e:Rd H a (.dT kvs)):kvs.length<=sizeLine/\(a == sysModules)=false/\
  ∃xs,KT H kvs xs/\h.DictOfH (tupleKind (bh P w)) a xs:=by
 obtain⟨z,y,xs,r,o,es,ep,h1,h2,h3,h4,h5⟩:=(show Az P w H h a (.dT kvs)from t9 ok e)
 refine⟨z,y,xs,r,o,es,ep,h1,h2,h3,h4,fun x hx=>?_,h5⟩
 have all:∀{l:List (List bE×V)} {m:List (List bE×Addr×Value)},KT H l m->∀x∈m,(tupleKind (bh P w)).is h x.1 x.2.1:=by
  intro l m q
  induction q with
  |nil=>intro x hx;exact nomatch hx
  |@cons p q ps qs hq t ih=>
   intro x hx
   rcases HZ.mp hx with e|hx
   ·subst e
    exact dD ok (by rw[<-hq.1];exact hq.2.1)
   ·exact ih x hx
 exact all r x hx
def xi{kvs:List (List bE×V)}(ok:BD P w H h)(e:H a=some (.dT kvs)):kvs.length<=sizeLine/\(a == sysModules)=false/\
  ∃xs,KT H kvs xs/\h.DictOfH (tupleKind (bh P w)) a xs:=lT ok (.inl e)
end
def DGet(H:Hp)(a:Addr)(y:V)(r:Option V):Prop:=
 (∃kvs k,Rd H a (.dK kvs)/\y=kV k/\r=hU kvs k)\/∃kvs k b,Rd H a (.dT kvs)/\y = .ref b/\H b=some (.tup (k.map kV))/\r=hU kvs k
def Dy(H:Hp)(a:Addr)(y v:V)(H':Hp):Prop:=
 (∃kvs k,H a=some (.dK kvs)/\y=kV k/\kvs.length < sizeLine/\H'=upd H a (.dK (eQ kvs k v))) \/
 ∃kvs k b,H a=some (.dT kvs)/\y = .ref b/\H b=some (.tup (k.map kV))/\kvs.length < sizeLine/\H'=upd H a (.dT (eQ kvs k v))
theorem DGet.k{H:Hp}{a:Addr}{kvs:List (bE×V)}{k:bE}(e:H a=some (.dK kvs)):DGet H a (kV k) (hU kvs k):=.inl ⟨kvs,k,.inl e,rfl,rfl⟩
theorem Dy.k{H:Hp}{a:Addr}{kvs:List (bE×V)}{k:bE}{v:V}(e:H a=some (.dK kvs))(hl:kvs.length < sizeLine):Dy H a (kV k) v (upd H a (.dK (eQ kvs k v))):=.inl ⟨kvs,k,e,rfl,hl,rfl⟩
section
variable {X:Cx} {pins:Va} {σ:St} {H:Hp} {s:Shared} {a:Addr} {y v:V} {u r:Value} {o:Option V} {A:Around} {E:Vq}
def Inv.big(I:Inv X pins σ H s):sysModules < s.heap.objs.size:=by
 have h:mainGlobals < s.heap.objs.size:=(I.mod.glob.keeps I.bk).lt
 exact K2 (by decide) h
def oz{Q:Vq}(hu:A.units+1 < cLine)(I:Inv X pins σ H s)(g:DGet H a y (some v))(ry:RelV y u)(h:∀w' s',Inv X pins σ H s'->RelV v w'->Q w' s') :
  wpAny (model X.prog X.w) A (getItem (.ref a) u) Q E s:=by
 rcases g with⟨kvs,k,e,ey,l⟩|⟨kvs,k,b,e,ey,eb,l⟩
 ·subst ey
  obtain⟨z,hd,vs,rel,dd⟩:=kg I.hok e
  obtain⟨w',hw,rw'⟩:=RelO.some_of (v:=v) (o:=valueAt vs k) (by rw[l];exact rel.val k)
  exact wpAny_getItem_of (ke ry) dd.mapOf hw (h w' _ (I.tok _) rw')
 ·subst ey
  cases (show u=Value.ref b from ry)
  obtain⟨z,hd,xs,rel,dd⟩:=lT I.hok e
  obtain⟨w',hw,rw'⟩:=RelO.some_of (v:=v) (o:=(atKey xs k).map (·.2)) (by rw[l];exact rel.val k)
  obtain⟨p,hp,hp2⟩:=Jw.mp hw
  refine wpAny_getItem_heap (Kd hu) (dD I.hok eb) dd hp ?_
  rw[hp2]
  exact h w' _ (I.tok _) rw'
def xl{Q:Vq}(hu:A.units+1 < cLine)(I:Inv X pins σ H s)(g:DGet H a y o)(ry:RelV y u)(h:∀s',Inv X pins σ H s'->Q (.bool o.isSome) s') :
  wpAny (model X.prog X.w) A (compareOp .In u (.ref a)) Q E s:=by
 rcases g with⟨kvs,k,e,ey,l⟩|⟨kvs,k,b,e,ey,eb,l⟩
 ·subst ey
  obtain⟨z,hd,vs,rel,dd⟩:=kg I.hok e
  refine wpAny_in_of (ke ry) hd dd.mapOf ?_
  rw[<-(rel.val k).Bh,<-l]
  exact h _ (I.tok _)
 ·subst ey
  cases (show u=Value.ref b from ry)
  obtain⟨z,hd,xs,rel,dd⟩:=lT I.hok e
  refine wpAny_in_heap (Kd hu) (dD I.hok eb) hd dd ?_
  have q:=(rel.val k).Bh
  rw[La]at q
  rw[<-q,<-l]
  exact h _ (I.tok _)
def nH{Q:Vq}(hu:A.units+1 < cLine)(I:Inv X pins σ H s)(g:DGet H a y o)(ry:RelV y u)(h:∀s',Inv X pins σ H s'->Q (.bool (!o.isSome)) s') :
  wpAny (model X.prog X.w) A (compareOp .NotIn u (.ref a)) Q E s:=by
 rcases g with⟨kvs,k,e,ey,l⟩|⟨kvs,k,b,e,ey,eb,l⟩
 ·subst ey
  obtain⟨z,hd,vs,rel,dd⟩:=kg I.hok e
  refine wpAny_notIn_of (ke ry) hd dd.mapOf ?_
  rw[<-(rel.val k).Bh,<-l]
  exact h _ (I.tok _)
 ·subst ey
  cases (show u=Value.ref b from ry)
  obtain⟨z,hd,xs,rel,dd⟩:=lT I.hok e
  refine wpAny_notIn_heap (Kd hu) (dD I.hok eb) hd dd ?_
  have q:=(rel.val k).Bh
  rw[La]at q
  rw[<-q,<-l]
  exact h _ (I.tok _)
def kK{h':Heap}{t':Nat}{ob:HO}(I:Inv X pins σ H s)(mu:wD (H a))(hs:Heap.SameBut a s.heap h')(he:∃q,h'.get? a=some q)(new:Az X.prog X.w (upd H a ob) h' a ob) :
  Inv X pins σ (upd H a ob) { s with heap:=h',toks:=t' }:=
 I.write (x:=a) (e:=a) mu (.inl rfl) (fun b q hb z=>(hs.2 b hb).trans z) he new
def qh{P:Program}{w:World}{H':Hp}{h':Heap}{kvs:List (bE×V)}{vs:List (bE×Value)}(z:kvs.length<=sizeLine)(hd:(a == sysModules)=false)(rel:KV kvs vs)(dd:h'.DictOf (bh P w) a vs) :
  Az P w H' h' a (.dK kvs):=⟨z,hd,vs,rel,dd⟩
def oA{H':Hp}{Q:Unit->Shared->Prop}(hu:A.units+1 < cLine)(I:Inv X pins σ H s)(g:Dy H a y v H')(ry:RelV y u)(rv:RelV v r)(h:∀s',Inv X pins σ H' s'->Q () s') :
  wpAny (model X.prog X.w) A (setItem (.ref a) u r) Q E s:=by
 rcases g with⟨kvs,k,e,ey,l,eH⟩|⟨kvs,k,b,e,ey,eb,l,eH⟩
 ·subst ey eH
  obtain⟨z,hd,vs,rel,dd⟩:=t_ I.hok e
  have hz:vs.length<=sizeLine:=by rw[<-rel.length];exact z
  have hl:(eQ kvs k v).length<=sizeLine:=by have:=eR kvs k v;omega
  refine wpAny_setItem_pairs (hsz:=hz) (ke ry) dd fun h' Ep hs=>h _ ?_
  have he:∃q,h'.get? a=some q:=let ⟨q,_,_,hq,_⟩:=Ep;⟨q,hq⟩
  exact kK I (by rw[e];exact True.intro) hs he (qh hl hd (rel.put k rv) Ep)
 ·subst ey eH
  cases (show u=Value.ref b from ry)
  obtain⟨z,hd,xs,rel,dd⟩:=xi I.hok e
  have hz:xs.length<=sizeLine:=by rw[<-Paired.length rel];exact z
  have hl:(eQ kvs k v).length<=sizeLine:=by have:=eR kvs k v;omega
  refine wpAny_setItem_heap (hsz:=hz) (Kd hu) (dD I.hok eb) dd fun h' Ep hs=>h _ ?_
  obtain⟨q,es,ep,hq,h2,h3,h4,_,h5⟩:=Ep
  refine kK I (by rw[e];exact True.intro) hs ⟨q,hq⟩ ⟨hl,hd,_,(rel.put k eb rv).keeps fun c ys ec=>?_,q,es,ep,hq,h2,h3,h4,h5⟩
  rw[az (wC ec e (fun z=>nomatch z))]
  exact ec
end
section
variable {X:Cx} {pins:Va} {σ:St} {H:Hp} {s:Shared} {a:Addr} {kvs:List (bE×V)} {k:bE} {u:Value} {A:Around} {E:Vq}
def xq{Q:Vq}(I:Inv X pins σ H s)(e:Rd H a (.dK kvs))(h:∀t s',Inv X pins σ H s'->Q (.int kvs.length t) s'):wpAny (model X.prog X.w) A (call (.builtin "len") [.ref a]) Q E s:=by
 obtain⟨z,hd,vs,rel,dd⟩:=kg I.hok e
 refine call_len_dict hd dd (by rw[<-rel.length];rw[sizeLine_eq]at z;omega) ?_
 rw[<-rel.length]
 exact h _ _ (I.tok _)
end
def lU{X:Cx}{pins:Va}{σ:St}{H:Hp}{s:Shared}{a:Addr}{y:V}{o:Option V}(I:Inv X pins σ H s)(g:DGet H a y o):s.TypeIs (.ref a) "dict":=by
 rcases g with⟨kvs,k,e,_,_⟩|⟨kvs,k,b,e,_,_,_⟩
 ·obtain⟨_,_,vs,_,dd⟩:=kg I.hok e
  exact dd.typeIs
 ·obtain⟨_,_,xs,_,dd⟩:=lT I.hok e
  exact dd.typeIs
def qi{P:Program}{w:World}{H:Hp}(h:Heap)(hb:sysModules < h.objs.size):Az P w H (h.push { cls:=.type "dict",data:=.dict #[] }) h.objs.size (.dK []):=
 ⟨IM _,KW.mpr (J8 (Ik hb)),[],.nil,Heap.DictOf.new h⟩
noncomputable def kL:List (TE×TE)->St->Hp->(List (V×V)->Hp->Prop)->Prop
 |[],_,H,Q=>Q [] H
 |(tk,tv)::r,σ,H,Q=>tk σ H fun x H1=>tv σ H1 fun y H2=>kL r σ H2 fun ps H3=>Q ((x,y)::ps) H3
noncomputable abbrev VV:List (V×V)->List (Value×Value)->Prop:=Paired fun p q=>RelV p.1 q.1/\RelV p.2 q.2
def xu(X:Cx)(pos:Pos)(keys:List (Option Expr))(values:List Expr)(Cm:List (TE×TE)):Prop:=
 ∀(pins:Va) (s:Shared) (σ:St) (H:Hp) (Q:List (V×V)->Hp->Prop),Inv X pins σ H s->kL Cm σ H Q->
  wpAny (model X.prog X.w) X.A (evalPairs (pairTrees keys values X.env pos)) (fun vs s'=>∃ps H',Inv X pins σ H' s'/\VV ps vs/\Q ps H') X.xe s
def sN{X:Cx}{pos:Pos}:xu X pos [] [] []:=fun pins s σ H Q I h=>pairTrees_nil_walk ⟨[],H,I,.nil,h⟩
def qj{X:Cx}{pos:Pos}{k v:Expr}{ks:List (Option Expr)}{vs:List Expr}{tk tv:TE}{Cm:List (TE×TE)}(hk:PE X k tk)(hv:PE X v tv)(hr:xu X pos ks vs Cm) :
  xu X pos (some k::ks) (v::vs) ((tk,tv)::Cm):=fun pins s σ H Q I h=>
 pairTrees_cons_walk (Ak (hk pins s σ H _ I h) fun u s1 ⟨x,H1,I1,rx,q1⟩=>Ak (hv pins s1 σ H1 _ I1 q1) fun w2 s2 ⟨y,H2,I2,ry,q2⟩=>
  Ak (hr pins s2 σ H2 _ I2 q2) fun ws s3 ⟨ps,H3,I3,rel,q3⟩=>⟨(x,y)::ps,H3,I3,.cons ⟨rx,ry⟩ rel,q3⟩)
noncomputable def hV(kvs more:List (bE×V)):List (bE×V):=more.foldl (fun acc kv=>eQ acc kv.1 kv.2) kvs
def KV.merge:∀{more:List (bE×V)} {rs:List (bE×Value)} {kvs:List (bE×V)} {vs:List (bE×Value)},KV more rs->KV kvs vs->KV (hV kvs more) (merged vs rs):=by
 intro more rs kvs vs r
 unfold KV at r
 induction r generalizing kvs vs with
 |nil=>intro q;exact q
 |@cons p q ps qs h t ih=>
  intro r0
  have e:KV (eQ kvs p.1 p.2) (stored vs q.1 q.2):=by
   have:=r0.put p.1 h.2
   rw[<-h.1];exact this
  exact ih e
theorem fL:∀(more kvs:List (bE×V)),(hV kvs more).length<=kvs.length+more.length
 |[],kvs=>by show kvs.length<=kvs.length+0;omega
 |p::r,kvs=>by
  have h1:=fL r (eQ kvs p.1 p.2)
  have h2:=eR kvs p.1 p.2
  show(hV (eQ kvs p.1 p.2) r).length<=_
  rw[Ic];omega
theorem i5{P:Program}{w:World}:∀{kvs:List (bE×V)} {ws:List (Value×Value)},VV (kvs.map fun kv=>(kV kv.1,kv.2)) ws->∃rs,Carries (bh P w) ws rs/\KV kvs rs
 |[],_,r=>by rw[Ku]at r;cases r;exact⟨[],True.intro,.nil⟩
 |p::kvs,_,r=>by
  rw[Ir]at r
  cases r with
  |@cons a b as bs h t=>
   obtain⟨rs,c,q⟩:=i5 (P:=P) (w:=w) t
   obtain⟨b1,b2⟩:=b
   exact⟨(p.1,b2)::rs,⟨ke h.1,rfl,c⟩,.cons ⟨rfl,h.2⟩ q⟩
def xv(Cm:List (TE×TE)):TE:=fun σ H Q=>∀p,H p=none->kL Cm σ (upd H p (.dK [])) fun ps H2=>H2 p=some (.dK [])/\∃kvs:List (bE×V),ps=kvs.map (fun kv=>(kV kv.1,kv.2))/\kvs.length<=15/\Q (.ref p) (upd H2 p (.dK (hV [] kvs)))
def sO{X:Cx}{pos:Pos}{keys:List (Option Expr)}{values:List Expr}{Cm:List (TE×TE)}(h:xu X pos keys values Cm)(hall:keys.all (·.isSome)=true)(hl:keys.length=values.length)(h0:keys≠[])
  (FK:keys.length<=15):PE X (.Dict keys values pos) (xv Cm):=by
 intro pins s σ H Q I q
 have hn:=I.hok.fresh (HN s.heap.objs.size)
 have I1:=I.laid (a:=s.heap.objs.size) (o:=.dK []) (h':=s.heap.push { cls:=.type "dict",data:=.dict #[] }) (t':=s.toks) (fun _ _ q=>HM _ q) (HN _) (qi s.heap I.big)
 refine wpAny_Dict_walk (knd:=bh X.prog X.w) hall hl h0 FK (Ak (h pins _ σ _ _ I1 (q _ hn)) fun ws s2 ⟨ps,H2,I2,rel,e,kvs,ep,lk,q2⟩=>?_)
 subst ep
 obtain⟨rs,c,rk⟩:=i5 (P:=X.prog) (w:=X.w) rel
 obtain⟨z,hd,vs0,r0,dd⟩:=t_ I2.hok e
 cases r0
 refine⟨rs,c,dd,fun h' Ep hs=>⟨.ref s.heap.objs.size,_,?_,rfl,q2⟩⟩
 have hz:(hV [] kvs).length<=sizeLine:=by
  have h1:=fL kvs []
  rw[Jh]at h1
  rw[sizeLine_eq];omega
 have he:∃q,h'.get? s.heap.objs.size=some q:=let ⟨q,_,_,hq,_⟩:=Ep;⟨q,hq⟩
 exact kK I2 (by rw[e];exact True.intro) hs he (qh hz hd (rk.merge .nil) Ep)
end L2
namespace Att
open PySem PySem.W PySem.Calls PyProof.Rows
def iO{P:Params}{h:Heap}:∀(ns:Vu) (vs:Vv),WellAll P h vs (ns.map WData.int)->IntsAre vs ns:=by
 intro ns
 induction ns with
 |nil=>
  intro vs w
  rw[Ku]at w
  cases w
  exact .nil
 |cons n ns ih=>
  intro vs w
  rw[Ir]at w
  cases w with
  |cons a b=>
   cases a
   exact .cons _ _ (ih _ b)
def oB{l:OpenLaw}{n:Nat}(hn:l.most=some n){P:Params}{h:Heap}{args:List WData}{vals:Vv}
  (hpre:l.row.toRowW.claim.pre args=true) (hwl:WellAll P h vals args) :
  ∃a vs ns,vals=[Value.ref a]/\args=[WData.list (ns.map WData.int)]/\h.get? a=some { cls:=.type "list",data:=.seq vs.toArray }/\IntsAre vs ns/\ns.length<=n:=by
 have hsh:WShape.hasAll [] args [.list .int]=true:=(pre_splitW hpre).1
 have hc:l.pre.holds [] { args:=args }=true:=(pre_splitW hpre).2
 obtain⟨d,r,rfl,h1,h2⟩:=hasAllW_cons hsh
 obtain rfl:=hasAllW_nil h2
 obtain⟨xs,rfl,h3⟩:=hasW_list h1
 obtain⟨ns,rfl⟩:=items_int h3
 have hlen:ns.length<=n:=by
  unfold OpenLaw.pre at hc
  have h4:(WTm.not (.lt (.lit (.int (n:Int))) (.len (.arg 0)))).holds [] { args:=[.list (ns.map .int)] }=true:=by
   have h4:=(holds_andW hc).1
   rw[hn]at h4
   exact h4
  have h5:=condW_of h4 (w_not (w_lt w_lit (w_len_list (w_arg rfl))))
  rw[HQ]at h5
  refine Nat.le_of_not_lt fun q=>?_
  have q':(n:Int) < ((ns.length:Nat):Int):=by omega
  first
   |(rw[K7 q']at h5;exact absurd h5 (by decide))
   |(simp at h5;omega)
 cases hwl with
 |cons w1 w2=>
  cases w2
  cases w1 with
  |list ho hall=>exact⟨_,_,ns,rfl,rfl,ho,iO ns _ hall,hlen⟩
def oC(l:OpenLaw)(args:List WData):l.row.toRowW.claim.post args (.bool true) args=true:=
 postW_of (r:=l.row.toRowW) (X:=(true == true))
  (show WShape.has [] (.bool true) .bool=true by first|rfl|decide|simp[WShape.has,WShape.arms,WShape.armsAll])
  (show(WTm.eq .res (.lit (.bool true))).value [] { args:=args,res:=some (.bool true),after:=args }=some (.bool (true == true))from w_eq_bool (w_res rfl) w_lit) rfl
def lV{l:OpenLaw}{n:Nat}{q:Program}{loose:Vs}{XP:(Vr)->Heap->Prop}{YP:World->Heap->Prop}{d:DefRec}
  (hn:l.most=some n) (hdf:d.params.defaults=[])
  (call:∀(w:World) (s₀ s₁:Shared) (mg mb:Vr) (fa:Addr) (o:Obj) (pm cd doc:Value) (a:Addr) (vs:Vv) (ns:Vu),
   Ground q loose [] XP w s₀ mg mb s₁.heap->YP w s₁.heap->
   s₁.heap.get? fa=some o->o.data = .func (docDef d.name d.params d.body d.scope pm cd doc)->s₁.heap.CodeRec cd d.name->mg d.name=some (.ref fa)->
   s₁.heap.get? a=some { cls:=.type "list",data:=.seq vs.toArray }->IntsAre vs ns->ns.length<=n->s₁.gens=#[]->
   codeAny (model l.prog w) callerA (.call (.ref fa) ⟨[.ref a],[]⟩) (fun r s'=>r = .ok (.ret (.bool true))/\OldK s₁.heap s'.heap/\s'.os=s₁.os/\AllBare s'.gens) s₁) :
  WalkO q loose XP YP l.row.toRowW d [] (fun f vs=>PySem.call f vs):=by
 intro w s₀ s₁ mg mb G Y fa o pm cd doc dV kV ho hd hcd hD hmg hg args vals as hpre hlay hrd hwl hlo
 obtain rfl:dV = .none:=Dflts.none hD hdf
 obtain rfl:kV = .none:=Dflts.noKw hD
 obtain⟨a,vs,ns,rfl,rfl,hobj,hints,hlen⟩:=oB hn hpre hwl
 refine enter_call (codeAny_mono (call w s₀ s₁ mg mb fa o pm cd doc a vs ns G Y ho (fd_plain hd) hcd hmg hobj hints hlen hg) fun r s' hq=>?_)
 obtain⟨rfl,h2,h3,h4⟩:=hq
 exact⟨.inl ⟨.bool true,.bool true,[],rfl,fun _=>rfl,.bool true,oC l _,fun _=>⟨List.Pairwise.nil,fun _ hm=>(nomatch hm)⟩⟩,h2,h3,h4⟩
end Att
namespace L2
open PySem PySem.Spec PyProof.Rows
theorem kh:∀{vs:Vv} {ns:Vu},IntsAre vs ns->Vals (ns.map V.int) vs
 |_,_,.nil=>.nil
 |_,_,.cons n t h=>.cons ⟨t,rfl⟩ (kh h)
def sP(H:Hp):Prop:=∀b,H b=none\/∃o xs,H b=some (.frz o (.lst xs))
def qk{P:Program}{w:World}{K:Vo}{mg mb:Vr}{CX:r6}{k:Nat}{fa a:Addr}{fd:FuncData}{x:Str}{sp:Sp}{s₁:Shared}{vs:Vv}{ns:Vu}
  (KX:K.In s₁.heap) (hns:s₁.heap.Ns mainGlobals mg) (hb:s₁.heap.Ns builtinsNs mb) (G2:∀x:Str,x ≠ "__name__"->mb x=bootBuiltins x) (hlim:s₁.heap.NoLimit) (hg:s₁.gens=#[])
  (ha:s₁.heap.get? a=some { cls:=.type "list",data:=.seq vs.toArray }) (hi:IntsAre vs ns) (hl:ns.length<=sizeLine) (hr:Room k callerA)
  (F:∀base:Heap,K.In base->base.Ns mainGlobals mg->kF P w K mg base CX k fa fd [x] sp) (hbind:∀(s:Shared) (u:Value),BindsTo s fd ⟨[u],[]⟩ [(x,u)])
  (Ec:∀H:Hp,sP H->SqL K H a (ns.map V.int)->sp [.ref a] H (fun v _=>v = .bl true) fun _ _ _=>False)
  (FL:∀H e s',CX [] H s₁ (fun _ _ _=>False) e s'->False) :
  codeAny (model P w) callerA (.call (.ref fa) ⟨[.ref a],[]⟩) (fun r s'=>r = .ok (.ret (.bool true))/\OldK s₁.heap s'.heap/\s'.os=s₁.os/\AllBare s'.gens) s₁:=by
 have rv:=kh hi
 have FM:=hi.length
 -- from an abstract heap in which nothing but the script may be tracked
 have core:∀H:Hp,sP H->SqL K H a (ns.map V.int)->BD P w H s₁.heap->(∀b,H b≠none->b=a)->(H a≠none->K.lookup a=none)->
   codeAny (model P w) callerA (.call (.ref fa) ⟨[.ref a],[]⟩) (fun r s'=>r = .ok (.ret (.bool true))/\OldK s₁.heap s'.heap/\s'.os=s₁.os/\AllBare s'.gens) s₁:=by
  intro H hO hS hok hA hK
  have Dk:∀{b:Addr} {o:Obj},s₁.heap.get? b=some o->H b=none->(kE s₁.heap H).get? b=some o:=fun e n=>pL e n
  have EY:∀{b:Addr} {o:Obj} {es:Array DictEntry} {ep:Nat},s₁.heap.get? b=some o->o.data = .dict es ep->H b=none:=fun{b o es ep} e d=>by
   cases q:H b with
   |none=>rfl
   |some u=>
    have e':b=a:=hA b (by rw[q];simp)
    subst e'
    rw[ha]at e;cases e
    have d':Data.seq vs.toArray _=Data.dict es ep:=d
    cases d'
  have Fl:∀{b:Addr} {m:Vr},s₁.heap.Ns b m->(kE s₁.heap H).Ns b m:=fun{b m} ⟨o,es,ep,e,d,r⟩=>⟨o,es,ep,Dk e (EY e d),d,r⟩
  have Gs:K.In (kE s₁.heap H):=fun b o e=>Dk (KX b o e) (by
   cases q:H b with
   |none=>rfl
   |some u=>
    have e':b=a:=hA b (by rw[q];simp)
    subst e'
    rw[hK (by rw[q];simp)]at e;cases e)
  have hM:Mod K mg (kE s₁.heap H):=⟨Gs,Fl hns,⟨mb,Fl hb,G2⟩,let ⟨mc,h1,h2⟩:=hlim;⟨mc,Fl h1,h2⟩⟩
  have e0:sD P w K mg (kE s₁.heap H) callerA [] s₁ H:=⟨rfl,hM,fun b o e=>sg e,Nat.le_of_eq (ol _ _),trivial,fun b hb=>absurd (show b∈([]:List Addr)from hb) (by simp),hok,.of_eq hg⟩
  refine codeAny_mono ((F _ Gs (Fl hns)).run callerA [] s₁ H ⟨[.ref a],[]⟩ [.ref a] [.ref a] _ _ hr e0 (hbind s₁ (.ref a)) (.cons rfl .nil) (Ec H hO hS)) fun r s' h=>?_
  cases r with
  |error e=>exact(FL H e s' h).elim
  |ok fl=>
   cases fl with
   |next=>exact False.elim h
   |brk=>exact False.elim h
   |cont=>exact False.elim h
   |ret u=>
    obtain⟨v,H',os,bare,un,FN,r',q⟩:=h
    have q':v = .bl true:=q
    subst q'
    obtain rfl:u=Value.bool true:=r'
    refine⟨rfl,OldK.of_keep fun b o e=>?_,os,bare⟩
    cases q:H b with
    |none=>exact un.keep b o e q (by intro z;exact absurd (show b∈([]:List Addr)from z) (by simp)) (by simp)
    |some u=>
     rcases hO b with z|⟨ob,xs,z⟩
     ·rw[q]at z;cases z
     ·have z2:=un.CH b ob _ z
      obtain⟨e1,_⟩:=hok b _ z
      obtain⟨e2,_⟩:=FN b _ z2
      rw[e]at e1;cases e1
      exact e2
 cases hk:K.lookup a with
 |some o=>
  -- the script is one of the module's own objects
  have e:=KX a o hk
  rw[ha]at e
  cases e
  refine core (fun _=>none) (fun _=>.inl rfl) (.inr ⟨_,vs.toArray,_,hk,rfl,rfl,rfl,by rw[HU,FM];exact hl,by simpa using rv⟩) (fun b u z=>by have z':(none:Option HO)=some u:=z;cases z') (fun b z=>absurd rfl z) fun z=>absurd rfl z
 |none=>
  refine core (fun b=>if b=a then some (.frz { cls:=.type "list",data:=.seq vs.toArray } (.lst (ns.map V.int))) else none) (fun b=>?_) (.inl (.inr ⟨{ cls:=.type "list",data:=.seq vs.toArray },if_pos rfl⟩)) (fun b u z=>?_) (fun b z=>?_) fun _=>hk
  ·by_cases hb:b=a
   ·exact .inr ⟨_,_,if_pos hb⟩
   ·exact .inl (if_neg hb)
  ·by_cases hb:b=a
   ·have z':=(if_pos hb).symm.trans z
    cases z'
    subst hb
    exact⟨ha,by rw[HQ];exact hl,vs,_,rv,ha⟩
   ·have z':=(if_neg hb).symm.trans z
    cases z'
  ·by_cases hb:b=a
   ·exact hb
   ·exact absurd (if_neg hb) z
def sQ{l:PySem.W.OpenLaw}{n k:Nat}{q:Program}{loose:Vs}{XP:(Vr)->Heap->Prop}{YP:World->Heap->Prop}{d:DefRec}{K:Params->PySem.W.Frag}{CX:World->r6}{sp:World->Sp}{x:Str}
  (hn:l.most=some n) (hn2:n<=sizeLine) (hdf:d.params.defaults=[]) (hr:Room k callerA)
  (hY:∀(w:World) (h:Heap),YP w h->(K w.params).In h)
  (F:∀(w:World) (mg:Vr) (fa:Addr) (h:Heap),(K w.params).In h->h.Ns mainGlobals mg->mg d.name=some (.ref fa)->
   ∃fd:FuncData,(∀(s:Shared) (u:Value),BindsTo s fd ⟨[u],[]⟩ [(x,u)])/\
    ∀base:Heap,(K w.params).In base->base.Ns mainGlobals mg->kF l.prog w (K w.params) mg base (CX w) k fa fd [x] (sp w))
  (Ec:∀(w:World) (H:Hp) (a:Addr) (ns:Vu),ns.length<=n->sP H->SqL (K w.params) H a (ns.map V.int)->sp w [.ref a] H (fun v _=>v = .bl true) fun _ _ _=>False)
  (FL:∀(w:World) (H:Hp) (s:Shared) (e:Value) (s':Shared),CX w [] H s (fun _ _ _=>False) e s'->False) :
  PySem.W.WalkO q loose XP YP l.row.toRowW d [] (fun f vs=>PySem.call f vs):=by
 refine Att.lV hn hdf fun w s₀ s₁ mg mb fa o pm cd doc a vs ns G Y ho hd hcd hmg hobj hints hlen hg=>?_
 have KX:=hY w _ Y
 obtain⟨fd,hb,hF⟩:=F w mg fa _ KX G.T.g hmg
 exact qk KX G.T.g G.T.b G.T.builtins G.T.nolimit hg hobj hints (Ib hlen hn2) hr hF hb (fun H hO hS=>Ec w H a ns hlen hO hS) fun H e s'=>FL w H s₁ e s'
noncomputable def cM(s:Stmt):Arguments:=match s with
 | .FunctionDef _ a _ _ _ _ _ _ _ _=>a
 |_=>{ posonlyargs:=[],args:=[],vararg:=none,kwonlyargs:=[],kw_defaults:=[],kwarg:=none,defaults:=[] }
noncomputable def bJ(s:Stmt):List Stmt:=match s with
 | .FunctionDef _ _ b _ _ _ _ _ _ _=>b
 |_=>[]
noncomputable def aH(s:Stmt):Scope:=match s with
 | .FunctionDef _ _ _ _ _ _ sc _ _ _=>sc
 |_=>{ kind:=.function,names:=[],isGenerator:=false,isCoroutine:=false }
noncomputable abbrev ua:r6:=fun _ _ _ _ _ _=>False
noncomputable abbrev E0:XK:=fun _ _ _=>False
def xx{X:Cx}:mN ua X E0:=fun _ _ _ _ _ _ _ h=>h.elim
structure Ed (K:Vo) (x qual:Str) (st:Stmt) (f:Addr) (fd:FuncData):Prop where
 ex:∃(oc:Value) (od:Option Addr) (kV doc pm:Value) (an:Option Addr) (cdv ct:Value) (osl:Array (Option Value)),
  fd=PySem.W.fnOf x qual (cM st) (bJ st) (aH st) .none kV doc pm an cdv ct/\K.lookup f=some ⟨oc,od,.func fd,osl⟩/\PySem.W.codeIn K cdv qual=true
 kp:PySem.W.keepIn K (.ref f)=true
section
variable {P:Program} {w:World} {K:Vo} {mg:Vr} {base:Heap}
def Ed.ok{x qual:Str}{st:Stmt}{f:Addr}{fd:FuncData}{N ps:Vs}{k:Nat}{sp:Sp}(F:Ed K x qual st f fd)(S:fx N ps (aH st))(len:∀vs H Q E,sp vs H Q E->vs.length=ps.length)
  (hbody:∀(cdv:Value) (A:Around) (outer:List Env) (s:Shared) (H:Hp) (vs:List V) (Q:VK) (E:XK),Room k (A.deeper (envOfC qual (aH st) s.heap.objs.size f cdv))->sp vs H Q E->
   ∃t,C9 (mO ua P w K mg base N qual (aH st) f cdv A outer s H E).EX (bJ st) t/\t { nx:=fun _ H'=>Q .non H',rt:=Q } (eP N vs) H):kF P w K mg base ua (k+1) f fd ps sp:=by
 obtain⟨oc,od,kV,doc,pm,an,cdv,ct,osl,rfl,lk,hcd⟩:=F.ex
 refine wY lk hcd S len fun A outer s H vs Q E hr Ec=>?_
 obtain⟨t,h,q⟩:=hbody cdv A outer s H vs Q E hr Ec
 exact⟨t,h.EX,q⟩
def Ed.binds{x qual:Str}{st:Stmt}{f:Addr}{fd:FuncData}{ps:Vs}(F:Ed K x qual st f fd)
  (h:∀(kV doc pm:Value) (an:Option Addr) (cdv ct:Value) (us:Vv),us.length=ps.length->bindArgs (PySem.W.fnOf x qual (cM st) (bJ st) (aH st) .none kV doc pm an cdv ct) ⟨us,[]⟩=pure (ps.zip us)):Binds K fd ps []:=by
 obtain⟨oc,od,kV,doc,pm,an,cdv,ct,osl,rfl,lk,hcd⟩:=F.ex
 exact .all (h kV doc pm an cdv ct)
def kM{x qual:Str}{st:Stmt}{f:Addr}{oc:Value}{od an:Option Addr}{osl:Array (Option Value)}{kV doc pm cdv ct:Value}(l:K.lookup f=some ⟨oc,od,.func (PySem.W.fnOf x qual (cM st) (bJ st) (aH st) .none kV doc pm an cdv ct),osl⟩)
  (c:PySem.W.codeIn K cdv qual=true) (k:PySem.W.keepIn K (.ref f)=true):Ed K x qual st f (PySem.W.fnOf x qual (cM st) (bJ st) (aH st) .none kV doc pm an cdv ct):=⟨⟨oc,od,kV,doc,pm,an,cdv,ct,osl,rfl,l,c⟩,k⟩
end
def dg{n:Nat}(h:n<=1000):n < sizeLine:=Ke h (by decide)
section
variable {X:Cx}
def oD:fJ X (.builtin "len") (fun xs H Q=>∃a kvs,xs=[V.ref a]/\H a=some (.dK kvs)/\Q (.int kvs.length) H):=by
 intro pins s σ H xs us Q I r h
 obtain⟨a,kvs,rfl,ha,q⟩:=h
 obtain⟨u,rfl,ru⟩:=gv r
 cases ru
 exact xq I (.inl ha) fun t s' I'=>⟨.int kvs.length,H,I',⟨t,rfl⟩,q⟩
end
end L2
set_option maxHeartbeats 4000000
namespace L2
open PySem PySem.Spec PyProof.Rows
def kN{prog:Program}{w:World}{A:Around}{R:Result->Shared->Prop}{s:Shared}{elt target iter:Expr}{ifs:List Expr}{scope:Scope}{pos:Pos}{it acc:Value}{env:Env}(I:Nat->Shared->Prop)
  (turn:∀n s,I n s->wpAny (model prog w) A (pyNext it) (fun r s₁=>match r with
   |none=>R (.ok .next) s₁
   |some v=>wpAny (model prog w) A (letOwnedTupleGo target it v) (fun _ s₁'=>wpAny (model prog w) A (assign target env v) (fun _ s₂=>
     wpAny (model prog w) A (forIn ifs true fun c r=>if r=true then do let ok <-isTrue c env (eval c env);pure (ForInStep.yield ok) else pure (ForInStep.yield r)) (fun ok s₃=>
      if ok=true then wpAny (model prog w) A (eval elt env) (fun x s₄=>
       wpAny (model prog w) A (call (.builtin "list.append") [acc,x]) (fun _ s₅=>∃m,m < n/\I m s₅) (fun _ _=>False) s₄) (fun _ _=>False) s₃
      else ∃m,m < n/\I m s₃) (fun _ _=>False) s₂) (fun _ _=>False) s₁') (fun _ _=>False) s₁) (fun _ _=>False) s)
  (n:Nat) (h:I n s) :
  codeAny (model prog w) A (.compLoop (.ListComp elt [⟨target,iter,ifs,0⟩] scope pos) 0 it acc env) R s:=by
 refine codeAny_loop rfl I (fun n s hI=>?_) n h
 show wpAny _ A ((compTurn (.ListComp elt [⟨target,iter,ifs,0⟩] scope pos) 0 it acc env).onRaise (fun x=>do noteFrame x env;theTreesLotGoes x)) _ _ s
 refine wpAny_noted ?_
 rw[compTurn_list]
 refine HL (wpAny_standAt (HL (JL (turn n s hI) (fun r s₁ h₁=>?_) fun _ _ h'=>h'.elim)))
 cases r with
 |none=>exact HS h₁
 |some v=>
  refine HL (JL h₁ (fun _ s₁' h₁'=>?_) fun _ _ h'=>h'.elim)
  refine HL (JL h₁' (fun _ s₂ h₂=>HL (JL h₂ (fun ok s₃ h₃=>?_) fun _ _ h'=>h'.elim)) fun _ _ h'=>h'.elim)
  cases ok with
  |false=>exact HS ⟨rfl,h₃⟩
  |true=>
   exact HL (HL (JL h₃ (fun x s₄ h₄=>HL (JL h₄ (fun _ s₅ h₅=>HS (HS ⟨rfl,h₅⟩)) fun _ _ h'=>h'.elim)) fun _ _ h'=>h'.elim))
structure Bk where
 C:Addr
 s:Shared
 H:Hp
 fp:List Addr
 pn:Va
noncomputable def bX(env:Env)(fs:Vs):List (Str×Addr):=fs.map fun x=>(x,(env.cells.lookup x).getD 0)
noncomputable abbrev Cx.BE(X:Cx)(N:Vs)(scope:Scope)(fs:Vs)(B:Bk):Cx:=
 { X with N:=N,s₀:=B.s,H₀:=B.H,env:=compEnvC scope (bX X.env fs) B.C X.env,outer:=X.stack,ex:=B.fp,fn:=fun _=>false,pn:=B.pn,xe:=fun _ _=>False }
noncomputable def bP(env:Env):List Str->Prop
 |[]=>True
 |x::r=>(∃c,env.cells.lookup x=some c)/\bP env r
theorem iD{env:Env}:∀{fs:Vs},bP env fs->∀{x:Str} {c:Addr},(bX env fs).lookup x=some c->env.cells.lookup x=some c
 |[],_,x,c,h=>by cases h
 |y::r,k,x,c,h=>by
  obtain⟨⟨d,hd⟩,k⟩:=k
  have h':List.lookup x ((y,(env.cells.lookup y).getD 0)::bX env r)=some c:=h
  rw[List.lookup_cons]at h'
  cases e:x == y with
  |true=>
   rw[e]at h'
   have e':x=y:=by simpa using e
   subst e'
   rw[hd]at h'
   rw[hd]
   exact h'
  |false=>
   rw[e]at h'
   exact iD k h'
noncomputable def kO(names:List (Str×NameKind))(cl:List (Str×Addr)):Bool:=names.all fun y=>(y.2 != .cell&&y.2 != .free) || (cl.lookup y.1).isSome
def qm{names:List (Str×NameKind)}{cl:List (Str×Addr)}{x:Str}{k:NameKind}(h:kO names cl=true)(e:names.lookup x=some k)(hk:k = .cell\/k = .free):∃c,cl.lookup x=some c:=by
 have hm:(x,k)∈names:=Jv e
 have q:=I9.mp h _ hm
 have z:(cl.lookup x).isSome=true:=by
  rcases hk with rfl|rfl
  ·simpa using q
  ·simpa using q
 exact Option.isSome_iff_exists.mp z
noncomputable def AN(env:Env)(scope:Scope)(cl:List (Str×Addr)):List Str->Prop
 |[]=>True
 |x::r=>((env.scope.names.lookup x=some .cell\/env.scope.names.lookup x=some .free)/\((relabel scope env).names.lookup x=some .cell\/(relabel scope env).names.lookup x=some .free)/\cl.lookup x=env.cells.lookup x)/\AN env scope cl r
theorem AN.mem{env:Env}{scope:Scope}{cl:List (Str×Addr)}:∀{l:Vs},AN env scope cl l->∀x∈l,
  (env.scope.names.lookup x=some .cell\/env.scope.names.lookup x=some .free)/\((relabel scope env).names.lookup x=some .cell\/(relabel scope env).names.lookup x=some .free)/\cl.lookup x=env.cells.lookup x
 |[],_,x,h=>nomatch h
 |y::r,k,x,h=>by
  rcases HZ.mp h with rfl|h
  ·exact k.1
  ·exact AN.mem k.2 x h
noncomputable def dh(own:Nat)(fr:List Nat)(σ:St):St:=List.replicate own none++fr.map fun j=>(σ[j]?).getD none
noncomputable abbrev hW(us:Vv):Obj:={ cls:=.type "list",data:=.seq us.toArray us.length }
def oE(us:Vv)(u:Value):({ cls:=.type "list",data:=.seq (us.toArray.push u) (us.length+1) }:Obj)=hW (us++[u]):=by
 show({ cls:=.type "list",data:=.seq (us.toArray.push u) (us.length+1) }:Obj)={ cls:=.type "list",data:=.seq (us++[u]).toArray (us++[u]).length }
 rw[HY,Jk,List.push_toArray]
section
variable {X:Cx} {pins:Va} {σ:St} {H:Hp} {s:Shared}
def Inv.E2{D:Addr}{us:Vv}{n:Nat}{ys:List V}(I:Inv X pins σ H s)(f:eN X pins H D)(e:s.heap.get? D=some { cls:=.type "list",data:=.seq us.toArray n })(r:Vals ys us)(hz:ys.length<=sizeLine) :
  Inv X pins σ (upd H D (.lst ys)) s:=by
 obtain⟨f0,f1,f2,f3,f4,f5⟩:=f
 have nD:∀b u,H b=some u->b≠D:=fun b u q=>aM q f0
 have hok:BD X.prog X.w (upd H D (.lst ys)) s.heap:=fun b u q=>by
  by_cases hb:b=D
  ·subst hb
   rw[aA]at q
   cases q
   exact⟨hz,us,n,r,e⟩
  ·rw[az hb]at q
   exact(I.hok b u q).stay (fun _ _ _ z=>z) (fun c z=>by rw[az (nD c _ z)];exact z) fun c xs z=>by rw[az (nD c _ z)];exact z
 exact I.step (H':=upd H D (.lst ys)) (h':=s.heap) (g':=s.gens) (t':=s.toks) (d':=s.drawn) (ch:=[D])
  (fun b hb=>by
   have z:b=D:=by simpa using hb
   subst z
   exact⟨f3,f1,f4,f5⟩)
  (fun _ _ _ _ _ q _=>q) (fun _ o _ _ _ q _=>⟨o.slots,q⟩)
  (fun b o hb _ n=>by rw[az (fun z=>hb (by simp[z]))];exact n)
  (fun _ o _ q=>⟨o,q⟩) (fun b xs q=>by rw[az (nD b _ q)];exact q) (fun b o u q=>by rw[az (nD b _ q)];exact q)
  (fun b ps q=>⟨#[],by rw[az (nD b _ q),q];simp⟩) (fun _ q=>q) hok I.bare
def vb{N:Vs}{scope:Scope}{fs:Vs}{C:Addr}{fp:List Addr}(I:Inv X pins σ H s)(hkind:scope.kind = .function)(hC:s.heap.objs.size<=C)(hcl:bP X.env fs)
  (hhas:kO (relabel scope X.env).names (bX X.env fs)=true) (hf:∀b∈fp,eN X pins H b) (hlt:∀b∈fp,b < s.heap.objs.size):(X.BE N scope fs ⟨C,s,H,fp,X.pn++pins⟩).Ok where
 mod:=I.ok.mod
 kind:=hkind
 glob:=I.ok.glob
 blt:=I.ok.blt
 above:=hC
 inj:=fun x y c h1 h2=>I.ok.inj x y c (iD hcl h1) (iD hcl h2)
 has:=fun x hx=>by
  rcases hx with e|e
  ·exact qm hhas e (.inl rfl)
  ·exact qm hhas e (.inr rfl)
 EG:=fun x c h=>by cases h
 hd:=I.ok.hd
 frames:=I.ok.frames
 stk:=.inl rfl
 FB:=fun b hb=>⟨Ik (HX (hlt b hb) hC),fun x c e=>(hf b hb).2.2.2.2.1 x c (iD hcl e)⟩
 bs:=I.bs
 DR:=Ib I.ok.DR I.sz
 Do:=fun b o e hb=>(hf b hb).2.2.2.1.elim (fun z=>I.ok.Do b o e z) fun z=>absurd (HX (HR e) (Ib I.ok.DR z)) (Jy _)
 Dx:=fun b hb z=>(HZ.mp (I.B5 b z)).elim (hf b hb).2.1 (hf b hb).2.2.1
 Ci:=I.stack
 Ej:=I.Di
def sR{N:Vs}{scope:Scope}{fs:Vs}{C D:Addr}{fp:List Addr}{own:Nat}{fr:List Nat}{h₁:Heap}{m0:Vr}{t':Nat}(I:Inv X pins σ H s)
  (ok:(X.BE N scope fs ⟨C,s,H,fp,X.pn++pins⟩).Ok) (hC:s.heap.objs.size<=C) (hD:s.heap.objs.size<=D) (hDC:D≠C) (hcl:bP X.env fs)
  (old:∀b o,s.heap.get? b=some o->h₁.get? b=some o) (hns:h₁.Ns C m0) (hacc:h₁.get? D=some (hW [])) (hlen:N.length=own+fr.length) (hN:(N.drop own).map some=fr.map fun j=>X.N[j]?)
  (hF:AN X.env scope (bX X.env fs) (N.drop own)) :
  Inv (X.BE N scope fs ⟨C,s,H,fp,X.pn++pins⟩) [(D,hW [])] (dh own fr σ) H { s with heap:=h₁,toks:=t' }:=by
 refine⟨ok,rfl,I.bare,Un.kept old,⟨m0,hns,fun i x v e1 e2 e3=>?_⟩,fun x c e=>?_,I.hok.fresh hC,fun x c e=>I.Bs x c (iD hcl e),fun p hp=>?_,I.hok.kept old,?_⟩
 ·have e1:N[i]?=some x:=e1
  by_cases hi:i < own
  ·unfold dh at e2
   rw[IV (by rw[IF];exact hi),Jt,if_pos hi]at e2
   cases e2
  ·obtain⟨k,rfl⟩:∃k,i=own+k:=⟨i - own,by omega⟩
   have e1':(N.drop own)[k]?=some x:=by rw[Kf];exact e1
   have q:=IS (fun l=>l[k]?) hN
   simp only[Ia,e1',Option.map_some]at q
   unfold dh at e2
   rw[Jc (by rw[IF];omega),IF,Nat.add_sub_cancel_left,Ia]at e2
   cases hj:fr[k]? with
   |none=>rw[hj]at e2;cases e2
   |some j=>
    rw[hj]at e2 q
    simp only[Option.map_some,Option.some.injEq]at e2 q
    have hσ:σ[j]?=some (some v):=by
     cases z:σ[j]? with
     |none=>rw[z]at e2;cases e2
     |some w=>rw[z]at e2;simp only[Option.getD_some]at e2;rw[e2]
    obtain⟨k1,k2,k3⟩:=hF.mem x (IU e1')
    obtain⟨m,hn,hl⟩:=I.loc
    have vis:yo X.env.scope x:=by
     rcases k1 with z|z
     ·exact .inr (.inl z)
     ·exact .inr (.inr z)
    obtain⟨u,ru,l⟩:=hl j x v q.symm hσ vis
    rcases l with⟨hk,_⟩|⟨_,c,hc,o,ho,hd⟩
    ·have hk':X.env.scope.names.lookup x=some .local:=hk
     rcases k1 with z|z
     ·rw[z]at hk';cases hk'
     ·rw[z]at hk';cases hk'
    ·exact⟨u,ru,.inr ⟨k2,c,k3.trans hc,o,old _ _ ho,hd⟩⟩
 ·obtain⟨v,o,ho,hd⟩:=I.cell x c (iD hcl e)
  exact⟨v,o,old _ _ ho,hd⟩
 ·rcases Iu.mp hp with z|z
  ·obtain⟨e,n,ne,nf,d⟩:=I.pin p z
   exact⟨old _ _ e,n,Ik (HX (HR e) hC),fun q=>(HZ.mp (I.B5 _ q)).elim ne nf,d⟩
  ·have z':p=(D,hW []):=by simpa using z
   subst z'
   exact⟨hacc,I.hok.fresh hD,hDC,fun q=>(HZ.mp (I.B5 _ q)).elim (fun e=>absurd e (JM (HX I.lt hD))) (I.ES hD),fun v z=>by cases z⟩
 ·show(dh own fr σ).length=N.length
  unfold dh
  rw[HY,IF,HQ,hlen]
end
def PF(X:Cx)(ifs:List Expr)(t:TT):Prop:=
 ∀(pins:Va) (s:Shared) (σ:St) (H:Hp) (Q:Bool->Hp->Prop),Inv X pins σ H s->t σ H Q->
  wpAny (model X.prog X.w) X.A (forIn ifs true fun c r=>if r=true then do let ok <-isTrue c X.env (eval c X.env);pure (ForInStep.yield ok) else pure (ForInStep.yield r)) (TP X pins σ Q) X.xe s
def y_:TT:=fun _ H Q=>Q true H
def vc{X:Cx}:PF X [] y_:=fun _ _ _ H _ I h=>wpAny_tests_nil ⟨H,I,h⟩
def vd{X:Cx}{c:Expr}{t:TT}(h:PT X c t):PF X [c] t:=fun pins s σ H Q I q=>wpAny_tests_one (h pins s σ H Q I q)
def ub(J:It)(g:TG)(tc:TT)(te:TE)(own:Nat)(σ':St)(fin:List V->Hp->Prop)(H1:Hp):Prop:=
 ∃W:Nat->Nat->List V->Hp->Prop,(∃m,W 0 m [] H1)/\∀i m ys H,W i m ys H->
  (J.stop i H/\ys.length<=sizeLine/\fin ys H) \/
  (J.go i H/\ys.length<=sizeLine/\∃Nx:List V->Hp->Prop,(∀ys' H',Nx ys' H'->∃m',m' < m/\W (i+1) m' ys' H')/\∀x H',J.Fk i H x H'->g x σ' H' fun σ2 H2=>σ2.drop own=σ'.drop own/\tc σ2 H2 fun b H3=>
   if b=true then te σ2 H3 fun y H4=>Nx (ys++[y]) H4 else Nx ys H3)
section
variable {X:Cx} {pins:Va} {σ:St} {H:Hp} {s:Shared}
variable {elt iter tg:Expr} {ifs:List Expr} {scope:Scope} {pos:Pos} {N:Vs} {own:Nat} {fr:List Nat} {fs:Vs} {g:TG} {tc:TT} {te:TE}
def i6{J:It}{fp:List Addr}{it:Addr}{tn:Nat->Heap->Prop}{fin:List V->Hp->Prop}{E:Vq}{RR:Value->Addr->Result->Shared->Prop}
  (hc:X.calm=true) (hcell:∀y∈scope.names,y.2 ≠ .cell) (hkind:scope.kind = .function) (hcl:bP X.env fs) (hhas:kO (relabel scope X.env).names (bX X.env fs)=true)
  (hlen:N.length=own+fr.length) (hN:(N.drop own).map some=fr.map fun j=>X.N[j]?) (hF:AN X.env scope (bX X.env fs) (N.drop own))
  (hg:∀B,PG (X.BE N scope fs B) tg g) (hf:∀B,PF (X.BE N scope fs B) ifs tc) (he:∀B,PE (X.BE N scope fs B) elt te)
  (I:Inv X pins σ H s) (T:lR X.prog X.w X.K tg J fp it tn) (st:tn 0 s.heap) (f:∀b∈fp,eN X pins H b) (W:ub J g tc te own (dh own fr σ) fin H)
  (hRR:∀D C s' ys H' m',Inv X pins σ (upd H' D (.lst ys)) s'->H' D=none->s'.heap.Ns C m'->eN X pins (upd H' D (.lst ys)) C->fin ys H'->RR (.ref D) C (.ok .next) s') :
  wpAny (model X.prog X.w) X.A (newList []) (fun acc s₃=>wpAny (model X.prog X.w) X.A (newFunctionEnv scope X.env.globals (bX X.env fs) [] X.env.qual none .none (some X.env)) (fun cenv s₄=>
   codeAny (model X.prog X.w) X.A (.compStart (.ListComp elt [⟨tg,iter,ifs,0⟩] scope pos) 0 (.ref it) acc { cenv with scope:=relabel scope X.env }) (RR acc cenv.locals) s₄) E s₃) E s:=by
 refine Jb (wpAny_newFunctionEnv hcell (by intro y hy;simp at hy) (fun h₁ Er DU=>?_) hkind)
 dsimp only at Er DU ⊢
 generalize FO:s.heap.push { cls:=.type "list",dict:=none,data:=.seq ([]:Vv).toArray }=H2 at Er DU ⊢
 have hC:H2.objs.size=s.heap.objs.size+1:=by rw[<-FO,IW]
 have Es:s.heap.objs.size<=H2.objs.size:=by rw[hC];exact Nat.le_succ _
 have hDC:s.heap.objs.size≠H2.objs.size:=by rw[hC];exact Ik (Nat.lt_succ_self _)
 have below:∀b,b < s.heap.objs.size->b≠H2.objs.size/\b≠s.heap.objs.size:=fun b hb=>⟨by rw[hC];exact Ik (Nat.lt_succ_of_lt hb),Ik hb⟩
 have old:∀b o,s.heap.get? b=some o->h₁.get? b=some o:=fun b o e=>DU.extBut b o (below b (HR e)).1 (HM _ (FO▸HM _ e))
 have hacc:h₁.get? s.heap.objs.size=some (hW []):=DU.extBut _ _ hDC (HM _ (FO▸HV _ rfl))
 have hlt:∀b∈fp,b < s.heap.objs.size:=fun b hb=>by
  obtain⟨o,e,_⟩:=T.obj 0 _ st b hb
  exact HR e
 obtain⟨Wv,⟨m0,w0⟩,turn⟩:=W
 have ok:=vb (N:=N) I hkind Es hcl hhas f hlt
 have loop:∀s₃:Shared,s₃={ s with heap:=h₁,toks:=s.toks+([]:List (Str×Value)).length }->
   codeAny (model X.prog X.w) X.A (.compLoop (.ListComp elt [⟨tg,iter,ifs,0⟩] scope pos) 0 (.ref it) (.ref s.heap.objs.size) (compEnvC scope (bX X.env fs) H2.objs.size X.env))
    (RR (.ref s.heap.objs.size) H2.objs.size) s₃:=by
  rintro s₃ rfl
  have I0:=sR (own:=own) (fr:=fr) (t':=s.toks+([]:List (Str×Value)).length) I ok Es (HN _) hDC hcl old Er hacc hlen hN hF
  have G3:tn 0 h₁:=T.keep 0 _ _ st fun b _ o e=>old b o e
  have stat:∀{us:Vv} {H':Hp},(∀b∈fp,H' b=none)->∀b∈fp,eN (X.BE N scope fs ⟨H2.objs.size,s,H,fp,X.pn++pins⟩) [(s.heap.objs.size,hW us)] H' b:=fun{us H'} hn b hb=>by
   obtain⟨f0,f1,f2,f3,f4,f5⟩:=f b hb
   refine⟨hn b hb,(below b (hlt b hb)).1,fun z=>(HZ.mp (I.B5 b z)).elim f1 f2,.inl hb,fun x c e=>f4 x c (iD hcl e),fun p hp=>?_⟩
   rcases Iu.mp hp with z|z
   ·exact f5 p z
   ·have z':p=(s.heap.objs.size,hW us):=by simpa using z
    subst z'
    exact J8 (below b (hlt b hb)).2
  have FP:∀p∈X.pn++pins,p.1 < s.heap.objs.size:=fun p hp=>HR (I.pin p hp).1
  refine kN (fun k s'=>∃i ys us H',Inv (X.BE N scope fs ⟨H2.objs.size,s,H,fp,X.pn++pins⟩) [(s.heap.objs.size,hW us)] (dh own fr σ) H' s'/\Vals ys us/\tn i s'.heap/\(∀b∈fp,H' b=none)/\Wv i k ys H') ?_ m0
   ⟨0,[],[],H,I0,.nil,G3,fun b hb=>(f b hb).1,w0⟩
  rintro n s' ⟨i,ys,us,H',I',rv,st',Gu,w'⟩
  rcases turn i n ys H' w' with⟨stop,hz,FQ⟩|⟨go,hz,Nx,Gv,step⟩
  ·refine Ak (T.done (X.BE N scope fs ⟨H2.objs.size,s,H,fp,X.pn++pins⟩) rfl rfl rfl hc i _ s' _ H' (fun _ _=>False) I' (stat Gu) st' stop) (fun r s1 ⟨hr,I1⟩=>?_)
   subst hr
   show RR _ _ (.ok .next) s1
   have IX:Inv X pins σ H' s1:=I.EW I1.os I1.base I1.hok I1.bare fun b hb=>by
    obtain⟨f0,f1,f2,f3,f4,f5⟩:=f b hb
    exact⟨f3,f1,f4,f5⟩
   obtain⟨eD,nD,_⟩:=I1.pin (s.heap.objs.size,hW us) (by simp)
   have IT:=IX.E2 (I.CA (H':=H') (HN _) nD) eD rv hz
   obtain⟨m',hn',_⟩:=I1.loc
   exact hRR _ _ s1 ys H' m' IT nD hn' (I.CA Es (by rw[az (J8 hDC)];exact I1.free)) FQ
  ·refine Ak (T.item (X.BE N scope fs ⟨H2.objs.size,s,H,fp,X.pn++pins⟩) rfl rfl rfl hc i _ s' _ H' (fun _ _=>False) I' (stat Gu) st' go) (fun r s1 ⟨u,hr,h1⟩=>?_)
   subst hr
   show wpAny _ _ (letOwnedTupleGo tg (.ref it) u) _ _ s1
   refine Ak h1 (fun _ s5 ⟨x,H5,I5,r5,y5,DS,FF⟩=>?_)
   have FG:=I5.pinned (stat FF) (T.obj _ _ DS)
   refine Ak (hg _ _ s5 _ H5 x u _ FG r5 (step x H5 y5)) (fun _ s6 ⟨σ6,H6,I6,G4,q6⟩=>?_)
   refine Ak (hf _ _ s6 σ6 H6 _ I6 q6) (fun b s7 ⟨H7,I7,q7⟩=>?_)
   -- Eu the turn's own names
   have forget:∀{H8:Hp} {s8:Shared} {pl:Va},Inv (X.BE N scope fs ⟨H2.objs.size,s,H,fp,X.pn++pins⟩) pl σ6 H8 s8->Inv (X.BE N scope fs ⟨H2.objs.size,s,H,fp,X.pn++pins⟩) pl (dh own fr σ) H8 s8:=fun{H8 s8 pl} I8=>by
    refine I8.weak (I0.len.trans I8.len.symm) fun j v e=>?_
    by_cases hj:j < own
    ·unfold dh at e
     rw[IV (by rw[IF];exact hj),Jt,if_pos hj]at e
     cases e
    ·obtain⟨k,rfl⟩:∃k,j=own+k:=⟨j - own,by omega⟩
     rw[<-Kf]at e ⊢
     rw[G4]
     exact e
   have Fm:∀{H8:Hp} {s8:Shared},Inv (X.BE N scope fs ⟨H2.objs.size,s,H,fp,X.pn++pins⟩) ([(s.heap.objs.size,hW us)]++iY fp s5.heap) σ6 H8 s8->∀b∈fp,∀o,s5.heap.get? b=some o->s8.heap.get? b=some o/\H8 b=none:=fun I8 b hb o e=>
    let z:=I8.pin (b,o) (Io _ (Io _ (fS hb e)))
    ⟨z.1,z.2.1⟩
   cases b with
   |false=>
    show ∃m,m < n/\_
    obtain⟨m',hm,w7⟩:=Gv _ _ (show Nx ys H7 from q7)
    refine⟨m',hm,i+1,ys,us,H7,(forget I7).BW,rv,T.keep _ _ _ DS fun b hb o e=>(Fm I7 b hb o e).1,fun b hb=>?_,w7⟩
    obtain⟨o,e,_⟩:=T.obj _ _ DS b hb
    exact(Fm I7 b hb o e).2
   |true=>
    show wpAny _ _ (eval elt _) _ _ s7
    have G5:te σ6 H7 fun y H4=>Nx (ys++[y]) H4:=q7
    refine Ak (he _ _ s7 σ6 H7 _ I7 G5) (fun v s8 ⟨y,H8,I8,r8,n8⟩=>?_)
    obtain⟨m',hm,w8⟩:=Gv _ _ n8
    obtain⟨eD,nD,Gw,G6,_⟩:=I8.pin (s.heap.objs.size,hW us) (Io _ (JF _ (by simp)))
    refine append_at (hsz:=by show us.toArray.size<=sizeLine;rw[HU,<-rv.length];exact hz) eD fun h9 Gx G7=>?_
    have J0:Inv (X.BE N scope fs ⟨H2.objs.size,s,H,fp,X.pn++pins⟩) [] σ6 H8 s8:=I8.Cl fun p hp=>nomatch hp
    have J1:Inv (X.BE N scope fs ⟨H2.objs.size,s,H,fp,X.pn++pins⟩) [] σ6 H8 { s8 with heap:=h9 }:=J0.turned (t':=s8.toks) (it:=s.heap.objs.size) (fun b o hb e=>(Gx.2 b hb).trans e) nD Gw (.inr (HN _))
     (fun x c e z=>by
      obtain⟨v',q⟩:=I.cell x c (iD hcl e)
      exact absurd (HX q.lt (by rw[z];exact HN _)) (Jy _))
     (fun p hp=>by
      rw[JP]at hp
      exact Ik (FP p hp))
    have J2:Inv (X.BE N scope fs ⟨H2.objs.size,s,H,fp,X.pn++pins⟩) [(s.heap.objs.size,hW (us++[v]))] σ6 H8 { s8 with heap:=h9 }:=J1.Cl fun p hp=>by
     have z':p=(s.heap.objs.size,hW (us++[v])):=by simpa using hp
     subst z'
     exact⟨G7.trans (IS some (oE us v)),nD,Gw,G6,fun v z=>by cases z⟩
    refine⟨m',hm,i+1,ys++[y],us++[v],H8,forget J2,Vals.append rv (.cons r8 .nil),T.keep _ _ _ DS fun b hb o e=>(Gx.2 b (below b (hlt b hb)).2).trans (Fm I8 b hb o e).1,fun b hb=>?_,w8⟩
    obtain⟨o,e,_⟩:=T.obj _ _ DS b hb
    exact(Fm I8 b hb o e).2
 exact codeAny_compStart_list (loop _ rfl) (T.self _ 0 _ _ _ (T.keep 0 _ _ st fun b _ o e=>old b o e) (loop _ rfl))
def qo(wi:TI)(g:TG)(tc:TT)(te:TE)(own:Nat)(fr:List Nat):TE:=fun σ H Q=>wi σ H fun J H1=>
 ub J g tc te own (dh own fr σ) (fun ys H2=>∀D,H2 D=none->Q (.ref D) (upd H2 D (.lst ys))) H1
def sS(fs:Vs)(own:Nat)(fr:List Nat)(N:Vs){wi:TI}(hc:X.calm=true)(hclos:closureFor scope X.env=pure (bX X.env fs))(hcell:∀y∈scope.names,y.2 ≠ .cell)(hkind:scope.kind = .function)
  (hnames:∀x∈scope.names,x.2 = .local->scope.names.lookup x.1=some .local) (hcl:bP X.env fs) (hhas:kO (relabel scope X.env).names (bX X.env fs)=true)
  (hlen:N.length=own+fr.length) (hN:(N.drop own).map some=fr.map fun j=>X.N[j]?) (hF:AN X.env scope (bX X.env fs) (N.drop own))
  (hi:PI X tg iter wi) (hg:∀B,PG (X.BE N scope fs B) tg g) (hf:∀B,PF (X.BE N scope fs B) ifs tc) (he:∀B,PE (X.BE N scope fs B) elt te)
  (hs:∀x,foldedSetIterable iter X.env x=pure x:=by intro _;rfl):PE X (.ListComp elt [⟨tg,iter,ifs,0⟩] scope pos) (qo wi g tc te own fr):=by
 intro pins s σ H Q I h
 rw[eval_ListComp]
 refine wpAny_comprehension_free (use:=none) (g:=⟨tg,iter,ifs,0⟩) (gs:=[]) rfl hs hclos hkind hnames (Ak (hi pins s σ H _ I h) fun v s1 h1=>Ak h1 fun itv s2 h2=>?_)
 obtain⟨it,fp,tn,J,H2,e,I2,T,st2,f2,W⟩:=h2
 subst e
 refine i6 (RR:=fun acc C=>compPost (model X.prog X.w) X.A X.xe none (EP X pins σ Q) acc C) hc hcell hkind hcl hhas hlen hN hF hg hf he I2 T st2 f2 W ?_
 intro D C s' ys H' m' I' nD hn fC fin
 exact⟨m',hn,fun h' hs'=>⟨.ref D,_,I'.turned (t':=s'.toks) (fun b o hb e=>(hs'.2 b hb).trans e) fC.1 fC.2.1 fC.2.2.2.1 fC.2.2.2.2.1 fC.2.2.2.2.2,rfl,fin D nD⟩⟩
def sT(fs:Vs)(own:Nat)(fr:List Nat)(N:Vs){wi:TI}{i:Nat}{y:Str}{py spos:Pos}(hX:X.N.Nodup)(hix:X.N[i]?=some y)(hy:X.env.scope.names.lookup y=some .local)
  (hsw:swapsWith (.ListComp elt [⟨tg,iter,ifs,0⟩] scope pos) (some (.Name y py)) spos.line X.env=pure true)
  (hc:X.calm=true) (hclos:closureFor scope X.env=pure (bX X.env fs)) (hcell:∀y∈scope.names,y.2 ≠ .cell) (hkind:scope.kind = .function)
  (hnames:∀x∈scope.names,x.2 = .local->scope.names.lookup x.1=some .local) (hcl:bP X.env fs) (hhas:kO (relabel scope X.env).names (bX X.env fs)=true)
  (hlen:N.length=own+fr.length) (hN:(N.drop own).map some=fr.map fun j=>X.N[j]?) (hF:AN X.env scope (bX X.env fs) (N.drop own))
  (hi:PI X tg iter wi) (hg:∀B,PG (X.BE N scope fs B) tg g) (hf:∀B,PF (X.BE N scope fs B) ifs tc) (he:∀B,PE (X.BE N scope fs B) elt te)
  (hs:∀x,foldedSetIterable iter X.env x=pure x:=by intro _;rfl):PS X (.Assign [.Name y py] (.ListComp elt [⟨tg,iter,ifs,0⟩] scope pos) spos) (sv (qo wi g tc te own fr) (lQ i)):=by
 intro pins s σ H D I h
 rw[exec_Assign_Name_used _ _ _ _ hsw]
 refine HL (wpAny_standAt (HL ?_))
 show wpAny _ X.A (do let _ <-comprehension (.ListComp elt [⟨tg,iter,ifs,0⟩] scope pos) scope X.env _ (newList []) false (eval iter X.env) (some (assign (.Name y py) X.env))) _ _ s
 refine HL (JL (wpAny_comprehension_free (use:=some (assign (.Name y py) X.env)) (Q:=fun _ s'=>SP X pins D .next s') (g:=⟨tg,iter,ifs,0⟩) (gs:=[]) rfl hs hclos hkind hnames
  (Ak (hi pins s σ H _ I h) fun v s1 h1=>Ak h1 fun itv s2 h2=>?_)) (fun _ s' hq=>HS (HS hq)) fun _ _ e=>e)
 obtain⟨it,fp,tn,J,H2,e,I2,T,st2,f2,W⟩:=h2
 subst e
 refine i6 (RR:=fun acc C=>compPost (model X.prog X.w) X.A X.xe (some (assign (.Name y py) X.env)) (fun _ s'=>SP X pins D .next s') acc C) hc hcell hkind hcl hhas hlen hN hF hg hf he I2 T st2 f2 W ?_
 intro Da C s' ys H' m' I' nD hn fC fin
 show wpAny _ X.A (assign (.Name y py) X.env (.ref Da)) _ _ s'
 refine wpAny_assign_Name (j4 (v:=.ref Da) I' hX hix (.inl hy) rfl (fun s2 I3 ⟨a,sb,ha⟩=>?_) (.inr hy))
 have ca:C≠a:=by
  rcases ha with z|z
  ·rw[z];exact fC.2.1
  ·exact J8 (fC.2.2.2.2.1 _ _ z)
 exact⟨m',hn.sameBut sb ca,fun h' hs'=>⟨_,_,I3.turned (t':=s2.toks) (fun b o hb e=>(hs'.2 b hb).trans e) fC.1 fC.2.1 fC.2.2.2.1 fC.2.2.2.2.1 fC.2.2.2.2.2,fin Da nD⟩⟩
end
end L2
namespace PySem
open Sem (wp)
namespace F
def oF:typeLookup (.type "list_reverseiterator") "__len__" = pure none:=by rw[typeLookup_type,builtinLookup_eq_fast];kernel_rfl
def qp:typeLookup (.type "list_reverseiterator") "__length_hint__" = pure (some (.builtin "list_reverseiterator.__length_hint__")):=by rw[typeLookup_type,builtinLookup_eq_fast];kernel_rfl
end F
section
variable {prog:Program} {w:World} {A:Around} {s:Shared} {R:Result->Shared->Prop}
variable {I:Addr} {fp wr:List Addr} {G:Array GenState->Array GenState->Prop} {n:Nat} {P:Nat->Value->Prop} {St:Nat->Shared->Prop}
def mT(W:WalksS prog w A.in1 I fp wr G n P St)(hT:∀i s,St i s->s.TypeIs (.ref I) "list_reverseiterator")(S:Addr)(res:Value)(c₀:Nat)(hst:St 0 s)(hSf:S ∉ fp)(hI:I∈fp)
  (hS:s.heap.get? S=some { cls:=.type "list",data:=.seq #[] c₀ })
  (hR:∀s' acc' c',Moved (S::wr) G s s'->s'.heap.get? S=some { cls:=.type "list",dict:=none,data:=.seq acc' c',slots:=#[] }->ItemsOf P acc' n->R (.ok (.ret res)) s') (hn:n<=sizeLine) :
  wpAny (model prog w) A.in1 (Builtin.List.listExtendWith (.ref S) (.ref I) res)
   (fun fin s'=>match fin with | .done f=>R (.ok f) s' | .again c'=>c'.quiet=true/\codeAny (model prog w) A c' R s') (fun e s'=>R (.error e) s') s:=by
 have hSI:S≠I:=fun e=>hSf (e▸hI)
 have h1:Builtin.List.listSameRef (.ref S) (.ref I)=false:=by simp[Builtin.List.listSameRef,hSI]
 unfold Builtin.List.listExtendWith
 refine HL (wpAny_typeOf (hT 0 _ hst) ?_)
 rw[if_neg (by rw[h1];decide)]
 refine HL (W.self 0 _ _ _ hst ?_)
 refine HL (J6 ?_)
 unfold Builtin.List.listLengthHint
 refine HL (wpAny_specialOf (hT 0 _ hst) F.oF ?_)
 show wpAny _ A.in1 (specialOf (Value.ref I) (Str.ofString "__length_hint__") >>= _) _ _ _
 refine HL (wpAny_specialOf (hT 0 _ hst) F.qp ?_)
 (generalize hid:("list_reverseiterator.__length_hint__":String)=G8;wp_delta;rw[show splitId G8=some ("list_reverseiterator","__length_hint__")from by subst hid;decide +kernel];subst hid)
 refine HL (wpAny_isInstance (b:=true) (hT 0 _ hst) (by rw[isSubtype_type];kernel_rfl) ?_)
 refine HS ?_
 rw[if_neg (by decide)]
 exact HS ⟨plainId_quiet F.plain_extend_loop _,codeAny_extend_loopS W hn _ hSf _ n 0 _ _ _ rfl (IM _) hst hS (ItemsOf.nil P) fun s' acc' c' hm hS' hacc=>hR s' acc' c' hm hS' hacc⟩
def jU(W:WalksS prog w A.in1 I fp wr G n P St)(hT:∀i s,St i s->s.TypeIs (.ref I) "list_reverseiterator")(S:Addr)(hst:St 0 s)(hSf:S ∉ fp)(hI:I∈fp)
  (hS:s.heap.get? S=some { cls:=.type "list",data:=.seq #[] })
  (hR:∀s' acc' c',Moved (S::wr) G s s'->s'.heap.get? S=some { cls:=.type "list",dict:=none,data:=.seq acc' c',slots:=#[] }->ItemsOf P acc' n->R (.ok (.ret .none)) s') (hn:n<=sizeLine) :
  wpAny (model prog w) A.in1 (Builtin.«list.__init__» ⟨[.ref S,.ref I],[]⟩)
   (fun fin s'=>match fin with | .done f=>R (.ok f) s' | .again c'=>c'.quiet=true/\codeAny (model prog w) A c' R s') (fun e s'=>R (.error e) s') s:=by
 show wpAny _ A.in1 (do let old <-Builtin.List.listItems (.ref S);Builtin.List.listUpdate (.ref S) (fun _=>#[]);letGo old.toList.reverse;Builtin.List.listExtendWith (.ref S) (.ref I) .none) _ _ s
 refine HL ?_
 unfold Builtin.List.listItems
 refine HL (IA hS rfl (HS ?_))
 show wpAny _ A.in1 (updateSeq S (fun _=>#[]) >>= fun _=>letGo (#[]:Vw).toList.reverse >>= fun _=>Builtin.List.listExtendWith (.ref S) (.ref I) .none) _ _ s
 refine HL (wpAny_updateSeq hS rfl ?_)
 have G9:=JQ (Obj.mapSeq (fun _=>(#[]:Vw))) hS rfl
 have EJ:∀b o,b≠S->s.heap.get? b=some o->(s.heap.update S (Obj.mapSeq (fun _=>(#[]:Vw)))).get? b=some o:=
  fun b o hb e=>(Kr _ _ (J8 hb)).trans e
 refine HL (Kl ?_)
 refine mT (hn:=hn) W hT S .none _ (W.frame 0 s _ s.toks hst (HN _) fun b hb o e=>EJ b o (fun h=>hSf (h▸hb)) e) hSf hI G9 fun s' acc' c' hm hS' hacc=>?_
 exact hR s' acc' c' (Moved.trans W.gtrans ((Moved.refl W.grefl).then_heap (HN _) fun b o hb e=>EJ b o (fun h=>hb (h▸Jl)) e) hm) hS' hacc
end
section
variable {prog:Program} {w:World} {A:Around} {E:Vq} {s:Shared}
def jV{I l:Addr}{items:Vw}{Q:Vq}(hh:A.handled=none)(hl:s.heap.IsList l items)(hit:s.heap.IsRevIter I l ((items.size:Int) - 1))(hne:l≠I)(hn:items.size<=sizeLine)
  (hQ:∀h' tk acc' c',(∀b o,b≠I->s.heap.get? b=some o->h'.get? b=some o)->h'.get? s.heap.objs.size=some { cls:=.type "list",dict:=none,data:=.seq acc' c',slots:=#[] }->
   acc'.toList=items.toList.reverse->Q (.ref s.heap.objs.size) { s with heap:=h',toks:=tk }) :
  wpAny (model prog w) A (call (.type "list") [.ref I]) Q E s:=by
 have W:=(Walks.listRev (prog:=prog) (w:=w) (A:=A.in1.in1) hh I l hne items).toS
 have FR:I < s.heap.objs.size:=by obtain⟨o,ho,_⟩:=hit;exact HR ho
 have FS:l < s.heap.objs.size:=by obtain⟨o,ho,_⟩:=hl;exact HR ho
 have hfp:∀b∈[I,l],b < s.heap.objs.size:=fun b hb=>by
  rcases HZ.mp hb with rfl|hb
  ·exact FR
  ·rw[IB.mp hb];exact FS
 have hSf:s.heap.objs.size ∉ [I,l]:=fun hm=>Jy _ (hfp _ hm)
 have hst:(fun i (s:Shared)=>i<=items.size/\s.heap.IsRevIter I l ((items.size:Int) - 1 - (i:Int))/\s.heap.IsList l items) 0 s:=⟨IM _,by simpa using hit,hl⟩
 refine callType_codes (Q₁:=fun obj s₁=>obj = .ref s.heap.objs.size/\s₁={ s with heap:=s.heap.push { cls:=.type "list",data:=.seq #[] } }) F.called_list (F.typeCall_list_1 _) F.entry_list_init
  (code_list_new _ ⟨rfl,rfl⟩) fun obj s₁ h₁=>?_
 obtain⟨rfl,rfl⟩:=h₁
 have hS:(s.heap.push { cls:=.type "list",data:=.seq #[] }).get? s.heap.objs.size=some { cls:=.type "list",data:=.seq #[] }:=HV _ rfl
 refine⟨⟨_,hS,rfl⟩,F.args_list_init_2 _ _,jU (hn:=hn) W (fun i s st=>st.2.1.typeIs) _ (W.frame 0 s _ s.toks hst (HN _) fun b _ o e=>HM _ e) hSf (Jl ..) hS fun s' acc' c' hm hS' hacc=>?_⟩
 refine⟨rfl,?_⟩
 rw[hm.eq_with]
 refine hQ s'.heap s'.toks acc' c' (fun b o hb e=>hm.heap b o (fun z=>?_) (HM _ e)) hS' ?_
 ·rcases HZ.mp z with z|z
  ·exact absurd (HR e) (by rw[z];exact Jy _)
  ·exact hb (IB.mp z)
 ·obtain⟨hsz,hP⟩:=hacc
  apply List.ext_getElem?
  intro j
  by_cases hj:j < items.size
  ·have hj':j < acc'.size:=by rw[hsz];exact hj
   have q:=hP j acc'[j] (by simp[hj'])
   have e1:acc'.toList[j]?=some acc'[j]:=by simp[hj']
   rw[e1,List.getElem?_reverse (by simpa using hj)]
   simpa using q.symm
  ·rw[JB (by simpa [hsz]using hj),JB (by simpa using hj)]
end
end PySem
namespace L2
open PySem PySem.Spec PyProof.Rows
section
variable {X:Cx}
def qq(K:Vo)(te:TE):TE:=fun σ H Q=>te σ H fun x H1=>∃a xs,x = .ref a/\SqL K H1 a xs/\∀q,H1 q=none->Q (.ref q) (upd H1 q (.lst xs.reverse))
def mU{e:Expr}{te:TE}{p1 p2 q1 q2:Pos}(hc:X.calm=true)(he:PE X e te)(FT:Gl X "list")(hm1:X.mg "list" = none)(E4:Gl X "reversed")(hm2:X.mg "reversed" = none)
  (hs:starEach [e] X.env=[(false,eval e X.env)]:=by rfl) (hs2:starEach [.Call (.Name "reversed" p2) [e] [] q2] X.env=[(false,eval (.Call (.Name "reversed" p2) [e] [] q2) X.env)]:=by rfl) :
  PE X (.Call (.Name "list" p1) [.Call (.Name "reversed" p2) [e] [] q2] [] q1) (qq X.K te):=by
 intro pins s σ H Q I h
 refine JN (fR I FT hm1 (u:=.type "list") (by decide +kernel) ?_)
 refine IQ ?_ hs2 rfl
 rw[hs2]
 show wpAny _ _ (spliced ((false,eval (.Call (.Name "reversed" p2) [e] [] q2) X.env)::backTo q1 [])) _ _ s
 refine Calls.spliced_cons ?_
 refine JN (fR I E4 hm2 (u:=.type "reversed") boot_reversed ?_)
 refine IQ ?_ hs rfl
 rw[hs]
 show wpAny _ _ (spliced ((false,eval e X.env)::backTo q2 [])) _ _ s
 refine Calls.spliced_cons (Ak (he pins s σ H _ I h) fun u s1 ⟨x,H1,I1,r1,a,xs,ex,hx,q⟩=>?_)
 subst ex
 cases r1
 obtain⟨its,rv,p,hz⟩:=I1.list hx
 have hl:=rv.length
 have hal:a < s1.heap.objs.size:=by obtain⟨o,ho,_⟩:=p.isList;exact HR ho
 refine Calls.spliced_nil (call_reversed_list p.isList ?_)
 refine Calls.spliced_nil ?_
 refine jV (I.ok.hd hc) (p.isList.push _) ⟨_,HV _ rfl,rfl,rfl⟩ (Ik hal) (by rw[HU,<-hl];exact hz) fun h' tk acc c hk hS ha=>?_
 have hsz:(s1.heap.push (revObj a ((its.toArray.size:Int) - 1))).objs.size=s1.heap.objs.size+1:=IW _ _
 have hle:s1.heap.objs.size<=(s1.heap.push (revObj a ((its.toArray.size:Int) - 1))).objs.size:=by rw[hsz];exact Nat.le_succ _
 refine⟨.ref _,_,I1.laid (a:=(s1.heap.push (revObj a ((its.toArray.size:Int) - 1))).objs.size) (o:=.lst xs.reverse) (h':=h') (t':=tk) (fun b u e=>hk b u (Ik (HR e)) (HM _ e)) hle ?_,rfl,q _ (I1.hok.fresh hle)⟩
 refine⟨by rw[List.length_reverse];exact hz,its.reverse,c,Vals.reverse rv,?_⟩
 rw[hS]
 have e:acc=its.reverse.toArray:=by
  apply Array.toList_inj.mp
  rw[ha]
 rw[e]
end
section
variable {X:Cx}
noncomputable abbrev kP(c:Nat):Str:=⟨#[c]⟩
noncomputable def zb(z:Str):It:=⟨fun i _=>i < z.cps.size,fun i H x H'=>H'=H/\∃c,z.cps[i]?=some c/\x = .str (kP c),fun i _=>z.cps.size<=i⟩
def qr{P:Program}{w:World}{K:Vo}{tg:Expr}{ty:String}(hty:ty = "str_ascii_iterator" \/ ty = "str_iterator")(it:Addr)(z:Str)(t:Tok):lR P w K tg (zb z) [it] it (fun i h=>i<=z.cps.size/\h.IsStrIter it ty z t i):=by
 have W:∀A':Around,A'.handled=none->Walks P w A' it [it] [it] z.cps.size (SignAt z) (fun i h=>h.IsStrIter it ty z t i):=fun A' hA=>by
  rcases hty with rfl|rfl
  ·exact Walks.strAscii hA it z t
  ·exact Walks.strWide hA it z t
 have nt:(["enumerate","zip","dict_itemiterator","dict_reverseitemiterator","odict_iterator","itertools.zip_longest","itertools.pairwise"].contains ty)=false:=by
  rcases hty with rfl|rfl<;>decide
 refine⟨by simp,fun i h st b hb=>?_,fun i h h' st k=>?_,?_,?_,?_⟩
 ·have e:b=it:=by simpa using hb
  subst e
  obtain⟨_,o,e,c,d⟩:=st
  exact⟨o,e,fun v q=>by rw[d]at q;cases q⟩
 ·obtain⟨hi,o,e,r⟩:=st
  exact⟨hi,o,k it (by simp) o e,r⟩
 ·intro X hP hw hK hc i pins s σ H E I hf st hg
  subst hP hw hK
  obtain⟨f0,f1,f2,f3,f4,f5⟩:=hf it (by simp)
  refine(W X.A (I.ok.hd hc)).item i s _ _ hg st.2 fun v h' tk hv st' kk=>?_
  obtain⟨c,u,hcp,rfl⟩:=hv
  have I1:Inv X pins σ H { s with heap:=h',toks:=tk }:=I.turned (fun b o hb e=>kk b o (by simpa using hb) e) f0 f1 f3 f4 f5
  obtain⟨o,e,co,d⟩:=id st'
  exact⟨_,rfl,eO (s:={ s with heap:=h',toks:=tk }) e co d nt ⟨.str (kP c),H,I1,⟨u,rfl⟩,⟨rfl,c,hcp,rfl⟩,⟨hg,st'⟩,fun b hb=>(hf b hb).1⟩⟩
 ·intro X hP hw hK hc i pins s σ H E I hf st hg
  subst hP hw hK
  obtain⟨f0,f1,f2,f3,f4,f5⟩:=hf it (by simp)
  have e:i=z.cps.size:=Nat.le_antisymm st.1 hg
  subst e
  exact(W X.A (I.ok.hd hc)).done s _ _ st.2 fun h' tk kk=>⟨rfl,I.turned (fun b o hb e=>kk b o (by simpa using hb) e) f0 f1 f3 f4 f5⟩
 ·intro A i s Q E st h
  rcases hty with rfl|rfl
  ·exact wpAny_pyIter_striter_ascii st.2 h
  ·exact wpAny_pyIter_striter_wide st.2 h
def sU{ys:Vs}:∀{us:Vv},Vals (ys.map V.str) us->StrsAre us ys:=by
 induction ys with
 |nil=>intro us r;rw[Ku]at r;cases r;exact .nil
 |cons n ns ih=>
  intro us r
  rw[Ir]at r
  cases r with
  |cons r1 r2=>
   obtain⟨t,e⟩:=r1
   subst e
   exact .cons n t (ih r2)
noncomputable def xy(K:Vo):V->List V->Hp->VK->Prop:=fun x vs H Q=>∃sep p ys,x = .str sep/\vs=[.ref p]/\SqL K H p (ys.map V.str)/\(ys.map (·.length)).sum+ys.length * sep.length<=1000000/\Q (.str (Txt.join sep ys)) H
def sV:w5 X "str.join" (xy X.K):=by
 intro pins s σ H x vs v us Q I rx rv h
 obtain⟨sep,p,ys,rfl,rfl,hp,hz,q⟩:=h
 obtain⟨t,rfl⟩:=rx
 obtain⟨u,rfl,ru⟩:=gv rv
 cases ru
 obtain⟨its,r,pl,_⟩:=I.list hp
 exact join_list pl.isList (by simpa using sU r) (by omega) fun t' k=>⟨.str _,H,I.tok k,⟨t',rfl⟩,q⟩
end
section
variable {X:Cx}
noncomputable def zc:V->Option Int->Option Int->Hp->VK->Prop:=fun x lo hi H Q=>∃z,x = .str z/\z.length<=sizeLine/\Q (.str (Txt.slice z lo hi)) H
def ve:wf X zc:=by
 intro pins s σ H x v vl vu lo hi sl Q I rx hs pl pu h
 obtain⟨z,rfl,hz,q⟩:=h
 obtain⟨t,rfl⟩:=rx
 refine⟨"str",_,F.slot_str_getitem.lookup,typeIs_str _ _ _,?_⟩
 obtain⟨o,e,c,d⟩:=hs
 have fin:∀l u:Option (Int×Tok),(vl=partValue l/\lo=l.map (·.1))->(vu=partValue u/\hi=u.map (·.1))->wpAny (model X.prog X.w) X.A (getItem (.str z t) (.ref sl)) (EP X pins σ Q) X.xe s:=by
  rintro l u ⟨rfl,rfl⟩ ⟨rfl,rfl⟩
  exact wpAny_getItem_str_slice (l:=l) (u:=u) (st:=none) ⟨o,e,c,d⟩ rfl (post_val_or_str ⟨Ib (Txt.slice_le z _ _) hz,fun t' k=>⟨.str _,H,I.tok k,⟨t',rfl⟩,q⟩⟩)
 cases pl with
 |none=>
  cases pu with
  |none=>exact fin none none ⟨rfl,rfl⟩ ⟨rfl,rfl⟩
  |int j uj=>exact fin none (some (j,uj)) ⟨rfl,rfl⟩ ⟨rfl,rfl⟩
 |int i ui=>
  cases pu with
  |none=>exact fin (some (i,ui)) none ⟨rfl,rfl⟩ ⟨rfl,rfl⟩
  |int j uj=>exact fin (some (i,ui)) (some (j,uj)) ⟨rfl,rfl⟩ ⟨rfl,rfl⟩
noncomputable def vf:V->List V->Hp->VK->Prop:=fun x vs H Q=>∃a b i rest,x = .str a/\vs=[.str b]/\Builtin.Str.occurrences a b 0 a.length 1=i::rest/\Q (.int i) H
def qt:w5 X "str.index" vf:=by
 intro pins s σ H x vs v us Q I rx rv h
 obtain⟨a,b,i,rest,rfl,rfl,ho,q⟩:=h
 obtain⟨t,rfl⟩:=rx
 obtain⟨w,rfl,u,rfl⟩:=gv rv
 exact call_gives F.slot_str_index (typeIs_str _ _ _) F.entry_str_index (F.args_str_index_2 _ _) (gives_str_index a b t u i rest ho) ⟨.int i,H,I.tok _,⟨_,rfl⟩,q⟩
def vg(K:Vo)(i j k:Nat)(te:TE):TS:=fun D σ H=>te σ H fun x H1=>∃p v w u,x = .ref p/\SqT K H1 p [v,w,u]/\D.nx (((σ.set k (some u)).set j (some w)).set i (some v)) H1
def qu{i j k:Nat}{x y z:Str}{e:Expr}{te:TE}{px py pz pt:Pos}{kt:Nat}{pos:Pos}(hc:X.calm=true)(hN:X.N.Nodup)(hi:X.N[i]?=some x)(hj:X.N[j]?=some y)(hk:X.N[k]?=some z)
  (hx:X.env.scope.names.lookup x=some .local) (hy:X.env.scope.names.lookup y=some .local) (hz:X.env.scope.names.lookup z=some .local) (he:PE X e te)
  (hw:swappedStores [.Tuple [.Name x px,.Name y py,.Name z pz] kt pt] e X.env=pure (some [x,y,z]))
  (hs:swapsWithSole [.Tuple [.Name x px,.Name y py,.Name z pz] kt pt] e pos.line X.env=pure false) :
  PS X (.Assign [.Tuple [.Name x px,.Name y py,.Name z pz] kt pt] e pos) (vg X.K i j k te):=by
 intro pins s σ H D I h
 refine Assign_Tuple_swapped (names:=[x,y,z]) (Ak (he pins s σ H _ I h) fun r s1 ⟨xr,H1,I1,r1,p,v,w,u,ex,hp,q⟩=>?_) hs hw
 subst ex
 cases r1
 obtain⟨its,rv,tp,_⟩:=I1.tuple hp
 obtain⟨u1,u2,u3,ei,a1,a2,a3⟩:∃u1 u2 u3,its=[u1,u2,u3]/\RelV v u1/\RelV w u2/\RelV u u3:=by
  cases rv with
  |cons a1 rv=>
   cases rv with
   |cons a2 rv=>
    cases rv with
    |cons a3 rv=>
     cases rv
     exact⟨_,_,_,rfl,a1,a2,a3⟩
 subst ei
 refine unpackItems_tuple (items:=#[u1,u2,u3]) (I.ok.hd hc) tp fun h' kp=>?_
 have I2:=I1.kept (h':=h') (t':=s1.toks) fun b o eb=>kp b o (Ik (HR eb)) eb
 refine Jz (Ko (cC I2 hN hk (.inl hz) a3 (fun s2 I3=>?_) (.inr hz)))
 refine Jz (Ko (cC I3 hN hj (.inl hy) a2 (fun s3 I4=>?_) (.inr hy)))
 exact Jz (Ko (cC I4 hN hi (.inl hx) a1 (fun s4 I5=>assignInOrder_nil ⟨_,H1,I5,q⟩) (.inr hx)))
end
end L2
namespace Zt
open PySem
open Sem (wp)
def Si(kd:Bool)(h:Heap)(a t:Addr)(i:Nat):Prop:=cond kd (h.IsListIter a t i) (h.IsTupleIter a t i)
def Sq(kd:Bool)(h:Heap)(a:Addr)(xs:Vw):Prop:=cond kd (h.IsList a xs) (h.IsTuple a xs)
theorem Si.at{kd:Bool}{h h':Heap}{a t:Addr}{i:Nat}(x:Si kd h a t i)(e:∀o,h.get? a=some o->h'.get? a=some o):Si kd h' a t i:=match kd,x with|true,x=>Heap.IsListIter.at x e|false,x=>Heap.IsTupleIter.at x e
theorem Sq.at{kd:Bool}{h h':Heap}{a:Addr}{xs:Vw}(x:Sq kd h a xs)(e:∀o,h.get? a=some o->h'.get? a=some o):Sq kd h' a xs:=match kd,x with|true,x=>Heap.IsList.at x e|false,x=>Heap.IsTuple.at x e
def Sq.lt{kd:Bool}{h:Heap}{a:Addr}{xs:Vw}(x:Sq kd h a xs):a < h.objs.size:=match kd,x with|true,⟨_,e,_⟩=>HR e|false,⟨_,e,_⟩=>HR e
def Si.ob{kd:Bool}{h:Heap}{a t:Addr}{i:Nat}(x:Si kd h a t i):∃o f,h.get? a=some o/\o.data = .fields f:=match kd,x with|true,⟨o,e,_,d⟩=>⟨o,_,e,d⟩|false,⟨o,e,_,d⟩=>⟨o,_,e,d⟩
def Si.extBut{kd:Bool}{h h':Heap}{a c t:Addr}{i:Nat}(x:Si kd h a t i)(e:Heap.ExtBut c h h')(n:a≠c):Si kd h' a t i:=x.at fun _ q=>e _ _ n q
def Sq.extBut{kd:Bool}{h h':Heap}{a c:Addr}{xs:Vw}(x:Sq kd h a xs)(e:Heap.ExtBut c h h')(n:a≠c):Sq kd h' a xs:=x.at fun _ q=>e _ _ n q
section
variable {prog:Program} {w:World} {A:Around} {E:Vq} {s:Shared}
def nx{j t:Addr}{i:Nat}{its:Vw}{x:Value}{Q:Vq}(hj:s.heap.IsTupleIter j t i)(ht:s.heap.IsTuple t its)(hx:its[i]?=some x)
  (k:∀g:Heap,g.IsTupleIter j t (i+1)->Heap.SameBut j s.heap g->Q x { s with heap:=g }):wpAny (model prog w) A (Builtin.SmallTypes.nextOf (.ref j)) Q E s:=by
 obtain⟨ob,eb,kb,db⟩:=id hj
 obtain⟨oc,ec,_,nc,dc⟩:=ht
 unfold Builtin.SmallTypes.nextOf
 refine HL (IG (name:=Str.ofString "__next__") hj.typeIs JA (Jp JA hj.typeIs F.entry_tuple_iterator_next ?_ (F.args_tuple_iterator_next_1 _)))
 show wpAny _ _ (field (.ref j) 0 >>= _) _ _ s;refine HL (Ip eb db (x:=.ref t) rfl ?_)
 show wpAny _ _ (if (Value.ref t == Value.none)=true then _ else _) _ _ s;rw[if_neg (show ¬((Value.ref t == Value.none)=true)from Ig)]
 show wpAny _ _ (field (.ref j) 1 >>= _) _ _ s;refine HL (Ip eb db (x:=.int i 0) rfl ?_)
 show wpAny _ _ (seqItems? (.ref t) >>= _) _ _ s;refine HL (IA ec dc ?_)
 simp only[Int.toNat_natCast,hx];refine HL (wpAny_setField eb db (by simp) (HS ⟨x,rfl,HS (k _ ?_ (K0 ..))⟩))
 exact⟨_,JQ _ eb (Obj.isFreed_of_fields (Obj.data_mapFields db _)),(Obj.cls_mapFields ..).trans kb,by rw[Obj.data_mapFields db];simp[rawInt]⟩
def zP{j t:Addr}{i:Nat}{its:Vw}{Q:Vq}(hh:A.handled=none)(hj:s.heap.IsTupleIter j t i)(ht:s.heap.IsTuple t its)(hx:its[i]?=none)
  (k:∀(g:Heap) (e:Addr),Heap.ExtBut j s.heap g->(∃o,g.get? e=some o/\o.cls = .type "StopIteration")->E (.ref e) { s with heap:=g }):wpAny (model prog w) A (Builtin.SmallTypes.nextOf (.ref j)) Q E s:=by
 obtain⟨ob,eb,kb,db⟩:=id hj
 obtain⟨oc,ec,_,nc,dc⟩:=ht
 unfold Builtin.SmallTypes.nextOf
 refine HL (IG (name:=Str.ofString "__next__") hj.typeIs JA (Jp JA hj.typeIs F.entry_tuple_iterator_next ?_ (F.args_tuple_iterator_next_1 _)))
 show wpAny _ _ (field (.ref j) 0 >>= _) _ _ s;refine HL (Ip eb db (x:=.ref t) rfl ?_)
 show wpAny _ _ (if (Value.ref t == Value.none)=true then _ else _) _ _ s;rw[if_neg (show ¬((Value.ref t == Value.none)=true)from Ig)]
 show wpAny _ _ (field (.ref j) 1 >>= _) _ _ s;refine HL (Ip eb db (x:=.int i 0) rfl ?_)
 show wpAny _ _ (seqItems? (.ref t) >>= _) _ _ s;refine HL (IA ec dc ?_)
 simp only[Int.toNat_natCast,hx];refine HL (JT (HL (wpAny_setField eb db (by simp) ?_)))
 show wpAny _ _ (newExc (.type "StopIteration") [] >>= _) _ _ _;refine HL ?_
 simp only[newExc,newTuple];refine HL (Jb ?_ (by size_fits))
 refine HL (m:=firstArgMember _ _) (wpAny_of_eq (a:=Value.none) (by first|rfl|(simp only[firstArgMember];rfl)) ?_);refine Jb ?_ (by size_fits)
 simp only[raiseNew];refine HL (wpAny_handled ?_)
 first|(rw[hh])|(rw[show A.in1.handled=none from hh])
 exact HL (HS (wpAny_throw (k _ _ (((K0 ..).extBut.push _).push _) ⟨_,HV _ rfl,rfl⟩)))
def wj{kd:Bool}{j t:Addr}{i:Nat}{its:Vw}{x:Value}{Q:Vq}(hj:Si kd s.heap j t i)(ht:Sq kd s.heap t its)(hx:its[i]?=some x)
  (k:∀g:Heap,Si kd g j t (i+1)->Heap.SameBut j s.heap g->Q x { s with heap:=g }):wpAny (model prog w) A (Builtin.SmallTypes.nextOf (.ref j)) Q E s:=by
 cases kd with
 |true=>exact wpAny_nextOf_list_item hj ht hx k
 |false=>exact nx hj ht hx k
def vh{kd:Bool}{j t:Addr}{i:Nat}{its:Vw}{Q:Vq}(hh:A.handled=none)(hj:Si kd s.heap j t i)(ht:Sq kd s.heap t its)(hx:its[i]?=none)
  (k:∀(g:Heap) (e:Addr),Heap.ExtBut j s.heap g->(∃o,g.get? e=some o/\o.cls = .type "StopIteration")->E (.ref e) { s with heap:=g }):wpAny (model prog w) A (Builtin.SmallTypes.nextOf (.ref j)) Q E s:=by
 cases kd with
 |true=>exact wpAny_nextOf_list_end hh hj ht hx k
 |false=>exact zP hh hj ht hx k
variable {ka kb:Bool} {z TI TO i1 i2 l1 l2:Addr} {k1 k2:Nat} {xs ys:Vw} {x y a b:Value}
def kQ{Q:Vq}(D:ZipApart z TI TO i1 i2 l1 l2)(gz:IsZip s.heap z TI TO .none)(gI:IsPair s.heap TI (.ref i1) (.ref i2))(gO:IsPair s.heap TO a b)
  (g1:Si ka s.heap i1 l1 k1) (g2:Si kb s.heap i2 l2 k2) (t1:Sq ka s.heap l1 xs) (t2:Sq kb s.heap l2 ys) (hx:xs[k1]?=some x) (hy:ys[k2]?=some y)
  (k:∀g,IsZip g z TI TO (rawInt s.heap.objs.size)->IsPair g TO x y->Si ka g i1 l1 (k1+1)->Si kb g i2 l2 (k2+1)->IsPair g s.heap.objs.size x y->
   (∀c o,c≠z->c≠TO->c≠i1->c≠i2->s.heap.get? c=some o->g.get? c=some o)->Q (.ref s.heap.objs.size) { s with heap:=g }) :
  wpAny (model prog w) A (Builtin.«zip.__next__» ⟨[.ref z],[]⟩) (fun fin s'=>∃v,fin = .done (.ret v)/\Q v s') E s:=by
 show wpAny _ _ (field (.ref z) 2 >>= _) _ _ _;refine HL (Ip gz rfl (x:=.bool false) rfl ?_)
 show wpAny _ _ (field (.ref z) 3 >>= _) _ _ _;refine HL (Ip gz rfl (x:=.ref TI) rfl (HL (IA gI rfl ?_)))
 show wpAny _ _ (Builtin.SmallTypes.ownedTupleIsFree (.ref z) >>= _) _ _ _;refine HL ?_;unfold Builtin.SmallTypes.ownedTupleIsFree
 refine HL (Ip gz rfl (x:=.none) rfl (HS ?_));simp only[JO]
 refine HL (JT (HL (Ip gz rfl (x:=.ref TO) rfl (HL (IC gz (by simp) fun h₁ z1 q1=>?_)))))
 replace z1:IsZip h₁ z TI TO .ellipsis:=z1
 refine HL ?_;simp only[List.zipIdx_cons,List.zipIdx_nil,KQ,List.forIn_nil]
 refine HL (HL (JH ?_));show wpAny _ _ (Builtin.SmallTypes.nextOf (.ref i1) >>= _) _ _ _
 refine HL (wj (g1.extBut q1.extBut D.i1z) (t1.extBut q1.extBut D.l1z) hx fun h₂ n1 q2=>HS ?_)
 have o2:IsPair h₂ TO a b:=q2.extBut _ _ D.TOi1 (q1.extBut _ _ D.TOz gO)
 refine HL (IA o2 rfl (HL (KI o2 fun h₃ o3 q3=>?_)))
 replace o3:IsPair h₃ TO x b:=o3
 refine HL (Kl (HS ?_));refine HL (HL (JH ?_));show wpAny _ _ (Builtin.SmallTypes.nextOf (.ref i2) >>= _) _ _ _
 refine HL (wj (((g2.extBut q1.extBut D.i2z).extBut q2.extBut D.i12.symm).extBut q3.extBut D.TOi2.symm) (((t2.extBut q1.extBut D.l2z).extBut q2.extBut D.l2i1).extBut q3.extBut D.l2TO) hy fun h₄ n2 q4=>HS ?_)
 have o4:IsPair h₄ TO x b:=q4.extBut _ _ D.TOi2 o3
 refine HL (IA o4 rfl (HL (KI o4 fun h₅ o5 q5=>?_)))
 replace o5:IsPair h₅ TO x y:=o5
 refine HL (Kl (HS (HS ?_)));refine HL (IA o5 rfl (HL (wpAny_newTuple ?_)))
 have sz:h₅.objs.size=s.heap.objs.size:=by rw[q5.1,q4.1,q3.1,q2.1,q1.1]
 have z5:IsZip h₅ z TI TO .ellipsis:=q5.extBut _ _ D.TOz.symm (q4.extBut _ _ D.i2z.symm (q3.extBut _ _ D.TOz.symm (q2.extBut _ _ D.i1z.symm z1)))
 have kk:∀c o,c≠z->c≠TO->c≠i1->c≠i2->s.heap.get? c=some o->h₅.get? c=some o:=fun c o c1 c2 c3 c4 e=>q5.extBut _ _ c2 (q4.extBut _ _ c4 (q3.extBut _ _ c2 (q2.extBut _ _ c3 (q1.extBut _ _ c1 e))))
 have m1:Si ka h₅ i1 l1 (k1+1):=((n1.extBut q3.extBut D.TOi1.symm).extBut q4.extBut D.i12).extBut q5.extBut D.TOi1.symm
 have m2:Si kb h₅ i2 l2 (k2+1):=n2.extBut q5.extBut D.TOi2.symm
 have zl:z < h₅.objs.size:=HR z5
 show wpAny _ _ (Builtin.SmallTypes.ownedTupleHandOut (.ref z) (.ref h₅.objs.size) >>= _) _ _ _;refine HL ?_;unfold Builtin.SmallTypes.ownedTupleHandOut
 have z6:IsZip (h₅.push { cls:=.type "tuple",data:=.seq #[x,y] }) z TI TO .ellipsis:=HM _ z5
 refine HL (IC z6 (by simp) fun h₇ z7 q7=>?_)
 replace z7:IsZip h₇ z TI TO (rawInt h₅.objs.size):=z7
 refine IC z7 (by simp) fun h₈ z8 q8=>?_
 replace z8:IsZip h₈ z TI TO (rawInt h₅.objs.size):=z8
 have up:∀c o,c≠z->h₅.get? c=some o->h₈.get? c=some o:=fun c o c1 e=>q8.extBut _ _ c1 (q7.extBut _ _ c1 (HM _ e))
 have T8:IsPair h₈ h₅.objs.size x y:=q8.extBut _ _ (JM zl) (q7.extBut _ _ (JM zl) (HV _ rfl))
 rw[sz]at z8 T8
 refine HS ⟨_,rfl,?_⟩
 show Q (.ref h₅.objs.size) _
 rw[sz]
 exact k h₈ z8 (up _ _ D.TOz o5) (m1.at fun o e=>up _ o D.i1z e) (m2.at fun o e=>up _ o D.i2z e) T8 fun c o c1 c2 c3 c4 e=>up c o c1 (kk c o c1 c2 c3 c4 e)
def mV{Q:Fin->Shared->Prop}(hh:A.handled=none)(D:ZipApart z TI TO i1 i2 l1 l2)(gz:IsZip s.heap z TI TO .none)(gI:IsPair s.heap TI (.ref i1) (.ref i2))(gO:IsPair s.heap TO a b)
  (g1:Si ka s.heap i1 l1 k1) (g2:Si kb s.heap i2 l2 k2) (t1:Sq ka s.heap l1 xs) (t2:Sq kb s.heap l2 ys) (he:xs[k1]?=none\/ys[k2]?=none)
  (k:∀(g:Heap) (e:Addr),(∀c o,c≠z->c≠TO->c≠i1->c≠i2->s.heap.get? c=some o->g.get? c=some o)->(∃o,g.get? e=some o/\o.cls = .type "StopIteration")->E (.ref e) { s with heap:=g }) :
  wpAny (model prog w) A (Builtin.«zip.__next__» ⟨[.ref z],[]⟩) Q E s:=by
 show wpAny _ _ (field (.ref z) 2 >>= _) _ _ _;refine HL (Ip gz rfl (x:=.bool false) rfl ?_)
 show wpAny _ _ (field (.ref z) 3 >>= _) _ _ _;refine HL (Ip gz rfl (x:=.ref TI) rfl (HL (IA gI rfl ?_)))
 show wpAny _ _ (Builtin.SmallTypes.ownedTupleIsFree (.ref z) >>= _) _ _ _;refine HL ?_;unfold Builtin.SmallTypes.ownedTupleIsFree
 refine HL (Ip gz rfl (x:=.none) rfl (HS ?_));simp only[JO]
 refine HL (JT (HL (Ip gz rfl (x:=.ref TO) rfl (HL (IC gz (by simp) fun h₁ z1 q1=>?_)))))
 replace z1:IsZip h₁ z TI TO .ellipsis:=z1
 refine HL ?_;simp only[List.zipIdx_cons,List.zipIdx_nil,KQ,List.forIn_nil]
 refine HL (HL (JH ?_));show wpAny _ _ (Builtin.SmallTypes.nextOf (.ref i1) >>= _) _ _ _
 cases hx:xs[k1]? with
 |none=>
  refine HL (vh hh (g1.extBut q1.extBut D.i1z) (t1.extBut q1.extBut D.l1z) hx fun h₂ e q2 ⟨oe,ge,ce⟩=>?_)
  have z2:IsZip h₂ z TI TO .ellipsis:=q2 _ _ D.i1z.symm z1
  have ez:e≠z:=fun u=>by subst u;rw[z2]at ge;cases ge;simp at ce
  exact IC z2 (by simp) fun h₃ _ q3=>k h₃ e (fun c o c1 _ c3 _ u=>q3.extBut _ _ c1 (q2 _ _ c3 (q1.extBut _ _ c1 u))) ⟨oe,q3.extBut _ _ ez ge,ce⟩
 |some x=>
  have hy:ys[k2]?=none:=he.elim (fun q=>by rw[hx]at q;cases q) id
  refine HL (wj (g1.extBut q1.extBut D.i1z) (t1.extBut q1.extBut D.l1z) hx fun h₂ n1 q2=>HS ?_)
  have o2:IsPair h₂ TO a b:=q2.extBut _ _ D.TOi1 (q1.extBut _ _ D.TOz gO)
  refine HL (IA o2 rfl (HL (KI o2 fun h₃ o3 q3=>?_)))
  refine HL (Kl (HS ?_));refine HL (HL (JH ?_));show wpAny _ _ (Builtin.SmallTypes.nextOf (.ref i2) >>= _) _ _ _
  refine HL (vh hh (((g2.extBut q1.extBut D.i2z).extBut q2.extBut D.i12.symm).extBut q3.extBut D.TOi2.symm) (((t2.extBut q1.extBut D.l2z).extBut q2.extBut D.l2i1).extBut q3.extBut D.l2TO) hy fun h₄ e q4 ⟨oe,ge,ce⟩=>?_)
  have z4:IsZip h₄ z TI TO .ellipsis:=q4 _ _ D.i2z.symm (q3.extBut _ _ D.TOz.symm (q2.extBut _ _ D.i1z.symm z1))
  have ez:e≠z:=fun u=>by subst u;rw[z4]at ge;cases ge;simp at ce
  exact IC z4 (by simp) fun h₅ _ q5=>k h₅ e (fun c o c1 c2 c3 c4 u=>q5.extBut _ _ c1 (q4 _ _ c4 (q3.extBut _ _ c2 (q2.extBut _ _ c3 (q1.extBut _ _ c1 u))))) ⟨oe,q5.extBut _ _ ez ge,ce⟩
def hZ{Q:Option Value->Shared->Prop}(D:ZipApart z TI TO i1 i2 l1 l2)(gz:IsZip s.heap z TI TO .none)(gI:IsPair s.heap TI (.ref i1) (.ref i2))(gO:IsPair s.heap TO a b)
  (g1:Si ka s.heap i1 l1 k1) (g2:Si kb s.heap i2 l2 k2) (t1:Sq ka s.heap l1 xs) (t2:Sq kb s.heap l2 ys) (hx:xs[k1]?=some x) (hy:ys[k2]?=some y)
  (k:∀g,IsZip g z TI TO (rawInt s.heap.objs.size)->IsPair g TO x y->Si ka g i1 l1 (k1+1)->Si kb g i2 l2 (k2+1)->IsPair g s.heap.objs.size x y->
   (∀c o,c≠z->c≠TO->c≠i1->c≠i2->s.heap.get? c=some o->g.get? c=some o)->Q (some (.ref s.heap.objs.size)) { s with heap:=g }):wpAny (model prog w) A (pyNext (.ref z)) Q E s:=by
 have ty:s.TypeIs (.ref z) "zip":=⟨_,gz,rfl⟩
 unfold pyNext
 exact HL (wpAny_attempt (IG (name:=Str.ofString "__next__") ty Ju (Jp Ju ty KC
  (kQ D gz gI gO g1 g2 t1 t2 hx hy fun g a1 a2 a3 a4 a5 a6=>HS (k g a1 a2 a3 a4 a5 a6)) (Kv _))))
def i9{Q:Option Value->Shared->Prop}(hh:A.handled=none)(D:ZipApart z TI TO i1 i2 l1 l2)(gz:IsZip s.heap z TI TO .none)(gI:IsPair s.heap TI (.ref i1) (.ref i2))(gO:IsPair s.heap TO a b)
  (g1:Si ka s.heap i1 l1 k1) (g2:Si kb s.heap i2 l2 k2) (t1:Sq ka s.heap l1 xs) (t2:Sq kb s.heap l2 ys) (he:xs[k1]?=none\/ys[k2]?=none)
  (k:∀g:Heap,(∀c o,c≠z->c≠TO->c≠i1->c≠i2->s.heap.get? c=some o->g.get? c=some o)->Q none { s with heap:=g }):wpAny (model prog w) A (pyNext (.ref z)) Q E s:=by
 have ty:s.TypeIs (.ref z) "zip":=⟨_,gz,rfl⟩
 unfold pyNext
 refine HL (wpAny_attempt (IG (name:=Str.ofString "__next__") ty Ju (Jp Ju ty KC (mV hh D gz gI gO g1 g2 t1 t2 he fun g e kk ⟨o,ho,hc⟩=>?_) (Kv _))))
 exact HL (wpAny_isInstance (T:="StopIteration") (b:=true) ⟨o,ho,hc⟩ isSubtype_stop (HS (k _ kk)))
end
noncomputable abbrev it(kd:Bool)(l:Addr):Obj:={ cls:=.type (cond kd "list_iterator" "tuple_iterator"),data:=.fields #[.ref l,.int 0 0] }
def Si.mk{kd:Bool}{h:Heap}{a l:Addr}(e:h.get? a=some (it kd l)):Si kd h a l 0:=match kd,e with|true,e=>⟨_,e,rfl,rfl⟩|false,e=>⟨_,e,rfl,rfl⟩
noncomputable abbrev H1(ka:Bool)(h:Heap)(l1:Addr):Heap:=h.push (it ka l1)
noncomputable abbrev H2(ka kb:Bool)(h:Heap)(l1 l2:Addr):Heap:=(H1 ka h l1).push (it kb l2)
noncomputable abbrev H3(ka kb:Bool)(h:Heap)(l1 l2:Addr):Heap:=(H2 ka kb h l1 l2).push { cls:=.type "tuple",data:=.seq #[.ref h.objs.size,.ref (H1 ka h l1).objs.size] }
noncomputable abbrev H4(ka kb:Bool)(h:Heap)(l1 l2:Addr):Heap:=(H3 ka kb h l1 l2).push { cls:=.type "tuple",data:=.seq #[.none,.none] }
noncomputable abbrev H5(ka kb:Bool)(h:Heap)(l1 l2:Addr):Heap:=(H4 ka kb h l1 l2).push { cls:=.type "zip",data:=.fields #[.none,.bool false,.bool false,.ref (H2 ka kb h l1 l2).objs.size,.ref (H3 ka kb h l1 l2).objs.size] }
def h_(ka kb:Bool)(l1 l2:Addr)(xs ys:Vw) :
  Meets (Builtin.«zip.__new__» ⟨[.type "zip",.ref l1,.ref l2],[]⟩) (fun _ R s=>Sq ka s.heap l1 xs/\Sq kb s.heap l2 ys/\R (.ok (.ret (.ref (H4 ka kb s.heap l1 l2).objs.size))) { s with heap:=H5 ka kb s.heap l1 l2 }):=
 .of_wp fun prog w A R s h=>by
  obtain⟨hp,g,d,tk,os⟩:=s;obtain⟨e1,e2,h⟩:=h
  have hsub:=sub_zip
  match ka,kb,e1,e2,h with
  |false,false,e1,e2,h=>
   have L1:Heap.IsTuple (Shared.heap ⟨hp,g,d,tk,os⟩) l1 xs:=e1
   have L2:Heap.IsTuple (Shared.heap ⟨hp.push { cls:=.type "tuple_iterator",data:=.fields #[.ref l1,.int 0 0] },g,d,tk,os⟩) l2 ys:=Jd e2 _
   wp_walk using ID L1,ID L2
   exact⟨_,rfl,h⟩
  |false,true,e1,e2,h=>
   have L1:Heap.IsTuple (Shared.heap ⟨hp,g,d,tk,os⟩) l1 xs:=e1
   have L2:Heap.IsList (Shared.heap ⟨hp.push { cls:=.type "tuple_iterator",data:=.fields #[.ref l1,.int 0 0] },g,d,tk,os⟩) l2 ys:=Jq e2 _
   wp_walk using ID L1,II L2
   exact⟨_,rfl,h⟩
  |true,false,e1,e2,h=>
   have L1:Heap.IsList (Shared.heap ⟨hp,g,d,tk,os⟩) l1 xs:=e1
   have L2:Heap.IsTuple (Shared.heap ⟨hp.push { cls:=.type "list_iterator",data:=.fields #[.ref l1,.int 0 0] },g,d,tk,os⟩) l2 ys:=Jd e2 _
   wp_walk using II L1,ID L2
   exact⟨_,rfl,h⟩
  |true,true,e1,e2,h=>
   have L1:Heap.IsList (Shared.heap ⟨hp,g,d,tk,os⟩) l1 xs:=e1
   have L2:Heap.IsList (Shared.heap ⟨hp.push { cls:=.type "list_iterator",data:=.fields #[.ref l1,.int 0 0] },g,d,tk,os⟩) l2 ys:=Jq e2 _
   wp_walk using II L1,II L2
   exact⟨_,rfl,h⟩
section
variable {ka kb:Bool} {prog:Program} {w:World} {A:Around} {E:Vq} {s:Shared}
def i_{l1 l2:Addr}{xs ys:Vw}{Q:Vq}(e1:Sq ka s.heap l1 xs)(e2:Sq kb s.heap l2 ys)
  (k:∀g,IsZip g (s.heap.objs.size+4) (s.heap.objs.size+2) (s.heap.objs.size+3) .none->IsPair g (s.heap.objs.size+2) (.ref s.heap.objs.size) (.ref (s.heap.objs.size+1))->
   IsPair g (s.heap.objs.size+3) .none .none->Si ka g s.heap.objs.size l1 0->Si kb g (s.heap.objs.size+1) l2 0->
   (∀c o,s.heap.get? c=some o->g.get? c=some o)->Q (.ref (s.heap.objs.size+4)) { s with heap:=g }) :
  wpAny (model prog w) A (call (.type "zip") [.ref l1,.ref l2]) Q E s:=by
 refine callType_new F.called_zip (by decide) (F.typeCall_zip_2 _ _) (F.newCall_zip_2 _ _) (fun obj=>F.args_object_init_3 obj _ _) F.entry_zip_new (h_ ka kb l1 l2 xs ys) ⟨e1,e2,?_⟩
 have z1:(H1 ka s.heap l1).objs.size=s.heap.objs.size+1:=IW ..
 have z2:(H2 ka kb s.heap l1 l2).objs.size=s.heap.objs.size+2:=by rw[IW,z1]
 have z3:(H3 ka kb s.heap l1 l2).objs.size=s.heap.objs.size+3:=by rw[IW,z2]
 have z4:(H4 ka kb s.heap l1 l2).objs.size=s.heap.objs.size+4:=by rw[IW,z3]
 have g5:(H5 ka kb s.heap l1 l2).get? (H4 ka kb s.heap l1 l2).objs.size=some _:=HV _ rfl
 have g4:(H5 ka kb s.heap l1 l2).get? (H3 ka kb s.heap l1 l2).objs.size=some _:=HM _ (HV _ rfl)
 have g3:(H5 ka kb s.heap l1 l2).get? (H2 ka kb s.heap l1 l2).objs.size=some _:=HM _ (HM _ (HV _ rfl))
 have g2:(H5 ka kb s.heap l1 l2).get? (H1 ka s.heap l1).objs.size=some _:=HM _ (HM _ (HM _ (HV _ rfl)))
 have g1:(H5 ka kb s.heap l1 l2).get? s.heap.objs.size=some _:=HM _ (HM _ (HM _ (HM _ (HV _ rfl))))
 show _/\_
 rw[z2,z3,z4]at g5
 rw[z1,z2]at g3
 rw[z3]at g4
 rw[z1]at g2
 rw[z4]
 exact⟨⟨_,g5,rfl⟩,k _ g5 g3 g4 (.mk g1) (.mk g2) fun c o e=>HM _ (HM _ (HM _ (HM _ (HM _ e))))⟩
end
end Zt
namespace L2
open PySem PySem.Spec PyProof.Rows
section
variable {X:Cx} {pins:Va} {σ:St} {H:Hp} {s:Shared} {h':Heap}
def Inv.Cn{t':Nat}{fp:List Addr}(I:Inv X pins σ H s)(k:∀b o,b ∉ fp->s.heap.get? b=some o->h'.get? b=some o)(hf:∀b∈fp,eN X pins H b):Inv X pins σ H { s with heap:=h',toks:=t' }:=by
 have EV:∀b u,H b=some u->b ∉ fp:=fun b u e z=>by rw[(hf b z).1]at e;cases e
 refine I.step (g':=s.gens) (d':=s.drawn) (ch:=fp) (fun b hb=>?_) (fun b o _ _ hc e _=>k b o hc e) (fun b o _ _ hc e _=>⟨o.slots,k b o hc e⟩) (fun _ _ _ _ n=>n)
  (fun b o hc e=>⟨o,k b o hc e⟩) (fun _ _ e=>e) (fun _ _ _ e=>e) (fun b ps e=>⟨#[],by rw[e];simp⟩) (fun m hm=>?_) (fun b u e=>?_) I.bare
 ·obtain⟨f0,f1,f2,f3,f4,f5⟩:=hf b hb
  exact⟨f3,f1,f4,f5⟩
 ·obtain⟨o,es,ep,ho,r⟩:=hm
  exact⟨o,es,ep,k _ o (fun z=>(hf _ z).2.1 rfl) ho,r⟩
 ·refine(I.hok b u e).stay (fun c v hc q=>k c v ?_ q) (fun _ q=>q) fun _ _ q=>q
  rcases hc with z|z
  ·rw[z];exact EV b u e
  ·exact EV c _ z
def Inv.Dz{D:Addr}{us:Vv}{ys:List V}(I:Inv X pins σ H s)(f:eN X pins H D)(e:AM s.heap D us.toArray)(r:Vals ys us)(hz:ys.length<=sizeLine) :
  Inv X pins σ (upd H D (.tup ys)) s:=by
 obtain⟨f0,f1,f2,f3,f4,f5⟩:=f
 have nD:∀b u,H b=some u->b≠D:=fun b u q=>aM q f0
 have hok:BD X.prog X.w (upd H D (.tup ys)) s.heap:=fun b u q=>by
  by_cases hb:b=D
  ·subst hb
   rw[aA]at q
   cases q
   exact⟨hz,us,r,e⟩
  ·rw[az hb]at q
   exact(I.hok b u q).stay (fun _ _ _ z=>z) (fun c z=>by rw[az (nD c _ z)];exact z) fun c xs z=>by rw[az (nD c _ z)];exact z
 exact I.step (H':=upd H D (.tup ys)) (h':=s.heap) (g':=s.gens) (t':=s.toks) (d':=s.drawn) (ch:=[D])
  (fun b hb=>by
   have z:b=D:=by simpa using hb
   subst z
   exact⟨f3,f1,f4,f5⟩)
  (fun _ _ _ _ _ q _=>q) (fun _ o _ _ _ q _=>⟨o.slots,q⟩)
  (fun b o hb _ n=>by rw[az (fun z=>hb (by simp[z]))];exact n)
  (fun _ o _ q=>⟨o,q⟩) (fun b xs q=>by rw[az (nD b _ q)];exact q) (fun b o u q=>by rw[az (nD b _ q)];exact q)
  (fun b ps q=>⟨#[],by rw[az (nD b _ q),q];simp⟩) (fun _ q=>q) hok I.bare
end
def jR(kd:Bool)(K:Vo)(H:Hp)(a:Addr)(xs:List V):Prop:=cond kd (SqL K H a xs) (SqT K H a xs)
def Inv.B6{X:Cx}{pins:Va}{σ:St}{H:Hp}{s:Shared}{kd:Bool}{a:Addr}{xs:List V}(I:Inv X pins σ H s)(h:jR kd X.K H a xs):∃its:List Value,Vals xs its/\Zt.Sq kd s.heap a its.toArray:=by
 cases kd with
 |true=>obtain⟨i,r,p,z⟩:=I.list h;exact⟨i,r,p.isList⟩
 |false=>obtain⟨i,r,p,z⟩:=I.tuple h;exact⟨i,r,p⟩
def Inv.Bw{X:Cx}{pins:Va}{σ:St}{H:Hp}{s:Shared}{kd:Bool}{a:Addr}{xs ys:List V}(I:Inv X pins σ H s)(h:jR kd X.K H a xs)(g:jR kd X.K H a ys):xs=ys:=by
 cases kd with
 |true=>exact I.C1 h g
 |false=>exact I.CF h g
noncomputable def zd(ka kb:Bool)(K:Vo)(a b:Addr):It:=
  ⟨fun i H=>∃xs ys x y,jR ka K H a xs/\jR kb K H b ys/\xs[i]?=some x/\ys[i]?=some y,
   fun i H v H'=>∃p x y,v = .ref p/\H p=none/\H'=upd H p (.tup [x,y])/\∀xs ys,jR ka K H a xs->jR kb K H b ys->xs[i]?=some x/\ys[i]?=some y,
   fun i H=>∃xs ys,jR ka K H a xs/\jR kb K H b ys/\(xs.length<=i\/ys.length<=i)⟩
def qv{ka kb:Bool}{P:Program}{w:World}{K:Vo}{elts:List Expr}{k0:Nat}{Cr:Pos}{z TI TO i1 i2 a b:Addr}(D:ZipApart z TI TO i1 i2 a b) :
  lR P w K (.Tuple elts k0 Cr) (zd ka kb K a b) [z,TI,TO,i1,i2] z (fun i h=>IsZip h z TI TO .none/\IsPair h TI (.ref i1) (.ref i2)/\(∃x y,IsPair h TO x y)/\Zt.Si ka h i1 a i/\Zt.Si kb h i2 b i) where
 mem:=by simp
 obj:=fun i h st c hc=>by
  obtain⟨gz,gI,⟨x,y,gO⟩,g1,g2⟩:=st
  obtain⟨o1,_,e1,d1⟩:=g1.ob;obtain⟨o2,_,e2,d2⟩:=g2.ob
  simp only[HZ,Ie,Je]at hc
  rcases hc with rfl|rfl|rfl|rfl|rfl
  ·exact⟨_,gz,fun v q=>by cases q⟩
  ·exact⟨_,gI,fun v q=>by cases q⟩
  ·exact⟨_,gO,fun v q=>by cases q⟩
  ·exact⟨_,e1,fun v q=>by rw[d1]at q;cases q⟩
  ·exact⟨_,e2,fun v q=>by rw[d2]at q;cases q⟩
 keep:=fun i h h' st k=>by
  obtain⟨gz,gI,⟨x,y,gO⟩,g1,g2⟩:=st
  exact⟨k z (by simp) _ gz,k TI (by simp) _ gI,⟨x,y,k TO (by simp) _ gO⟩,g1.at fun o e=>k i1 (by simp) o e,g2.at fun o e=>k i2 (by simp) o e⟩
 item:=by
  intro X hP hw hK hc i pins s σ H E I hf st hg
  subst hP hw hK
  obtain⟨gz,gI,⟨ta,tb,gO⟩,g1,g2⟩:=st
  obtain⟨xs,ys,x,y,DV,Ev,hx,hy⟩:=hg
  obtain⟨ia,ra,pa⟩:=I.B6 DV
  obtain⟨ib,rb,pb⟩:=I.B6 Ev
  obtain⟨u,hu,ru⟩:=ra.get hx
  obtain⟨v,hv,rv⟩:=rb.get hy
  refine Zt.hZ D gz gI gO g1 g2 pa pb (x:=u) (y:=v) (by simpa using hu) (by simpa using hv) fun g a1 a2 a3 a4 a5 a6=>?_
  refine⟨_,rfl,wpAny_letOwnedTupleGo_zip (s:={ s with heap:=g }) a1 fun g' z' q'=>?_⟩
  have kk:∀c o,c ∉ [z,TI,TO,i1,i2]->s.heap.get? c=some o->g'.get? c=some o:=fun c o hc e=>by
   simp only[HZ,Ie,Je,not_or]at hc
   exact q'.extBut _ _ hc.1 (a6 c o hc.1 hc.2.2.1 hc.2.2.2.1 hc.2.2.2.2 e)
  have I1:Inv X pins σ H { s with heap:=g' }:=I.Cn (t':=s.toks) kk hf
  have f0:eN X pins H s.heap.objs.size:=I.CA (HN _) (I.hok.fresh (HN _))
  have eT:AM g' s.heap.objs.size [u,v].toArray:=⟨_,q'.extBut _ _ (JM (HR gz)) a5,rfl,rfl,_,rfl⟩
  have I2:=I1.Dz f0 eT (.cons ru (.cons rv .nil)) (by show 2<=sizeLine;decide)
  refine⟨.ref s.heap.objs.size,_,I2,rfl,⟨s.heap.objs.size,x,y,rfl,f0.1,rfl,fun xs' ys' h1 h2=>by rw[I.Bw h1 DV,I.Bw h2 Ev];exact⟨hx,hy⟩⟩,
   ⟨z',q'.extBut _ _ D.TIz (a6 TI _ D.TIz D.TITO D.TIi1 D.TIi2 gI),⟨_,_,q'.extBut _ _ D.TOz a2⟩,a3.extBut q'.extBut D.i1z,a4.extBut q'.extBut D.i2z⟩,fun c hc=>?_⟩
  have hlt:c < s.heap.objs.size:=by
   obtain⟨_,_,e1,_⟩:=g1.ob
   obtain⟨_,_,e2,_⟩:=g2.ob
   simp only[HZ,Ie,Je]at hc
   rcases hc with rfl|rfl|rfl|rfl|rfl
   ·exact HR gz
   ·exact HR gI
   ·exact HR gO
   ·exact HR e1
   ·exact HR e2
  rw[az (Ik hlt)]
  exact(hf c hc).1
 done:=by
  intro X hP hw hK hc i pins s σ H E I hf st hg
  subst hP hw hK
  obtain⟨gz,gI,⟨ta,tb,gO⟩,g1,g2⟩:=st
  obtain⟨xs,ys,DV,Ev,hl⟩:=hg
  obtain⟨ia,ra,pa⟩:=I.B6 DV
  obtain⟨ib,rb,pb⟩:=I.B6 Ev
  have la:=ra.length
  have lb:=rb.length
  refine Zt.i9 (I.ok.hd hc) D gz gI gO g1 g2 pa pb ?_ fun g kk=>⟨rfl,I.Cn (t':=s.toks) (fun c o hc e=>?_) hf⟩
  ·rcases hl with q|q
   ·exact .inl (by simp;omega)
   ·exact .inr (by simp;omega)
  ·simp only[HZ,Ie,Je,not_or]at hc
   exact kk c o hc.1 hc.2.2.1 hc.2.2.2.1 hc.2.2.2.2 e
 self:=fun _ _ _ _ _ st h=>KD st.1 h
section
variable {X:Cx}
def ze(K:Vo)(ta:TA):TI:=fun σ H R=>ta σ H fun vs H1=>∃ka kb a b,vs=[.ref a,.ref b]/\(∃xs,jR ka K H1 a xs)/\(∃ys,jR kb K H1 b ys)/\R (zd ka kb K a b) H1
def vi{elts:List Expr}{k0:Nat}{Cr:Pos}{a b:Expr}{ta:TA}{p pos:Pos}(hg:Gl X "zip")(hm:X.mg "zip" = none)(hv:bootBuiltins "zip" = some (.type "zip"))(ha:PA X [a,b] ta)
  (hs:starEach [a,b] X.env=[(false,eval a X.env),(false,eval b X.env)]:=by rfl) (hs2:starEach [b] X.env=[(false,eval b X.env)]:=by rfl):PI X (.Tuple elts k0 Cr) (.Call (.Name "zip" p) [a,b] [] pos) (ze X.K ta):=by
 intro pins s σ H R I h
 refine Call_ (fR I hg hm hv (IQ (Ak (ha pos pins s σ H _ I h) fun us s1 ⟨vs,H1,I1,r1,q1⟩=>?_) (by rw[hs,hs2]) (by rw[hs2];rfl)))
 obtain⟨ka,kb,a,b,e,⟨xs,qa⟩,⟨ys,qb⟩,q⟩:=q1
 subst e
 obtain⟨u,v,rfl,ru,rv⟩:=pW r1
 cases ru
 cases rv
 obtain⟨ia,ra,pa⟩:=I1.B6 qa
 obtain⟨ib,rb,pb⟩:=I1.B6 qb
 have la:a < s1.heap.objs.size:=pa.lt
 have lb:b < s1.heap.objs.size:=pb.lt
 refine Zt.i_ pa pb fun g gz gI gO g1 g2 kk=>?_
 refine KD (s:={ s1 with heap:=g }) gz ?_
 refine⟨_,[s1.heap.objs.size+4,s1.heap.objs.size+2,s1.heap.objs.size+3,s1.heap.objs.size,s1.heap.objs.size+1],_,_,H1,rfl,I1.kept (t':=s1.toks) kk,qv (zipApart_new la lb),⟨gz,gI,⟨_,_,gO⟩,g1,g2⟩,fun c hc=>?_,q⟩
 have hle:s1.heap.objs.size<=c:=by
  simp only[HZ,Ie,Je]at hc
  rcases hc with rfl|rfl|rfl|rfl|rfl
  ·exact Ja _ _
  ·exact Ja _ _
  ·exact Ja _ _
  ·exact HN _
  ·exact Ja _ _
 exact I1.CA hle (I1.hok.fresh hle)
end
section
variable {env:Env} {rest:List Expr} {pos:Pos}
def oG{a:Expr}{gs:List Comprehension}{sc:Scope}:starEach (.ListComp a gs sc pos::rest) env=(false,eval (.ListComp a gs sc pos) env)::starEach rest env:=rfl
end
end L2
namespace Et
open PySem
open Sem (wp)
open AutoSeq1 (wpAny_loadPart')
end Et
namespace L2
open PySem PySem.Spec PyProof.Rows
end L2
namespace Wd
open PySem L2 PyProof.Rows
noncomputable def abc:Str:="abcdefghijklmnopqrstuvwxyz"
noncomputable def AV:List Str:=["jars","deed","rest","pay","put","then","either","take","often","use"]
def vj:∀i,i < 26->abc.cps.toList[i]?=some (97+i):=by decide +kernel
def iT:abc.length<=sizeLine/\abc.cps.toList.length=26:=by decide +kernel
def qw:∀i,i < 26->Builtin.Str.occurrences abc (kP (97+i)) 0 abc.length 1=[i]:=by decide +kernel
theorem nI{α:Type} [BEq α] [LawfulBEq α]:∀{xs ys:List α},xs.Nodup->(∀x∈xs,x∈ys)->xs.length<=ys.length
 |[],ys,_,_=>IM _
 |x::xs,ys,nd,h=>by
  have hx:=h x (Jl ..)
  have q:=nI (xs:=xs) (ys:=ys.erase x) (JE.mp nd).2 fun y hy=>by
   have ne:y≠x:=fun e=>(JE.mp nd).1 (e▸hy)
   exact(List.mem_erase_of_ne ne).mpr (h y (IZ _ hy))
  rw[List.length_erase_of_mem hx]at q
  have:=List.length_pos_of_mem hx
  rw[Ic]
  omega
noncomputable def cand(r:List Nat)(i:Nat):Str:=⟨((97+i % 26)::r).toArray⟩
def qx{r:List Nat}{i j:Nat}(h:cand r i=cand r j):i % 26=j % 26:=by
 have e:(((97+i % 26)::r).toArray).toList=(((97+j % 26)::r).toArray).toList:=IS (fun z:Str=>z.cps.toList) h
 simp only[List.cons.injEq]at e
 omega
def mW(r:List Nat)(c:Nat):((List.range 26).map fun i=>cand r (c+i)).Nodup:=by
 refine List.pairwise_map.mpr (List.Pairwise.imp_of_mem (R:=(·≠·)) ?_ List.nodup_range)
 intro a b ha hb ne e
 have h1:=Km.mp ha
 have h2:=Km.mp hb
 have h3:=qx e
 omega
def oH(r:List Nat)(c:Nat)(bad:Vs)(h:bad.length < 26):∃j,j < 26/\cand r (c+j) ∉ bad:=by
 refine Classical.byContradiction fun no=>?_
 have q:=nI (mW r c) (ys:=bad) fun x hx=>by
  obtain⟨j,hj,rfl⟩:=Ii.mp hx
  exact Classical.byContradiction fun z=>no ⟨j,Km.mp hj,z⟩
 rw[HQ,Jf]at q
 omega
structure CZ (z:Str):Prop where
 ne:z.cps.toList≠[]
 le:z.cps.toList.length<=6
 sm:∀c∈z.cps.toList,97<=c/\c<=122
theorem CZ.cand{z:Str}(h:CZ z):∃i r,z=Wd.cand r i/\i < 26/\r.length<=5/\∀c∈r,97<=c/\c<=122:=by
 obtain⟨⟨⟨l⟩⟩,ne,le,sm⟩:∃z',_/\_/\_:=⟨z,h.ne,h.le,h.sm⟩
 obtain⟨⟨l⟩⟩:=z
 cases l with
 |nil=>exact absurd rfl h.ne
 |cons c r=>
  have q:=h.sm c (Jl ..)
  refine⟨c - 97,r,?_,by omega,by have:=h.le;simp at this;omega,fun d hd=>h.sm d (IZ _ hd)⟩
  unfold Wd.cand
  rw[show 97+(c - 97) % 26=c by omega]
def qy{r:List Nat}(h:r.length<=5)(hs:∀c∈r,97<=c/\c<=122)(i:Nat):CZ (cand r i):=by
 refine⟨by simp[cand],by simp[cand];omega,fun c hc=>?_⟩
 have hc':c∈(97+i % 26)::r:=hc
 rcases HZ.mp hc' with e|e
 ·omega
 ·exact hs c e
def CZ.len{z:Str}(h:CZ z):z.length<=6:=by have q:=h.le;rw[KZ]at q;exact q
def CZ.line{z:Str}(h:CZ z):z.length<=sizeLine:=Ib h.len (by decide)
def ki(r:List Nat)(i:Nat):AS (cand r i).cps.toList 0=some (97+i % 26):=bA (j:=0) rfl
def fy(r:List Nat)(i:Nat):Txt.slice (cand r i) (some 1) none=⟨r.toArray⟩:=by
 have e:Txt.slice (cand r i) (some 1) none=StrLaws.sliceText (cand r i) (some 1) none:=rfl
 rw[e,StrLaws.sliceText_from ⟨by decide,by simp[cand];omega⟩]
 simp[cand]
def kj(r:List Nat)(i:Nat):(kP (97+(i+1) % 26):Str)++(⟨r.toArray⟩:Str)=cand r (i+1):=by
 refine Str.ext' ?_
 show #[97+(i+1) % 26]++r.toArray=_
 simp[cand]
def kR(i:Nat):AS abc.cps.toList ((i % 26:Nat):Int)=some (97+i % 26):=bA (vj _ (Nat.mod_lt _ (by decide)))
def ja(cs:List Nat):Txt.join "" (cs.map kP)=⟨cs.toArray⟩:=by
 have q:=join_nil_signs ⟨cs.toArray⟩
 have e:Txt.join "" (cs.map kP)=Str.join ⟨#[]⟩ (cs.map kP):=StrLaws.glued_eq_join _ _
 rw[e]
 exact q
def sW(cs:List Nat):((cs.map kP).map (·.length)).sum=cs.length:=by
 induction cs with
 |nil=>rfl
 |cons c r ih=>rw[Ir,Ir,List.sum_cons,ih,Ic];show 1+r.length=_;omega
def sX{cs:List Nat}{a i:Nat}(h:cs.length<=5)(hs:∀c∈cs,97<=c/\c<=122)(ha:a<=cs.length)(hi:i < 26) :
  CZ (Txt.slice ⟨cs.toArray⟩ none (some (a:Int))++(kP (97+i):Str)++Txt.slice ⟨cs.toArray⟩ (some (a:Int)) none)/\(Txt.slice ⟨cs.toArray⟩ none (some (a:Int))).length<=5/\(Txt.slice ⟨cs.toArray⟩ (some (a:Int)) none).length<=5:=by
 have e1:Txt.slice ⟨cs.toArray⟩ none (some (a:Int))=⟨(cs.take a).toArray⟩:=by
  have e:Txt.slice ⟨cs.toArray⟩ none (some (a:Int))=StrLaws.sliceText ⟨cs.toArray⟩ none (some (a:Int)):=rfl
  rw[e,StrLaws.sliceText_to ⟨by omega,by simp;omega⟩]
  simp
 have e2:Txt.slice ⟨cs.toArray⟩ (some (a:Int)) none=⟨(cs.drop a).toArray⟩:=by
  have e:Txt.slice ⟨cs.toArray⟩ (some (a:Int)) none=StrLaws.sliceText ⟨cs.toArray⟩ (some (a:Int)) none:=rfl
  rw[e,StrLaws.sliceText_from ⟨by omega,by simp;omega⟩]
  refine Str.ext' ?_
  show((cs.drop (a:Int).toNat).take ((cs.length:Int) - a).toNat).toArray=(cs.drop a).toArray
  rw[Iw,List.take_of_length_le (by rw[Jo];omega)]
 rw[e1,e2]
 have e3:((⟨(cs.take a).toArray⟩:Str)++(kP (97+i):Str)++(⟨(cs.drop a).toArray⟩:Str)).cps.toList=cs.take a++[97+i]++cs.drop a:=by
  show((cs.take a).toArray++#[97+i]++(cs.drop a).toArray).toList=_
  simp
 refine⟨⟨by rw[e3];simp,by rw[e3];simp;omega,fun c hc=>?_⟩,?_,?_⟩
 ·rw[e3]at hc
  rcases Iu.mp hc with hc|hc
  ·rcases Iu.mp hc with hc|hc
   ·exact hs c (Jr hc)
   ·rw[IB.mp hc];omega
  ·exact hs c (JW hc)
 ·show(cs.take a).toArray.size<=5
  rw[HU,Jm];omega
 ·show(cs.drop a).toArray.size<=5
  rw[HU,Jo];omega
end Wd
namespace M3
noncomputable def bn(t b:Int):Int:=(if b < 0 then -t else t) / (Int.gcd t b:Int)
noncomputable def aO(t b:Int):Int:=(if b < 0 then -b else b) / (Int.gcd t b:Int)
def fz{t b:Int}(h:b≠0):0 < Int.gcd t b:=Nat.gcd_pos_of_pos_right _ (by omega)
def qz{t b:Int}(h:b≠0):(Int.gcd t b:Int)<=b.natAbs:=by
 have q:Nat.gcd t.natAbs b.natAbs<=b.natAbs:=Nat.gcd_le_right _ (by omega)
 have e:Int.gcd t b=Nat.gcd t.natAbs b.natAbs:=rfl
 omega
def qA(t b:Int):Int.gcd (-t) (-b)=Int.gcd t b:=by rw[Int.gcd_neg,Int.neg_gcd]
def uc(t b:Int):∃x y:Int,t=(Int.gcd t b:Int) * x/\b=(Int.gcd t b:Int) * y:=by
 obtain⟨x,hx⟩:=Int.gcd_dvd_left t b
 obtain⟨y,hy⟩:=Int.gcd_dvd_right t b
 exact⟨x,y,hx,hy⟩
def mX{t b x y g:Int}(hg:g=(Int.gcd t b:Int))(h:b≠0)(ht:t=g * x)(hb:b=g * y):bn t b=(if y < 0 then -x else x)/\aO t b=(if y < 0 then -y else y):=by
 have gp:0 < g:=by rw[hg];exact Ka.mpr (fz h)
 have hy:b < 0↔y < 0:=by
  rw[hb]
  constructor
  ·intro q
   by_cases z:y < 0
   ·exact z
   ·have:=Jg (Jx gp) (Int.not_lt.mp z)
    omega
  ·intro q
   exact Int.mul_neg_of_pos_of_neg gp q
 unfold bn aO
 rw[<-hg]
 by_cases z:y < 0
 ·rw[if_pos (hy.mpr z),if_pos (hy.mpr z),if_pos z,if_pos z]
  constructor
  ·rw[ht,<-Int.mul_neg,JI _ (by omega)]
  ·rw[hb,<-Int.mul_neg,JI _ (by omega)]
 ·rw[if_neg (fun q=>z (hy.mp q)),if_neg (fun q=>z (hy.mp q)),if_neg z,if_neg z]
  constructor
  ·rw[ht,JI _ (by omega)]
  ·rw[hb,JI _ (by omega)]
def sY{t b x y:Int}(h:b≠0)(ht:t=(Int.gcd t b:Int) * x)(hb:b=(Int.gcd t b:Int) * y):Int.gcd x y=1:=by
 have gp:=fz (t:=t) h
 have q:Int.gcd ((Int.gcd t b:Int) * x) ((Int.gcd t b:Int) * y)=(Int.gcd t b:Int).natAbs * Int.gcd x y:=Int.gcd_mul_left _ _ _
 rw[<-ht,<-hb,Int.natAbs_natCast]at q
 have q2:Int.gcd t b * 1=Int.gcd t b * Int.gcd x y:=by omega
 exact(Nat.eq_of_mul_eq_mul_left gp q2).symm
structure yv (a b:Int):Prop where
 pos:0 < b
 one:Int.gcd a b=1
def kS{t b:Int}(h:b≠0):yv (bn t b) (aO t b):=by
 obtain⟨x,y,ht,hb⟩:=uc t b
 have c:=sY h ht hb
 obtain⟨e1,e2⟩:=mX rfl h ht hb
 have y0:y≠0:=fun z=>h (by rw[hb,z,JY])
 rw[e1,e2]
 by_cases z:y < 0
 ·rw[if_pos z,if_pos z]
  exact⟨by omega,by rw[qA];exact c⟩
 ·rw[if_neg z,if_neg z]
  exact⟨by omega,c⟩
def fT{a b x y:Int}(L:yv a b)(hy:0 < y)(e:x * b=a * y):bn x y=a/\aO x y=b:=by
 have b0:=L.pos
 have d1:b.natAbs ∣ a.natAbs * y.natAbs:=by
  rw[<-Int.natAbs_mul,<-e,Int.natAbs_mul]
  exact Nat.dvd_mul_left _ _
 have c:Nat.Coprime b.natAbs a.natAbs:=by
  show Nat.gcd b.natAbs a.natAbs=1
  rw[Nat.gcd_comm]
  exact L.one
 obtain⟨k,hk⟩:=Int.natAbs_dvd_natAbs.mp (c.dvd_of_dvd_mul_left d1)
 have k0:0 < k:=by
  by_cases z:0 < k
  ·exact z
  ·have:=Jg (Jx b0) (show 0 <= -k by omega)
   rw[Int.mul_neg]at this
   omega
 have hx:x=a * k:=by
  have q:x * b=a * k * b:=by rw[e,hk,KG,JZ k b]
  exact Int.eq_of_mul_eq_mul_right (by omega) q
 have g:(Int.gcd x y:Int)=k:=by
  rw[hx,hk,Int.gcd_mul_right,L.one,Nat.one_mul]
  omega
 have q:=mX (g:=k) (x:=a) (y:=b) (t:=x) (b:=y) g.symm (by omega) (by rw[hx,JZ]) (by rw[hk,JZ])
 rw[if_neg (by omega),if_neg (by omega)]at q
 exact q
def oI{t b:Int}(h:b≠0):bn t b * b=t * aO t b:=by
 obtain⟨x,y,ht,hb⟩:=uc t b
 obtain⟨e1,e2⟩:=mX rfl h ht hb
 rw[e1,e2]
 have q:x * b=t * y:=by
  have e3:x * ((Int.gcd t b:Int) * y)=(Int.gcd t b:Int) * x * y:=by rw[<-KG,JZ x]
  rw[<-ht,<-hb]at e3
  exact e3
 by_cases z:y < 0
 ·rw[if_pos z,if_pos z,KJ,Int.mul_neg,q]
 ·rw[if_neg z,if_neg z]
  exact q
def lW{t b:Int}(h:b≠0):t.fdiv (if b < 0 then -(Int.gcd t b:Int) else (Int.gcd t b:Int))=bn t b/\b.fdiv (if b < 0 then -(Int.gcd t b:Int) else (Int.gcd t b:Int))=aO t b:=by
 have gp:(0:Int) < (Int.gcd t b:Int):=Ka.mpr (fz h)
 have d1:=Int.gcd_dvd_left t b
 have d2:=Int.gcd_dvd_right t b
 unfold bn aO
 by_cases z:b < 0
 ·rw[if_pos z,if_pos z,if_pos z,Int.fdiv_neg (by omega),if_pos d1,Int.fdiv_neg (by omega),if_pos d2,JJ d1,JJ d2,Int.neg_ediv_of_dvd d1,Int.neg_ediv_of_dvd d2]
  exact⟨rfl,rfl⟩
 ·rw[if_neg z,if_neg z,if_neg z,JJ d1,JJ d2]
  exact⟨rfl,rfl⟩
def lX(x y:Int):Int.gcd y (x.fmod y)=Int.gcd x y:=by
 have q:=Int.mul_fdiv_add_fmod x y
 have e:Int.gcd y (x.fmod y+x.fdiv y * y)=Int.gcd y (x.fmod y):=Int.gcd_add_mul_right_right _ _ _
 rw[<-e,JZ (x.fdiv y) y,Int.add_comm,q,Int.gcd_comm]
def qB{t b T B:Int}(h:b≠0)(h1:-T<=t)(h2:t<=T)(h3:-B<=b)(h4:b<=B)(hT:0<=T)(hB:0<=B):-T<=bn t b/\bn t b<=T/\0 < aO t b/\aO t b<=B:=by
 have gp:(0:Int) < (Int.gcd t b:Int):=Ka.mpr (fz h)
 have L:=(kS (t:=t) h).pos
 have key:∀z M:Int,0<=M->-M<=z->z<=M->-M<=z / (Int.gcd t b:Int)/\z / (Int.gcd t b:Int)<=M:=fun z M hM z1 z2=>by
  generalize (Int.gcd t b:Int)=g at gp
  have m2:M * 1<=M * g:=Iz (by omega) hM
  have m3:-M * g = -(M * g):=KJ M g
  exact⟨Int.le_ediv_of_mul_le gp (by omega),Int.ediv_le_of_le_mul gp (by omega)⟩
 have k1:=key (if b < 0 then -t else t) T hT (by split<;>omega) (by split<;>omega)
 have k2:=key (if b < 0 then -b else b) B hB (by split<;>omega) (by split<;>omega)
 exact⟨k1.1,k1.2,L,k2.2⟩
end M3
namespace Xc
open PySem PySem.W PySem.Calls PyProof.Rows Builtin Builtin.ObjectAttr
structure zf (h:Heap) (e:Addr) (oe:Obj) (vs:Vw):Prop where
 at_:h.get? e=some oe
 dat:oe.data = .fields vs
 tb:vs[1]?=some .none\/∃T oT ts,vs[1]?=some (.ref T)/\T≠e/\h.get? T=some oT/\oT.data = .fields ts/\ts[3]?=some .none
end Xc
namespace L2
open PySem PySem.Spec PyProof.Rows Xc
def zQ(X:Cx)(pins:Va)(H:Hp)(h:Heap)(a C dx:Addr):Prop:=
 ∃oe vs,zf h a oe vs/\oe.cls = .ref C/\oe.dict=some dx/\eN X pins H a/\∀T,vs[1]?=some (.ref T)->eN X pins H T
def XD(dx:Addr)(fs:List (Str×V))(h:Heap):Prop:=∃mA,h.Ns1 dx mA/\(∀f,RelO (fs.lookup f) (mA f))/\PySem.Within mA (fs.map (·.1))
end L2
namespace L3
open PySem L2
inductive PV where
 |non|bl (b:Bool)|int (i:Int)|str (x:Str)|tup (xs:List PV)|cl (xs:List PV)|ref (a:Addr)|ty (n:String)|exc (c:Str) (ks:Vs) (ps:List PV)|cls (c:Str)
def EK(K:Vo)(H:Hp)(a:Addr)(xs:List V):Prop:=
 (∃o,H a=some (.frz o (.lst xs))) \/
  ∃(o:Obj) (its:Vw) (n:Nat),K.lookup a=some o/\o.cls = .type "list"/\o.dict=none/\o.data = .seq its n/\its.size<=sizeLine/\Vals xs its.toList
def EK.sq{K:Vo}{H:Hp}{a:Addr}{xs:List V}(h:EK K H a xs):SqL K H a xs:=h.elim (fun z=>.inl (.inr z)) .inr
def Fn(H:Hp)(a C:Addr)(ks:Vs)(vs:List V):Prop:=
 ∃oe dx od,H a=some (.frz oe (.ext fun _=>True))/\oe.cls = .ref C/\oe.dict=some dx/\(∀c,oe.data ≠ .cls c)/\H dx=some (.frz od (.ext (XD dx (ks.zip vs))))
def sZ(K:Vo)(c:Str)(C:Addr):Prop:=PySem.W.nsIn K mainGlobals c=some (some (.ref C))
mutual
inductive Rep (K:Vo) (H:Hp):V->PV->Prop
 |non:Rep K H .non .non
 |bl (b:Bool):Rep K H (.bl b) (.bl b)
 |int (i:Int):Rep K H (.int i) (.int i)
 |str (x:Str):Rep K H (.str x) (.str x)
 |ty (n:String):Rep K H (.ty n) (.ty n)
 |ref (a:Addr):Rep K H (.ref a) (.ref a)
 |tup {a:Addr} {vs:List V} {ps:List PV}:SqT K H a vs->Reps K H vs ps->Rep K H (.ref a) (.tup ps)
 |cl {a:Addr} {vs:List V} {ps:List PV}:EK K H a vs->Reps K H vs ps->Rep K H (.ref a) (.cl ps)
 |exc {a C:Addr} {c:Str} {ks:Vs} {vs:List V} {ps:List PV}:sZ K c C->Fn H a C ks vs->Reps K H vs ps->Rep K H (.ref a) (.exc c ks ps)
 |cls {C:Addr} {c:Str}:sZ K c C->Rep K H (.ref C) (.cls c)
inductive Reps (K:Vo) (H:Hp):List V->List PV->Prop
 |nil:Reps K H [] []
 |cons {v:V} {p:PV} {vs:List V} {ps:List PV}:Rep K H v p->Reps K H vs ps->Reps K H (v::vs) (p::ps)
end
structure Grow (K:Vo) (H H':Hp):Prop where
 t:∀a vs,SqT K H a vs->SqT K H' a vs
 c:∀a vs,EK K H a vs->EK K H' a vs
 x:∀a o u,H a=some (.frz o u)->H' a=some (.frz o u)
def Grow.refl{K:Vo}{H:Hp}:Grow K H H:=⟨fun _ _ h=>h,fun _ _ h=>h,fun _ _ _ h=>h⟩
def Grow.trans{K:Vo}{H H1 H2:Hp}(a:Grow K H H1)(b:Grow K H1 H2):Grow K H H2:=⟨fun x vs h=>b.t x vs (a.t x vs h),fun x vs h=>b.c x vs (a.c x vs h),fun x o u h=>b.x x o u (a.x x o u h)⟩
def Fn.mono{K:Vo}{H H':Hp}(g:Grow K H H'){a C:Addr}{ks:Vs}{vs:List V}(h:Fn H a C ks vs):Fn H' a C ks vs:=let ⟨oe,dx,od,h1,h2,h3,h4,h5⟩:=h;⟨oe,dx,od,g.x _ _ _ h1,h2,h3,h4,g.x _ _ _ h5⟩
def Grow.of{K:Vo}{H H':Hp}(h:∀a xs,H a=some (.tup xs)->H' a=some (.tup xs))(h2:∀a o u,H a=some (.frz o u)->H' a=some (.frz o u)):Grow K H H':=by
 refine⟨fun a vs q=>?_,fun a vs q=>?_,h2⟩
 ·rcases q with(q|⟨o,q⟩)|q
  ·exact .inl (.inl (h a vs q))
  ·exact .inl (.inr ⟨o,h2 a o _ q⟩)
  ·exact .inr q
 ·rcases q with⟨o,q⟩|q
  ·exact .inl ⟨o,h2 a o _ q⟩
  ·exact .inr q
def Grow.same{K:Vo}{H H':Hp}(h:∀c o,H c=some o->H' c=some o):Grow K H H':=.of (fun a _ q=>h a _ q) (fun a _ _ q=>h a _ q)
def Grow.new{K:Vo}{H:Hp}{p:Addr}{o:HO}(h:H p=none):Grow K H (upd H p o):=.same fun c u q=>by rw[az (aM q h)];exact q
noncomputable def Mu:HO->Prop
 | .tup _=>False
 | .frz _ _=>False
 |_=>True
def Grow.mut{K:Vo}{H:Hp}{p:Addr}{o u:HO}(h:H p=some u)(m:Mu u):Grow K H (upd H p o):=
 .of (fun a xs q=>by rw[az (fun e=>by subst e;rw[h]at q;cases q;exact m)];exact q) (fun a _ _ q=>by rw[az (fun e=>by subst e;rw[h]at q;cases q;exact m)];exact q)
mutual
theorem Rep.mono{K:Vo}{H H':Hp}(g:Grow K H H'):∀{v:V} {p:PV},Rep K H v p->Rep K H' v p
 |_,_,.non=>.non
 |_,_,.bl b=>.bl b
 |_,_,.int i=>.int i
 |_,_,.str x=>.str x
 |_,_,.ty n=>.ty n
 |_,_,.ref a=>.ref a
 |_,_,.tup h r=>.tup (g.t _ _ h) (Reps.mono g r)
 |_,_,.cl h r=>.cl (g.c _ _ h) (Reps.mono g r)
 |_,_,.exc n h r=>.exc n (h.mono g) (Reps.mono g r)
 |_,_,.cls n=>.cls n
theorem Reps.mono{K:Vo}{H H':Hp}(g:Grow K H H'):∀{vs:List V} {ps:List PV},Reps K H vs ps->Reps K H' vs ps
 |_,_,.nil=>.nil
 |_,_,.cons a r=>.cons (Rep.mono g a) (Reps.mono g r)
end
theorem Reps.length{K:Vo}{H:Hp}:∀{vs:List V} {ps:List PV},Reps K H vs ps->vs.length=ps.length
 |_,_,.nil=>rfl
 |_,_,.cons _ r=>by rw[Ic,Ic,Reps.length r]
theorem Reps.append{K:Vo}{H:Hp}:∀{vs us:List V} {ps qs:List PV},Reps K H vs ps->Reps K H us qs->Reps K H (vs++us) (ps++qs)
 |_,_,_,_,.nil,s=>s
 |_,_,_,_,.cons a r,s=>.cons a (Reps.append r s)
theorem Reps.get{K:Vo}{H:Hp}:∀{vs:List V} {ps:List PV} {i:Nat} {p:PV},Reps K H vs ps->ps[i]?=some p->∃v,vs[i]?=some v/\Rep K H v p
 |_,_,_,_,.nil,e=>by simp at e
 |_,_,0,_,.cons a r,e=>by simp at e;subst e;exact⟨_,rfl,a⟩
 |_,_,i+1,p,.cons a r,e=>by
  obtain⟨v,h1,h2⟩:=Reps.get (i:=i) (p:=p) r (by simpa using e)
  exact⟨v,by simpa using h1,h2⟩
theorem Reps.take{K:Vo}{H:Hp}:∀{vs:List V} {ps:List PV} (n:Nat),Reps K H vs ps->Reps K H (vs.take n) (ps.take n)
 |_,_,0,_=>.nil
 |_,_,_+1,.nil=>.nil
 |_,_,n+1,.cons a r=>.cons a (Reps.take n r)
theorem Reps.drop{K:Vo}{H:Hp}:∀{vs:List V} {ps:List PV} (n:Nat),Reps K H vs ps->Reps K H (vs.drop n) (ps.drop n)
 |_,_,0,r=>r
 |_,_,_+1,.nil=>.nil
 |_,_,n+1,.cons _ r=>Reps.drop n r
theorem Reps.set{K:Vo}{H:Hp}{v:V}{p:PV}(q:Rep K H v p):∀{vs:List V} {ps:List PV} (n:Nat),Reps K H vs ps->Reps K H (vs.set n v) (ps.set n p)
 |_,_,_,.nil=>.nil
 |_,_,0,.cons _ r=>.cons q r
 |_,_,n+1,.cons a r=>.cons a (Reps.set q n r)
theorem Reps.eraseIdx{K:Vo}{H:Hp}:∀{vs:List V} {ps:List PV} (n:Nat),Reps K H vs ps->Reps K H (vs.eraseIdx n) (ps.eraseIdx n)
 |_,_,_,.nil=>.nil
 |_,_,0,.cons _ r=>r
 |_,_,n+1,.cons a r=>.cons a (Reps.eraseIdx n r)
theorem Reps.reverse{K:Vo}{H:Hp}:∀{vs:List V} {ps:List PV},Reps K H vs ps->Reps K H vs.reverse ps.reverse
 |_,_,.nil=>.nil
 |_,_,.cons a r=>by rw[Ks,Ks];exact(Reps.reverse r).append (.cons a .nil)
theorem Reps.dropLast{K:Vo}{H:Hp}{vs:List V}{ps:List PV}(r:Reps K H vs ps):Reps K H vs.dropLast ps.dropLast:=by
 rw[List.dropLast_eq_take,List.dropLast_eq_take,r.length]
 exact r.take _
inductive SO where
 |lst (xs:List PV)
 |dct (kvs:List (bE×PV))
 |ins (c:Str) (fs:List (Str×PV))
abbrev av:=Addr->Option SO
noncomputable def am(S:av)(a:Addr)(o:SO):av:=fun b=>if b=a then some o else S b
def ac{S:av}{a:Addr}{o:SO}:am S a o a=some o:=by unfold am;rw[if_pos rfl]
def ak{S:av}{a b:Addr}{o:SO}(h:b≠a):am S a o b=S b:=by unfold am;rw[if_neg h]
inductive Au (K:Vo) (H:Hp) {κ:Type}:List (κ×V)->List (κ×PV)->Prop
 |nil:Au K H [] []
 |cons {k:κ} {v:V} {p:PV} {vs:List (κ×V)} {ps:List (κ×PV)}:Rep K H v p->Au K H vs ps->Au K H ((k,v)::vs) ((k,p)::ps)
theorem Au.mono{K:Vo}{H H':Hp}(g:Grow K H H'){κ:Type}:∀{vs:List (κ×V)} {ps:List (κ×PV)},Au K H vs ps->Au K H' vs ps
 |_,_,.nil=>.nil
 |_,_,.cons a r=>.cons (a.mono g) (Au.mono g r)
theorem Au.length{K:Vo}{H:Hp}{κ:Type}:∀{vs:List (κ×V)} {ps:List (κ×PV)},Au K H vs ps->vs.length=ps.length
 |_,_,.nil=>rfl
 |_,_,.cons _ r=>by rw[Ic,Ic,Au.length r]
noncomputable def C2(K:Vo)(H:Hp)(a:Addr):SO->Prop
 | .lst xs=>∃vs,H a=some (.lst vs)/\Reps K H vs xs
 | .dct kvs=>∃kv,H a=some (.dK kv)/\Au K H kv kvs
 | .ins c fs=>∃C dx f',sZ K c C/\H a=some (.ins C dx f')/\Au K H f' fs
theorem C2.stay{K:Vo}{H H':Hp}(g:Grow K H H'){a:Addr}(e:H' a=H a):∀{o:SO},C2 K H a o->C2 K H' a o
 | .lst _,⟨vs,h,r⟩=>⟨vs,e.trans h,r.mono g⟩
 | .dct _,⟨vs,h,r⟩=>⟨vs,e.trans h,r.mono g⟩
 | .ins _ _,⟨C,dx,vs,n,h,r⟩=>⟨C,dx,vs,n,e.trans h,r.mono g⟩
theorem C2.some{K:Vo}{H:Hp}{a:Addr}:∀{o:SO},C2 K H a o->∃u,H a=Option.some u/\Mu u
 | .lst _,⟨_,h,_⟩=>⟨_,h,trivial⟩
 | .dct _,⟨_,h,_⟩=>⟨_,h,trivial⟩
 | .ins _ _,⟨_,_,_,_,h,_⟩=>⟨_,h,trivial⟩
def Ah(K:Vo)(H:Hp)(S:av):Prop:=∀a o,S a=some o->C2 K H a o
def Ah.free{K:Vo}{H:Hp}{S:av}(r:Ah K H S){p:Addr}(h:H p=none):S p=none:=by
 cases e:S p with
 |none=>rfl
 |some o=>
  obtain⟨u,q,_⟩:=(r p o e).some
  rw[h]at q;cases q
def Ah.grow{K:Vo}{H H':Hp}{S:av}(r:Ah K H S)(h:∀c o,H c=some o->H' c=some o):Ah K H' S:=fun a o e=>by
 obtain⟨u,q,_⟩:=(r a o e).some
 exact(r a o e).stay (.same h) ((h a u q).trans q.symm)
def Ah.other{K:Vo}{H:Hp}{S:av}(r:Ah K H S){p:Addr}{o:HO}(h:H p=none):Ah K (upd H p o) S:=r.grow fun c u q=>by rw[az (aM q h)];exact q
theorem Ah.new{K:Vo}{H:Hp}{S:av}(r:Ah K H S){p:Addr}{u:HO}{o:SO}(h:H p=none)(q:C2 K (upd H p u) p o):Ah K (upd H p u) (am S p o):=fun a x e=>by
 by_cases z:a=p
 ·subst z;rw[ac]at e;cases e;exact q
 ·rw[ak z]at e;exact(r a x e).stay (.new h) (az z)
def Ah.put{K:Vo}{H:Hp}{S:av}(r:Ah K H S){p:Addr}{u0 u:HO}{o:SO}(h:H p=some u0)(m:Mu u0)(q:C2 K (upd H p u) p o):Ah K (upd H p u) (am S p o):=fun a x e=>by
 by_cases z:a=p
 ·subst z;rw[ac]at e;cases e;exact q
 ·rw[ak z]at e;exact(r a x e).stay (.mut h m) (az z)
abbrev bY:=List (Option PV)
noncomputable def lk:bY->Nat->Option PV
 |[],_=>none
 |x::_,0=>x
 |_::r,i+1=>lk r i
def qC{σ:bY}{i:Nat}{p:PV}(h:lk σ i=some p):σ[i]?=some (some p):=by
 induction σ generalizing i with
 |nil=>cases h
 |cons x r ih=>
  cases i with
  |zero=>exact IS some h
  |succ i=>exact ih h
structure Al (K:Vo) (H:Hp) (σ:St) (σ3:bY):Prop where
 len:σ.length=σ3.length
 at':∀(i:Nat) (p:PV),σ3[i]?=some (some p)->∃v,σ[i]?=some (some v)/\Rep K H v p
theorem Al.mono{K:Vo}{H H':Hp}{σ:St}{σ3:bY}(r:Al K H σ σ3)(g:Grow K H H'):Al K H' σ σ3:=⟨r.len,fun i p e=>let ⟨v,h,q⟩:=r.at' i p e;⟨v,h,q.mono g⟩⟩
theorem Al.set{K:Vo}{H:Hp}{σ:St}{σ3:bY}(r:Al K H σ σ3){v:V}{p:PV}(q:Rep K H v p)(i:Nat):Al K H (σ.set i (some v)) (σ3.set i (some p)):=by
 refine⟨by rw[List.length_set,List.length_set,r.len],fun j x e=>?_⟩
 rw[List.getElem?_set]at e ⊢
 split at e
 ·rename_i hij
  rw[if_pos hij]
  subst hij
  split at e
  ·rename_i hl
   cases e
   rw[if_pos (by rw[r.len];exact hl)]
   exact⟨v,rfl,q⟩
  ·cases e
 ·rename_i hij
  rw[if_neg hij]
  exact r.at' j x e
abbrev bQ:=PV->av->Prop
abbrev cg:=PV->bY->av->Prop
abbrev aX:=bY->av->bQ->cg->Prop
abbrev iP:=bY->av->(Bool->av->Prop)->cg->Prop
abbrev zR:=bY->av->(List PV->av->Prop)->cg->Prop
structure lY where
 nx:bY->av->Prop
 rt:bQ
 ex:cg
 bk:bY->av->Prop:=fun _ _=>False
 ct:bY->av->Prop:=fun _ _=>False
abbrev bz:=lY->bY->av->Prop
def Dr(X:Cx)(H:Hp)(E:cg):Prop:=∀(c:Str) (ks:Vs) (ps:List PV) (σ3:bY) (S':av) (H':Hp) (pins:Va) (σ:St) (s':Shared) (a C dx:Addr) (od:Obj) (vs:List V),E (.exc c ks ps) σ3 S'->sZ X.K c C->vs.length=ks.length->
 H' dx=some (.frz od (.ext (XD dx (ks.zip vs))))->Reps X.K H' vs ps->Ah X.K H' S'->Al X.K H' σ σ3->Grow X.K H H'->Inv X pins σ H' s'->zQ X pins H' s'.heap a C dx->X.xe (.ref a) s'
def Dr.mono{X:Cx}{H H':Hp}{E:cg}(x:Dr X H E)(g:Grow X.K H H'):Dr X H' E:=fun c ks ps σ3 S' H2 pins σ s' a C dx od vs h1 h2 h3 h4 h5 h6 h7 h8 h9 G_=>x c ks ps σ3 S' H2 pins σ s' a C dx od vs h1 h2 h3 h4 h5 h6 h7 (g.trans h8) h9 G_
def Ds(K:Vo)(H:Hp)(Q3:bQ)(Q:VK):Prop:=∀p S' v H',Q3 p S'->Rep K H' v p->Ah K H' S'->Grow K H H'->Q v H'
def Ds.mono{K:Vo}{H H':Hp}{Q3:bQ}{Q:VK}(r:Ds K H Q3 Q)(g:Grow K H H'):Ds K H' Q3 Q:=fun p S' v H2 h1 h2 h3 h4=>r p S' v H2 h1 h2 h3 (g.trans h4)
def EL(K:Vo)(H:Hp)(N3:bY->av->Prop)(N:St->Hp->Prop):Prop:=∀σ3 S' σ H',N3 σ3 S'->Al K H' σ σ3->Ah K H' S'->Grow K H H'->N σ H'
def EL.mono{K:Vo}{H H':Hp}{Q3:bY->av->Prop}{Q:St->Hp->Prop}(r:EL K H Q3 Q)(g:Grow K H H'):EL K H' Q3 Q:=fun p S' v H2 h1 h2 h3 h4=>r p S' v H2 h1 h2 h3 (g.trans h4)
inductive LE (X:Cx) (t:aX) (σ:L2.St) (H:Hp) (Q:VK):Prop
 |mk (σ3 S Q3 E3) (rσ:Al X.K H σ σ3) (rS:Ah X.K H S) (h:t σ3 S Q3 E3) (xo:Dr X H E3) (k:Ds X.K H Q3 Q):LE X t σ H Q
inductive LT (X:Cx) (t:iP) (σ:L2.St) (H:Hp) (Q:Bool->Hp->Prop):Prop
 |mk (σ3 S Q3 E3) (rσ:Al X.K H σ σ3) (rS:Ah X.K H S) (h:t σ3 S Q3 E3) (xo:Dr X H E3) (k:∀b S' H',Q3 b S'->Ah X.K H' S'->Grow X.K H H'->Q b H'):LT X t σ H Q
inductive LS (X:Cx) (t:bz) (D:mJ) (σ:L2.St) (H:Hp):Prop
 |mk (σ3 S D3) (rσ:Al X.K H σ σ3) (rS:Ah X.K H S) (h:t D3 σ3 S) (xo:Dr X H D3.ex) (nx:EL X.K H D3.nx D.nx) (rt:Ds X.K H D3.rt D.rt) (bk:EL X.K H D3.bk D.bk) (ct:EL X.K H D3.ct D.ct):LS X t D σ H
structure bu (X:Cx) (e:Expr) (t:aX):Prop where
 ok:PE X e (LE X t)
structure mY (X:Cx) (e:Expr) (t:iP):Prop where
 ok:PT X e (LT X t)
structure vk (X:Cx) (e:Expr) (t:iP):Prop where
 ok:PW X e (LT X t)
structure mZ (X:Cx) (st:Stmt) (t:bz):Prop where
 ok:PS X st (LS X t)
structure jb (X:Cx) (st:List Stmt) (t:bz):Prop where
 ok:C9 X st (LS X t)
def aW{X:Cx}{e:Expr}{t t':TE}(h:PE X e t)(k:∀σ H Q,t' σ H Q->t σ H Q):PE X e t':=fun pins s σ H Q I q=>h pins s σ H Q I (k σ H Q q)
def m4{X:Cx}{e:Expr}{t t':TT}(h:PT X e t)(k:∀σ H Q,t' σ H Q->t σ H Q):PT X e t':=fun pins s σ H Q I q=>h pins s σ H Q I (k σ H Q q)
def qD{X:Cx}{e:Expr}{t t':TT}(h:PW X e t)(k:∀σ H Q,t' σ H Q->t σ H Q):PW X e t':=fun wh pins s σ H Q I q=>h wh pins s σ H Q I (k σ H Q q)
def cD{X:Cx}{e:Stmt}{t t':TS}(h:PS X e t)(k:∀D σ H,t' D σ H->t D σ H):PS X e t':=fun pins s σ H D I q=>h pins s σ H D I (k D σ H q)
def nJ{X:Cx}{e:List Stmt}{t t':TS}(h:C9 X e t)(k:∀D σ H,t' D σ H->t D σ H):C9 X e t':=fun pins s σ H D I q=>h pins s σ H D I (k D σ H q)
section
variable {X:Cx} {a b c e o:Expr} {es:List Expr} {ta tb tc te:aX} {pos:Pos}
def v3(i:Nat):aX:=fun σ S Q _=>match lk σ i with|some p=>Q p S|none=>False
def ab(i:Nat){x:Str}(hN:X.N[i]?=some x:=by rfl)(hv:yo X.env.scope x:=by first|exact Or.inl rfl|exact Or.inr (Or.inl rfl)|exact Or.inr (Or.inr rfl))(hd:(x == ("__debug__":Str))=false:=by decide)
  (hcd:(x == ("__classdict__":Str))=false:=by decide):bu X (.Name x pos) (v3 i):=
 ⟨aW (uz hN hv hd hcd) fun σ H Q ⟨σ3,S,Q3,E3,rσ,rS,h,xo,k⟩=>by
  unfold v3 at h
  split at h
  ·rename_i p e
   obtain⟨v,ev,rv⟩:=rσ.at' i p (qC e)
   exact⟨v,ev,k p S v H h rv rS .refl⟩
  ·exact h.elim⟩
def c3(p:PV):aX:=fun _ S Q _=>Q p S
def aa{i:Int}{j:Nat}:bu X (.Constant (.int i) j pos) (c3 (.int i)):=⟨aW uA fun σ H Q ⟨σ3,S,Q3,E3,rσ,rS,h,xo,k⟩=>k _ S _ H h (.int i) rS .refl⟩
def xz{i:Bool}{j:Nat}:bu X (.Constant (.bool i) j pos) (c3 (.bl i)):=⟨aW wE fun σ H Q ⟨σ3,S,Q3,E3,rσ,rS,h,xo,k⟩=>k _ S _ H h (.bl i) rS .refl⟩
def ap{i:Str}{j:Nat}:bu X (.Constant (.str i) j pos) (c3 (.str i)):=⟨aW uB fun σ H Q ⟨σ3,S,Q3,E3,rσ,rS,h,xo,k⟩=>k _ S _ H h (.str i) rS .refl⟩
noncomputable def bR:List aX->zR
 |[],_,S,Q,_=>Q [] S
 |t::ts,σ,S,Q,E=>t σ S (fun x S1=>bR ts σ S1 (fun xs S2=>Q (x::xs) S2) E) E
noncomputable def yw:List TE->TA
 |[]=>wW
 |t::ts=>t6 t (yw ts)
structure kl (X:Cx) (es:List Expr) (ts:List aX):Prop where
 ok:PA X es (yw (ts.map (LE X)))
def jc:kl X [] []:=⟨uV⟩
def qE{ts:List aX}(hs:starEach (e::es) X.env=(false,eval e X.env)::starEach es X.env)(ha:bu X e te)(hr:kl X es ts):kl X (e::es) (te::ts):=⟨sC ha.ok hr.ok hs⟩
theorem cA:∀{ts:List aX} {σ:L2.St} {H:Hp} {Q:List V->Hp->Prop} {σ3:bY} {S:av} {Q3:List PV->av->Prop} {E3:cg},Al X.K H σ σ3->Ah X.K H S->bR ts σ3 S Q3 E3->Dr X H E3->
  (∀ps S' vs H',ps.length=ts.length->Q3 ps S'->Reps X.K H' vs ps->Ah X.K H' S'->Grow X.K H H'->Q vs H')->yw (ts.map (LE X)) σ H Q
 |[],σ,H,Q,σ3,S,Q3,E3,rσ,rS,h,xo,k=>k [] S [] H rfl h .nil rS .refl
 |t::ts,σ,H,Q,σ3,S,Q3,E3,rσ,rS,h,xo,k=>
  ⟨σ3,S,_,E3,rσ,rS,h,xo,fun p S1 v H1 h1 rv At g1=>cA (rσ.mono g1) At h1 (xo.mono g1) fun ps S2 vs H2 hl h2 FU Cs g2=>k (p::ps) S2 (v::vs) H2 (by rw[Ic,Ic,hl]) h2 (.cons (rv.mono g2) FU) Cs (g1.trans g2)⟩
def aI(ts:List aX):aX:=fun σ S Q E=>bR ts σ S (fun xs S1=>Q (.tup xs) S1) E
def aD{ts:List aX}{x1:Nat}(h:kl X es ts)(hn:ts.length<=1000:=by exact Kz rfl):bu X (.Tuple es x1 pos) (aI ts):=
 ⟨aW (uW h.ok) fun σ H Q ⟨σ3,S,Q3,E3,rσ,rS,hq,xo,k⟩=>cA rσ rS hq xo fun ps S' vs H' hl q rv BS g=>
  ⟨Kn (dg (by rw[rv.length,hl];exact hn)),fun p hp=>k _ S' _ _ q (.tup (SqT.of aA) (rv.mono (.new hp))) (BS.other hp) (g.trans (.new hp))⟩⟩
def cr(ts:List aX):aX:=fun σ S Q E=>bR ts σ S (fun xs S1=>∀p,S1 p=none->Q (.ref p) (am S1 p (.lst xs))) E
def ck{ts:List aX}(h:kl X es ts)(hn:ts.length<=1000:=by exact Kz rfl):bu X (.List es pos) (cr ts):=
 ⟨aW (uX h.ok) fun σ H Q ⟨σ3,S,Q3,E3,rσ,rS,hq,xo,k⟩=>cA rσ rS hq xo fun ps S' vs H' hl q rv BS g=>
  ⟨Kn (dg (by rw[rv.length,hl];exact hn)),fun p hp=>k _ _ _ _ (q p (BS.free hp)) (.ref p) (BS.new hp ⟨vs,aA,rv.mono (.new hp)⟩) (g.trans (.new hp))⟩⟩
abbrev R3:=PV->PV->av->bQ->Prop
inductive LR (X:Cx) (r:R3) (x y:V) (H:Hp) (Q:VK):Prop
 |mk (px py S Q3) (rx:Rep X.K H x px) (ry:Rep X.K H y py) (rS:Ah X.K H S) (h:r px py S Q3) (k:Ds X.K H Q3 Q):LR X r x y H Q
structure ie (X:Cx) (f:Value->Value->Sem Value) (r:R3):Prop where
 ok:g7 X f (LR X r)
def ah(r:R3)(ta tb:aX):aX:=fun σ S Q E=>ta σ S (fun x S1=>tb σ S1 (fun y S2=>r x y S2 Q) E) E
def iU{r:R3}{σ:L2.St}{H:Hp}{Q:VK}:LE X (ah r ta tb) σ H Q->wN (LR X r) (LE X ta) (LE X tb) σ H Q:=fun⟨σ3,S,Q3,E3,rσ,rS,h,xo,k⟩=>
 ⟨σ3,S,_,E3,rσ,rS,h,xo,fun x S1 v H1 h1 rx At g1=>⟨σ3,S1,_,E3,rσ.mono g1,At,h1,xo.mono g1,fun y S2 u H2 h2 ry Cs g2=>⟨x,y,S2,Q3,rx.mono g2,ry,Cs,h2,k.mono (g1.trans g2)⟩⟩⟩
def ar{op:Operator}{r:R3}(ho:ie X (binaryOp op) r)(ha:bu X a ta)(hb:bu X b tb):bu X (.BinOp a op b pos) (ah r ta tb):=⟨aW (wO ho.ok ha.ok hb.ok) fun _ _ _=>iU⟩
def nK{op:CmpOp}{r:R3}(ho:ie X (compareOp op) r)(ha:bu X a ta)(hb:bu X b tb)(hm:behindInMarks op b=false):bu X (.Compare a [op] [b] pos) (ah r ta tb):=⟨aW (sy ho.ok ha.ok hb.ok hm) fun _ _ _=>iU⟩
def aR(t:aX):iP:=fun σ S Q E=>t σ S (fun v S'=>match v with | .bl k=>Q k S'|_=>False) E
def qF{σ:L2.St}{H:Hp}{Q:Bool->Hp->Prop}:LT X (aR te) σ H Q->LE X te σ H (fun x H'=>∃k,x = .bl k/\Q k H'):=fun⟨σ3,S,Q3,E3,rσ,rS,h,xo,k⟩=>
 ⟨σ3,S,_,E3,rσ,rS,h,xo,fun p S' v H' h1 rv BS g=>by
  cases p with
  |bl z=>cases rv;exact⟨z,rfl,k z S' H' h1 BS g⟩
  |_=>exact h1.elim⟩
def bw{op:CmpOp}{r:R3}(ho:ie X (compareOp op) r)(ha:bu X a ta)(hb:bu X b tb)(hm:behindInMarks op b=false):mY X (.Compare a [op] [b] pos) (aR (ah r ta tb)):=
 ⟨m4 (sA ho.ok ha.ok hb.ok hm) fun σ H Q ⟨σ3,S,Q3,E3,rσ,rS,h,xo,k⟩=>iU ⟨σ3,S,_,E3,rσ,rS,h,xo,fun p S' v H' h1 rv BS g=>by
  cases p with
  |bl z=>cases rv;exact⟨z,rfl,k z S' H' h1 BS g⟩
  |_=>exact h1.elim⟩⟩
def xA(h:bu X e te)(he:∀whole,isTrue e X.env whole=(do let v <-whole;standAt e.pos;holding [v] (truthy v)):=by intro _;rfl):mY X e (aR te):=
 ⟨m4 (uC h.ok he) fun σ H Q q=>qF q⟩
end
section
variable {X:Cx} {a b c:Expr} {rest:List Expr} {ta tb te:aX} {tA tB:iP} {pos:Pos}
def jW(t u:iP):iP:=fun σ S Q E=>t σ S (fun c S1=>if c=true then u σ S1 Q E else Q false S1) E
def lM(t u:iP):iP:=fun σ S Q E=>t σ S (fun c S1=>if c=true then Q true S1 else u σ S1 Q E) E
def qG(t:iP):iP:=fun σ S Q E=>t σ S (fun c S1=>Q (!c) S1) E
def kT(ha:mY X a tA):vk X (.BoolOp .And [a] pos) tA:=⟨si ha.ok⟩
def iE(ha:mY X a tA):vk X (.BoolOp .Or [a] pos) tA:=⟨uD ha.ok⟩
def lZ(ha:mY X a tA)(hb:vk X (.BoolOp .And (b::rest) pos) tB):vk X (.BoolOp .And (a::b::rest) pos) (jW tA tB):=
 ⟨qD (uE ha.ok hb.ok) fun σ H Q ⟨σ3,S,Q3,E3,rσ,rS,h,xo,k⟩=>⟨σ3,S,_,E3,rσ,rS,h,xo,fun c S1 H1 h1 At g1=>by
  cases c with
  |true=>rw[if_pos rfl]at h1 ⊢;exact⟨σ3,S1,Q3,E3,rσ.mono g1,At,h1,xo.mono g1,fun b S2 H2 h2 Cs g2=>k b S2 H2 h2 Cs (g1.trans g2)⟩
  |false=>rw[if_neg (by decide)]at h1 ⊢;exact k false S1 H1 h1 At g1⟩⟩
def kU(ha:mY X a tA)(hb:vk X (.BoolOp .Or (b::rest) pos) tB):vk X (.BoolOp .Or (a::b::rest) pos) (lM tA tB):=
 ⟨qD (wF ha.ok hb.ok) fun σ H Q ⟨σ3,S,Q3,E3,rσ,rS,h,xo,k⟩=>⟨σ3,S,_,E3,rσ,rS,h,xo,fun c S1 H1 h1 At g1=>by
  cases c with
  |true=>rw[if_pos rfl]at h1 ⊢;exact k true S1 H1 h1 At g1
  |false=>rw[if_neg (by decide)]at h1 ⊢;exact⟨σ3,S1,Q3,E3,rσ.mono g1,At,h1,xo.mono g1,fun b S2 H2 h2 Cs g2=>k b S2 H2 h2 Cs (g1.trans g2)⟩⟩⟩
def pG(h:vk X a tA):mY X a tA:=⟨h.ok.pt⟩
def xB(ha:mY X a tA):mY X (.UnaryOp .Not a pos) (qG tA):=
 ⟨m4 (uF ha.ok) fun σ H Q ⟨σ3,S,Q3,E3,rσ,rS,h,xo,k⟩=>⟨σ3,S,_,E3,rσ,rS,h,xo,fun c S1 H1 h1 At g1=>k (!c) S1 H1 h1 At g1⟩⟩
def oJ(t:iP)(ta tb:aX):aX:=fun σ S Q E=>t σ S (fun c S1=>if c=true then ta σ S1 Q E else tb σ S1 Q E) E
def ud(hc:mY X c tA)(ha:bu X a ta)(hb:bu X b tb):bu X (.IfExp c a b pos) (oJ tA ta tb):=
 ⟨aW (pM hc.ok ha.ok hb.ok) fun σ H Q ⟨σ3,S,Q3,E3,rσ,rS,h,xo,k⟩=>⟨σ3,S,_,E3,rσ,rS,h,xo,fun c S1 H1 h1 At g1=>by
  cases c with
  |true=>rw[if_pos rfl]at h1 ⊢;exact⟨σ3,S1,Q3,E3,rσ.mono g1,At,h1,xo.mono g1,k.mono g1⟩
  |false=>rw[if_neg (by decide)]at h1 ⊢;exact⟨σ3,S1,Q3,E3,rσ.mono g1,At,h1,xo.mono g1,k.mono g1⟩⟩⟩
abbrev xC:=PV->av->bQ->Prop
noncomputable def zS(X:Cx)(r:xC):V->Hp->VK->Prop:=fun x H Q=>∃px S Q3,Rep X.K H x px/\Ah X.K H S/\r px S Q3/\Ds X.K H Q3 Q
structure zB (X:Cx) (f:Value->Sem Value) (r:xC):Prop where
 ok:yr X f (zS X r)
def pH(r:xC)(ta:aX):aX:=fun σ S Q E=>ta σ S (fun x S1=>r x S1 Q) E
def l0{op:UnaryOp}{r:xC}(ho:zB X (unaryOp op) r)(ha:bu X a ta):bu X (.UnaryOp op a pos) (pH r ta):=
 ⟨aW (wP ho.ok ha.ok) fun σ H Q ⟨σ3,S,Q3,E3,rσ,rS,h,xo,k⟩=>⟨σ3,S,_,E3,rσ,rS,h,xo,fun p S1 v H1 h1 rv At g1=>⟨p,S1,Q3,rv,At,h1,k.mono g1⟩⟩⟩
noncomputable def iQ:xC:=fun x S Q=>match x with | .int i=>Q (.int (-i)) S|_=>False
def eS:zB X (unaryOp .USub) iQ:=⟨fun pins s σ H x v Q I rx ⟨px,S,Q3,r1,rS,h,k⟩=>by
 cases px with
 |int i=>cases r1;exact uU pins s σ H _ v Q I rx ⟨i,rfl,k _ S _ H h (.int _) rS .refl⟩
 |_=>exact h.elim⟩
end
section
variable {X:Cx}
def dE(g:Int->Int->PV):R3:=fun x y S Q=>match x,y with | .int i,.int j=>Q (g i j) S|_,_=>False
def fM(C:Int->Int->Prop)(g:Int->Int->PV):R3:=fun x y S Q=>match x,y with | .int i,.int j=>C i j/\Q (g i j) S|_,_=>False
def vm{f:Value->Value->Sem Value}{g:Int->Int->Int}(h:g7 X f (sw fun i j=>.int (g i j))):ie X f (dE fun i j=>.int (g i j)):=⟨fun pins s σ H x y v u Q I rx ry ⟨px,py,S,Q3,r1,r2,rS,q,k⟩=>by
 cases px with
 |int i=>
  cases py with
  |int j=>cases r1;cases r2;exact h pins s σ H _ _ v u Q I rx ry ⟨i,j,rfl,rfl,k _ S _ H q (.int _) rS .refl⟩
  |_=>exact q.elim
 |_=>exact q.elim⟩
def kW{f:Value->Value->Sem Value}{g:Int->Int->Bool}(h:g7 X f (sw fun i j=>.bl (g i j))):ie X f (dE fun i j=>.bl (g i j)):=⟨fun pins s σ H x y v u Q I rx ry ⟨px,py,S,Q3,r1,r2,rS,q,k⟩=>by
 cases px with
 |int i=>
  cases py with
  |int j=>cases r1;cases r2;exact h pins s σ H _ _ v u Q I rx ry ⟨i,j,rfl,rfl,k _ S _ H q (.bl _) rS .refl⟩
  |_=>exact q.elim
 |_=>exact q.elim⟩
def kX{f:Value->Value->Sem Value}{C:Int->Int->Prop}{g:Int->Int->Int}(h:g7 X f (rI C fun i j=>.int (g i j))):ie X f (fM C fun i j=>.int (g i j)):=⟨fun pins s σ H x y v u Q I rx ry ⟨px,py,S,Q3,r1,r2,rS,q,k⟩=>by
 cases px with
 |int i=>
  cases py with
  |int j=>cases r1;cases r2;exact h pins s σ H _ _ v u Q I rx ry ⟨i,j,rfl,rfl,q.1,k _ S _ H q.2 (.int _) rS .refl⟩
  |_=>exact q.elim
 |_=>exact q.elim⟩
def km(i j:Int):Prop:=j≠0/\j.natAbs < 2 ^ 8000
def m5{n:Nat}(h:n < 2 ^ 8000):n.log2 < 9000:=by
 by_cases z:n=0
 ·rw[z];decide +kernel
 ·exact K2 ((Nat.log2_lt z).mpr h) (by decide)
def vn:ie X (binaryOp .Sub) (dE fun i j=>.int (i - j)):=vm uS
def vo:ie X (binaryOp .Mod) (fM (fun _ j=>j≠0) fun i j=>.int (i.fmod j)):=kX sx
def s9:ie X (binaryOp .FloorDiv) (fM km fun i j=>.int (i.fdiv j)):=kX (yt fun _ _ _ _ _ _ _ hc q=>PyProof.Rows.floordiv_int hc.1 q (.inl (PyProof.noPylong_of_log2 (m5 hc.2))))
def vp:ie X (binaryOp .Pow) (fM uQ fun i j=>.int (i ^ j.toNat)):=kX uT
def xD:ie X (compareOp .Lt) (dE fun i j=>.bl (decide (i < j))):=kW wS
def xE:ie X (compareOp .Gt) (dE fun i j=>.bl (decide (j < i))):=kW wT
def xF:ie X (compareOp .GtE) (dE fun i j=>.bl (decide (j<=i))):=kW wU
end
end L3
namespace L2
open PySem PySem.Spec PyProof.Rows
section
variable {X:Cx}
def xG(K:Vo):R2:=fun x y H Q=>∃a b xs ys,x = .ref a/\y = .ref b/\SqT K H a xs/\SqT K H b ys/\xs.length+ys.length<=sizeLine/\∀r H',(∀c o,H c=some o->H' c=some o)->SqT K H' r (xs++ys)->Q (.ref r) H'
def s_:g7 X (binaryOp .Add) (xG X.K):=by
 intro pins s σ H x y v u Q I rx ry h
 obtain⟨a,b,xs,ys,rfl,rfl,ha,hb,hz,q⟩:=h
 by_cases hx:xs=[]
 ·subst hx
  cases rx
  cases ry
  obtain⟨its,r1,p1,_⟩:=I.tuple ha
  obtain⟨its2,r2,p2,_⟩:=I.tuple hb
  cases r1
  obtain⟨⟨cls,dd,data,sl⟩,ho,hc,n,hd⟩:=id p1
  obtain⟨⟨FI,dd2,data2,sl2⟩,ho2,hc2,n2,hd2⟩:=id p2
  simp only at hc hd hc2 hd2
  subst hc hd hc2 hd2
  exact concat_meets ⟨_,ho,rfl⟩ ⟨_,ho2,rfl⟩ noFill_tuple_add seq_tuple_add Kp Kh (J7 _ _)
   (tuple_addW0 a b _ its2.toArray n n2 dd dd2 sl sl2 rfl) ⟨ho,ho2,⟨.ref b,H,I,rfl,q b H (fun _ _ e=>e) hb⟩⟩
 ·exact sK pins s σ H _ _ v u Q I rx ry ⟨a,b,xs,ys,rfl,rfl,ha,hb,hx,hz,fun e=>q a H (fun _ _ e=>e) (by rw[e,JP];exact ha),
   fun _ p hp=>q p _ (fun c o e=>by rw[az (aM e hp)];exact e) (SqT.of aA)⟩
end
end L2
namespace L3
open PySem L2
section
variable {X:Cx}
def aV:R3:=fun x y S Q=>match x,y with
 | .int i,.int j=>Q (.int (i+j)) S
 | .str i,.str j=>i.length+j.length<=sizeLine/\Q (.str (i++j)) S
 | .tup i,.tup j=>i.length+j.length<=sizeLine/\Q (.tup (i++j)) S
 | .ref i,.ref j=>match S i,S j with
  |some (.lst xs),some (.lst ys)=>xs.length+ys.length<=sizeLine/\∀p,S p=none->Q (.ref p) (am S p (.lst (xs++ys)))
  |_,_=>False
 |_,_=>False
def aB:ie X (binaryOp .Add) aV:=⟨fun pins s σ H x y v u Q I rx ry ⟨px,py,S,Q3,r1,r2,rS,q,k⟩=>by
 unfold aV at q
 split at q
 ·cases r1;cases r2
  exact uR pins s σ H _ _ v u Q I rx ry ⟨_,_,rfl,rfl,k _ S _ H q (.int _) rS .refl⟩
 ·cases r1;cases r2
  exact mM pins s σ H _ _ v u Q I rx ry ⟨_,_,rfl,rfl,q.1,k _ S _ H q.2 (.str _) rS .refl⟩
 ·cases r1 with
  |tup h1 s1=>
   cases r2 with
   |tup h2 s2=>
    refine s_ pins s σ H _ _ v u Q I rx ry ⟨_,_,_,_,rfl,rfl,h1,h2,by rw[s1.length,s2.length];exact q.1,fun r H' hs hr=>?_⟩
    exact k _ S _ H' q.2 (.tup hr ((s1.mono (.same hs)).append (s2.mono (.same hs)))) (rS.grow hs) (.same hs)
 ·cases r1;cases r2
  split at q
  ·rename_i i j xs ys e1 e2
   obtain⟨vs,h1,s1⟩:=rS _ _ e1
   obtain⟨us,h2,s2⟩:=rS _ _ e2
   exact u_ pins s σ H _ _ v u Q I rx ry ⟨_,_,_,_,rfl,rfl,h1,h2,by rw[s1.length,s2.length];exact q.1,fun p hp=>k _ _ _ _ (q.2 p (rS.free hp)) (.ref p) (rS.new hp ⟨_,aA,(s1.append s2).mono (.new hp)⟩) (.new hp)⟩
  ·exact q.elim
 ·exact q.elim⟩
end
mutual
inductive Dat (S:av):PV->PyData->Prop
 |non:Dat S .non .none
 |bl (b:Bool):Dat S (.bl b) (.bool b)
 |int (i:Int):Dat S (.int i) (.int i)
 |str (x:Str):Dat S (.str x) (.str x)
 |tup {ps:List PV} {ds:List PyData}:Bx S ps ds->Dat S (.tup ps) (.tuple ds)
 |cl {ps:List PV} {ds:List PyData}:Bx S ps ds->Dat S (.cl ps) (.list ds)
 |ref {a:Addr} {ps:List PV} {ds:List PyData}:S a=some (.lst ps)->Bx S ps ds->Dat S (.ref a) (.list ds)
inductive Bx (S:av):List PV->List PyData->Prop
 |nil:Bx S [] []
 |cons {p:PV} {d:PyData} {ps:List PV} {ds:List PyData}:Dat S p d->Bx S ps ds->Bx S (p::ps) (d::ds)
end
section
variable {X:Cx} {pins:Va} {σ:L2.St} {H:Hp} {s:Shared} {S:av}
def m6(I:Inv X pins σ H s)(rS:Ah X.K H S):(∀{p:PV} {d:PyData},Dat S p d->∀{v:V} {u:Value},Rep X.K H v p->RelV v u->∃as,Reads s.heap u d as)/\∀{ps:List PV} {ds:List PyData},Bx S ps ds->∀{vs:List V} {us:Vv},Reps X.K H vs ps->Vals vs us->∃as,ReadsAll s.heap us ds as:=by
 have one:=@Dat.rec S (motive_1:=fun p d _=>∀{v:V} {u:Value},Rep X.K H v p->RelV v u->∃as,Reads s.heap u d as) (motive_2:=fun ps ds _=>∀{vs:List V} {us:Vv},Reps X.K H vs ps->Vals vs us->∃as,ReadsAll s.heap us ds as)
 have two:=@Bx.rec S (motive_1:=fun p d _=>∀{v:V} {u:Value},Rep X.K H v p->RelV v u->∃as,Reads s.heap u d as) (motive_2:=fun ps ds _=>∀{vs:List V} {us:Vv},Reps X.K H vs ps->Vals vs us->∃as,ReadsAll s.heap us ds as)
 have c1:∀{v:V} {u:Value},Rep X.K H v .non->RelV v u->∃as,Reads s.heap u .none as:=fun h r=>by cases h;cases r;exact⟨_,.none⟩
 have c2:∀(b:Bool) {v:V} {u:Value},Rep X.K H v (.bl b)->RelV v u->∃as,Reads s.heap u (.bool b) as:=fun b _ _ h r=>by cases h;cases r;exact⟨_,.bool b⟩
 have c3:∀(i:Int) {v:V} {u:Value},Rep X.K H v (.int i)->RelV v u->∃as,Reads s.heap u (.int i) as:=fun i _ _ h r=>by cases h;obtain⟨t,rfl⟩:=r;exact⟨_,.int i t⟩
 have c4:∀(x:Str) {v:V} {u:Value},Rep X.K H v (.str x)->RelV v u->∃as,Reads s.heap u (.str x) as:=fun x _ _ h r=>by cases h;obtain⟨t,rfl⟩:=r;exact⟨_,.str x t⟩
 have c5:∀{ps:List PV} {ds:List PyData},Bx S ps ds->(∀{vs:List V} {us:Vv},Reps X.K H vs ps->Vals vs us->∃as,ReadsAll s.heap us ds as)->∀{v:V} {u:Value},Rep X.K H v (.tup ps)->RelV v u->∃as,Reads s.heap u (.tuple ds) as:=fun _ ih _ _ h r=>by
  cases h with
  |tup h rs=>
   cases r
   obtain⟨its,rv,⟨o,ho,hc,n,hd⟩,hz⟩:=I.tuple h
   obtain⟨as,q⟩:=ih rs rv
   exact⟨as,.tuple ho hc hd (by simpa using q)⟩
 have c6:∀{ps:List PV} {ds:List PyData},Bx S ps ds->(∀{vs:List V} {us:Vv},Reps X.K H vs ps->Vals vs us->∃as,ReadsAll s.heap us ds as)->∀{v:V} {u:Value},Rep X.K H v (.cl ps)->RelV v u->∃as,Reads s.heap u (.list ds) as:=fun _ ih _ _ h r=>by
  cases h with
  |cl h rs=>
   cases r
   obtain⟨its,rv,⟨o,n,ho,hc,_,hd⟩,hz⟩:=I.list h.sq
   obtain⟨as,q⟩:=ih rs rv
   exact⟨_,.list ho hc hd (by simpa using q)⟩
 have c7:∀{a:Addr} {ps:List PV} {ds:List PyData},S a=some (.lst ps)->Bx S ps ds->(∀{vs:List V} {us:Vv},Reps X.K H vs ps->Vals vs us->∃as,ReadsAll s.heap us ds as)->∀{v:V} {u:Value},Rep X.K H v (.ref a)->RelV v u->∃as,Reads s.heap u (.list ds) as:=fun e _ ih _ _ h r=>by
  cases h
  cases r
  obtain⟨vs,hv,rs⟩:=rS _ _ e
  obtain⟨its,rv,⟨o,n,ho,hc,_,hd⟩,hz⟩:=I.list (SqL.of hv)
  obtain⟨as,q⟩:=ih rs rv
  exact⟨_,.list ho hc hd (by simpa using q)⟩
 have c8:∀{vs:List V} {us:Vv},Reps X.K H vs []->Vals vs us->∃as,ReadsAll s.heap us [] as:=fun h r=>by cases h;cases r;exact⟨_,.nil⟩
 have c9:∀{p:PV} {d:PyData} {ps:List PV} {ds:List PyData},Dat S p d->Bx S ps ds->(∀{v:V} {u:Value},Rep X.K H v p->RelV v u->∃as,Reads s.heap u d as)->(∀{vs:List V} {us:Vv},Reps X.K H vs ps->Vals vs us->∃as,ReadsAll s.heap us ds as)->∀{vs:List V} {us:Vv},Reps X.K H vs (p::ps)->Vals vs us->∃as,ReadsAll s.heap us (d::ds) as:=fun _ _ i1 i2 _ _ h r=>by
  cases h with
  |cons a rs=>
   cases r with
   |cons r1 r2=>
    obtain⟨as,q⟩:=i1 a r1
    obtain⟨bs,q2⟩:=i2 rs r2
    exact⟨_,.cons q q2⟩
 exact⟨fun h=>one c1 c2 c3 c4 c5 c6 c7 c8 c9 h,fun h=>two c1 c2 c3 c4 c5 c6 c7 c8 c9 h⟩
def Dat.reads(I:Inv X pins σ H s)(rS:Ah X.K H S){p:PV}{d:PyData}{v:V}{u:Value}(h:Dat S p d)(r:Rep X.K H v p)(r2:RelV v u):∃as,Reads s.heap u d as:=(m6 I rS).1 h r r2
end
section
variable {X:Cx}
def bv(neg:Bool):R3:=fun x y S Q=>match x,y with
 | .int i,.int j=>Q (.bl (neg != decide (i=j))) S
 | .str i,.str j=>Q (.bl (neg != decide (i=j))) S
 | .bl i,.bl j=>Q (.bl (neg != decide (i=j))) S
 |x,y=>∃d d',Dat S x d/\Dat S y d'/\d.canLay0=true/\d'.canLay0=true/\min d.depth d'.depth<=150/\Q (.bl (neg != PyData.eqv d d')) S
def l4(hu:X.A.units+150 < cLine):ie X (compareOp .Eq) (bv false):=⟨fun pins s σ H x y v u Q I rx ry ⟨px,py,S,Q3,r1,r2,rS,q,k⟩=>by
 unfold bv at q
 split at q
 ·cases r1;cases r2
  exact pU pins s σ H _ _ v u Q I rx ry ⟨rfl,k _ S _ H (by simpa using q) (.bl _) rS .refl⟩
 ·cases r1;cases r2
  exact pU pins s σ H _ _ v u Q I rx ry ⟨rfl,k _ S _ H (by simpa using q) (.bl _) rS .refl⟩
 ·cases r1;cases r2
  exact pU pins s σ H _ _ v u Q I rx ry ⟨rfl,k _ S _ H (by simpa using q) (.bl _) rS .refl⟩
 ·obtain⟨d,d',h1,h2,c1,c2,hd,q⟩:=q
  obtain⟨as,a1⟩:=h1.reads I rS r1 rx
  obtain⟨bs,a2⟩:=h2.reads I rS r2 ry
  exact SeqAt.compareEq_reads a1 a2 c1 c2 (by omega) ⟨.bl _,H,I,rfl,k _ S _ H (by simpa using q) (.bl _) rS .refl⟩⟩
def xH(hu:X.A.units+150 < cLine):ie X (compareOp .NotEq) (bv true):=⟨fun pins s σ H x y v u Q I rx ry ⟨px,py,S,Q3,r1,r2,rS,q,k⟩=>by
 unfold bv at q
 split at q
 ·cases r1;cases r2
  exact pV pins s σ H _ _ v u Q I rx ry ⟨rfl,k _ S _ H (by simpa using q) (.bl _) rS .refl⟩
 ·cases r1;cases r2
  exact pV pins s σ H _ _ v u Q I rx ry ⟨rfl,k _ S _ H (by simpa using q) (.bl _) rS .refl⟩
 ·cases r1;cases r2
  exact pV pins s σ H _ _ v u Q I rx ry ⟨rfl,k _ S _ H (by simpa using q) (.bl _) rS .refl⟩
 ·obtain⟨d,d',h1,h2,c1,c2,hd,q⟩:=q
  obtain⟨as,a1⟩:=h1.reads I rS r1 rx
  obtain⟨bs,a2⟩:=h2.reads I rS r2 ry
  exact SeqAt.compareNe_reads a1 a2 c1 c2 (by omega) ⟨.bl _,H,I,rfl,k _ S _ H (by simpa using q) (.bl _) rS .refl⟩⟩
noncomputable def m7(S:av):PV->Option (List PV)
 | .tup xs=>some xs
 | .cl xs=>some xs
 | .ref a=>match S a with|some (.lst xs)=>some xs|_=>none
 |_=>none
def vq{H:Hp}{S:av}{v:V}{p:PV}{xs:List PV}(rS:Ah X.K H S)(r:Rep X.K H v p)(h:m7 S p=some xs):∃a vs,v = .ref a/\(SqL X.K H a vs\/SqT X.K H a vs)/\Reps X.K H vs xs:=by
 unfold m7 at h
 split at h
 ·cases h;cases r with|tup h1 rs=>exact⟨_,_,rfl,.inr h1,rs⟩
 ·cases h;cases r with|cl h1 rs=>exact⟨_,_,rfl,.inl h1.sq,rs⟩
 ·cases r
  split at h
  ·rename_i e
   cases h
   obtain⟨vs,hv,rs⟩:=rS _ _ e
   exact⟨_,vs,rfl,.inl (SqL.of hv),rs⟩
  ·cases h
 ·cases h
noncomputable def iF(x:PyData)(xs:List PyData):Bool:=xs.any fun y=>PyData.eqv y x
def nL(neg:Bool):R3:=fun x y S Q=>match x,y with
 | .str i,.str j=>Q (.bl (neg != !(Builtin.Str.occurrences j i 0 j.length 1).isEmpty)) S
 |x,y=>match y with
  | .ref a=>match S a with
   |some (.lst xs)=>∃d ds,Dat S x d/\Bx S xs ds/\d.canLay0=true/\PyData.canLayAll0 ds=true/\d.depth<=150/\Q (.bl (neg != iF d ds)) S
   |some (.dct kvs)=>match x with
    | .str z=>Q (.bl (neg != (kvs.any fun kv=>decide (kv.1=Sum.inr z)))) S
    | .int z=>Q (.bl (neg != (kvs.any fun kv=>decide (kv.1=Sum.inl z)))) S
    |_=>False
   |_=>False
  | .tup xs=>∃d ds,Dat S x d/\Bx S xs ds/\d.canLay0=true/\PyData.canLayAll0 ds=true/\d.depth<=150/\Q (.bl (neg != iF d ds)) S
  |_=>False
theorem Au.any{K:Vo}{H:Hp}{κ:Type} [DecidableEq κ](k:κ):∀{vs:List (κ×V)} {ps:List (κ×PV)},Au K H vs ps->(hU vs k).isSome=ps.any fun kv=>decide (kv.1=k)
 |_,_,.nil=>rfl
 |_,_,.cons (k:=k') a r=>by
  rw[Ld,<-Au.any k r]
  by_cases e:k'=k
  ·rw[Bu e];simp[e]
  ·rw[Bv e];simp[e]
def qH(hu:X.A.units+160 < cLine):ie X (compareOp .In) (nL false):=⟨fun pins s σ H x y v u Q I rx ry ⟨px,py,S,Q3,r1,r2,rS,q,k⟩=>by
 unfold nL at q
 split at q
 ·cases r1;cases r2
  exact ot pins s σ H _ _ v u Q I rx ry ⟨_,_,rfl,rfl,k _ S _ H (by simpa using q) (.bl _) rS .refl⟩
 ·split at q
  ·cases r2
   cases ry
   split at q
   ·rename_i xs e
    obtain⟨d,ds,h1,h2,c1,c2,hd,q⟩:=q
    obtain⟨as,a1⟩:=h1.reads I rS r1 rx
    obtain⟨bs,a2⟩:=(Dat.ref e h2).reads I rS (.ref _) (rfl:RelV (.ref _) (.ref _))
    exact SeqAt.in_list_reads a2 a1 c2 c1 (by omega) ⟨.bl _,H,I,rfl,k _ S _ H (by simpa [iF]using q) (.bl _) rS .refl⟩
   ·rename_i kvs e
    obtain⟨kv,hv,rk⟩:=rS _ _ e
    split at q
    ·cases r1
     exact xl (by omega) I (DGet.k (k:=Sum.inr _) hv) rx fun s3 I3=>⟨.bl _,H,I3,rfl,k _ S _ H (by rw[rk.any];simpa using q) (.bl _) rS .refl⟩
    ·cases r1
     exact xl (by omega) I (DGet.k (k:=Sum.inl _) hv) rx fun s3 I3=>⟨.bl _,H,I3,rfl,k _ S _ H (by rw[rk.any];simpa using q) (.bl _) rS .refl⟩
    ·exact q.elim
   ·exact q.elim
  ·rename_i xs
   obtain⟨d,ds,h1,h2,c1,c2,hd,q⟩:=q
   obtain⟨as,a1⟩:=h1.reads I rS r1 rx
   obtain⟨bs,a2⟩:=(Dat.tup h2).reads I rS r2 ry
   exact SeqAt.in_tuple_reads a2 a1 c2 c1 (by omega) ⟨.bl _,H,I,rfl,k _ S _ H (by simpa [iF]using q) (.bl _) rS .refl⟩
  ·exact q.elim⟩
def qI(hu:X.A.units+160 < cLine):ie X (compareOp .NotIn) (nL true):=⟨fun pins s σ H x y v u Q I rx ry ⟨px,py,S,Q3,r1,r2,rS,q,k⟩=>by
 unfold nL at q
 split at q
 ·cases r1;cases r2
  exact kI pins s σ H _ _ v u Q I rx ry ⟨_,_,rfl,rfl,k _ S _ H (by simpa using q) (.bl _) rS .refl⟩
 ·split at q
  ·cases r2
   cases ry
   split at q
   ·rename_i xs e
    obtain⟨d,ds,h1,h2,c1,c2,hd,q⟩:=q
    obtain⟨as,a1⟩:=h1.reads I rS r1 rx
    obtain⟨bs,a2⟩:=(Dat.ref e h2).reads I rS (.ref _) (rfl:RelV (.ref _) (.ref _))
    exact SeqAt.notIn_list_reads a2 a1 c2 c1 (by omega) ⟨.bl _,H,I,rfl,k _ S _ H (by simpa [iF]using q) (.bl _) rS .refl⟩
   ·rename_i kvs e
    obtain⟨kv,hv,rk⟩:=rS _ _ e
    split at q
    ·cases r1
     exact nH (by omega) I (DGet.k (k:=Sum.inr _) hv) rx fun s3 I3=>⟨.bl _,H,I3,rfl,k _ S _ H (by rw[rk.any];simpa using q) (.bl _) rS .refl⟩
    ·cases r1
     exact nH (by omega) I (DGet.k (k:=Sum.inl _) hv) rx fun s3 I3=>⟨.bl _,H,I3,rfl,k _ S _ H (by rw[rk.any];simpa using q) (.bl _) rS .refl⟩
    ·exact q.elim
   ·exact q.elim
  ·rename_i xs
   obtain⟨d,ds,h1,h2,c1,c2,hd,q⟩:=q
   obtain⟨as,a1⟩:=h1.reads I rS r1 rx
   obtain⟨bs,a2⟩:=(Dat.tup h2).reads I rS r2 ry
   exact SeqAt.notIn_tuple_reads a2 a1 c2 c1 (by omega) ⟨.bl _,H,I,rfl,k _ S _ H (by simpa [iF]using q) (.bl _) rS .refl⟩
  ·exact q.elim⟩
end
end L3
namespace HT
open PySem PySem.Spec PyProof.Rows
section
variable {prog:Program} {w:World} {A:Around} {E:Vq} {s:Shared}
def gx{t sl:Addr}{items:Vw}{vl vu:Value}{lo hi:Option Int}{Q:Vq}(ht:IsTup s.heap t items)(hs:s.heap.IsSliceOf sl vl vu .none)(pl:IsPart vl lo)(pu:IsPart vu hi)
  (hw:As items.size 0 lo=0/\As items.size items.size hi=items.size)
  (h:Q (.ref t) s):wpAny (model prog w) A (getItem (.ref t) (.ref sl)) Q E s:=by
 obtain⟨os,hos,hcs,hds⟩:=id hs
 have FJ:s.TypeIs (.ref sl) "slice":=⟨os,hos,hcs⟩
 unfold getItem
 try with_reducible refine J6 ?_
 first|refine HL (HS ?_)|skip
 refine HL (wpAny_sequenceKey ht.typeIs (by decide) ?_)
 refine HL (IG (name:=Str.ofString "__getitem__") ht.typeIs IE
  (Jp IE ht.typeIs entry_tuple_getitem ?_ (args_tuple_getitem _ _)))
 show wpAny _ _ (Builtin.Tuple.tupleItemsOf (.ref t) >>= _) _ _ s
 refine HL (tupleItemsOf_ ht ?_)
 refine HL (wpAny_typeOf FJ ?_)
 rw[if_pos (by decide)]
 refine HL (df hs pl pu ?_)
 have hyes:(((As items.size 0 lo:Nat):Int) == 0&&(1:Int) == 1&&(As items.size items.size hi - As items.size 0 lo) == items.size)=true:=by
  rw[hw.1,hw.2];simp
 show wpAny _ _ (if (((As items.size 0 lo:Nat):Int) == 0&&(1:Int) == 1&&(As items.size items.size hi - As items.size 0 lo) == items.size)=true then _ else _) _ _ s
 rw[if_pos hyes]
 unfold Builtin.Tuple.tupleIsExact
 refine HL (HL (wpAny_typeOf ht.typeIs (HS ?_)))
 rw[if_pos (by decide)]
 first
  |exact HL (JT (HS ⟨_,rfl,HS h⟩))
  |exact HL (JT (HL (HS (HS ⟨_,rfl,HS h⟩))))
  |exact HL (JT (HL (HS ⟨_,rfl,HS h⟩)))
end
end HT
namespace L2
open PySem PySem.Spec PyProof.Rows
section
variable {X:Cx}
noncomputable def xI(K:Vo):V->Option Int->Option Int->Hp->VK->Prop:=fun x lo hi H Q=>∃a xs,x = .ref a/\SqT K H a xs/\∀r H',(∀c o,H c=some o->H' c=some o)->SqT K H' r (i3 xs lo hi)->Q (.ref r) H'
def tj:wf X (xI X.K):=by
 intro pins s σ H x v vl vu lo hi sl Q I rx hs pl pu h
 obtain⟨a,xs,rfl,hx,q⟩:=h
 by_cases hw:HT.As xs.length 0 lo=0/\HT.As xs.length xs.length hi=xs.length
 ·cases rx
  obtain⟨its,r,ht,hz⟩:=I.tuple hx
  have hlen:its.toArray.size=xs.length:=by rw[HU];exact r.length.symm
  refine⟨"tuple",_,IE.lookup,ht.typeIs,HT.gx ht hs pl pu (by rw[hlen];exact hw) ⟨.ref a,H,I,rfl,q a H (fun _ _ e=>e) ?_⟩⟩
  have e:i3 xs lo hi=xs:=by unfold i3;rw[hw.1,hw.2];simp
  rw[e];exact hx
 ·exact u4 pins s σ H _ v vl vu lo hi sl Q I rx hs pl pu ⟨a,xs,rfl,hx,hw,fun p hp=>q p _ (fun c o e=>by rw[az (aM e hp)];exact e) (SqT.of aA)⟩
def tm(hu:X.A.units+1 < cLine):wg X (fun x y H Q=>∃a v,x = .ref a/\DGet H a y (some v)/\Q v H):=by
 intro value slice pins s σ H x y v u Q I rx ry h hs
 obtain⟨a,z,rfl,g,q⟩:=h
 cases rx
 exact tail_any (lU I g) PySem.F.slot_dict_getitem.lookup (oz hu I g ry fun w' s3 I3 rw'=>⟨z,H,I3,rw',q⟩) hs
def qJ(hu:X.A.units+1 < cLine):sr X (fun o i v H Q=>∃a H',o = .ref a/\Dy H a i v H'/\Q H'):=by
 intro pins s σ H o i v ov iv u Q I ro ri rv h
 obtain⟨a,H',rfl,g,q⟩:=h
 cases ro
 exact oA hu I g ri rv fun s' I'=>⟨H',I',q⟩
end
end L2
namespace L3
open PySem L2
theorem Reps.AS{K:Vo}{H:Hp}{vs:List V}{ps:List PV}{i:Int}{p:PV}(r:Reps K H vs ps)(h:L2.AS ps i=some p):∃v,L2.AS vs i=some v/\Rep K H v p:=by
 unfold L2.AS at h ⊢
 rw[r.length]
 cases e:mF ps.length i with
 |none=>rw[e]at h;cases h
 |some j=>
  rw[e]at h
  obtain⟨v,h1,h2⟩:=r.get h
  exact⟨v,h1,h2⟩
noncomputable def m8:PV->Option bE
 | .int i=>some (.inl i)
 | .str x=>some (.inr x)
 |_=>none
def dD{K:Vo}{H:Hp}{v:V}{p:PV}{k:bE}(r:Rep K H v p)(h:m8 p=some k):v=kV k:=by
 cases p with
 |int i=>cases h;cases r;rfl
 |str i=>cases h;cases r;rfl
 |_=>cases h
noncomputable def jX{κ:Type} [DecidableEq κ]:List (κ×PV)->κ->Option PV
 |[],_=>none
 |(k',v)::r,k=>if k'=k then some v else jX r k
theorem Au.val{K:Vo}{H:Hp}{κ:Type} [DecidableEq κ]{k:κ}{p:PV}:∀{vs:List (κ×V)} {ps:List (κ×PV)},Au K H vs ps->jX ps k=some p->∃v,hU vs k=some v/\Rep K H v p
 |_,_,.nil,h=>by cases h
 |_,_,.cons (k:=k') a r,h=>by
  unfold jX at h
  split at h
  ·rename_i e;cases h;exact⟨_,Bu e,a⟩
  ·rename_i e;rw[Bv e];exact Au.val r h
section
variable {X:Cx} {a b e lo hi:Expr} {ta tb te:aX} {pos p2:Pos}
structure zC (X:Cx) (r:R3):Prop where
 ok:wg X (LR X r)
def xJ{r:R3}(hr:zC X r)(ha:bu X a ta)(hb:bu X b tb)(hs:iS b):bu X (.Subscript a b pos) (ah r ta tb):=⟨aW (w9 hr.ok ha.ok hb.ok hs) fun _ _ _=>iU⟩
def af:R3:=fun x y S Q=>match x with
 | .tup xs=>match y with | .int i=>(match AS xs i with|some v=>Q v S|none=>False)|_=>False
 | .cl xs=>match y with | .int i=>(match AS xs i with|some v=>Q v S|none=>False)|_=>False
 | .str z=>match y with | .int i=>z.length<=sizeLine/\(match AS z.cps.toList i with|some c=>Q (.str ⟨#[c]⟩) S|none=>False)|_=>False
 | .ref a=>match S a with
  |some (.lst xs)=>(match y with | .int i=>(match AS xs i with|some v=>Q v S|none=>False)|_=>False)
  |some (.dct kvs)=>(match m8 y with|some k=>(match jX kvs k with|some v=>Q v S|none=>False)|none=>False)
  |_=>False
 |_=>False
def zD(hu:X.A.units+1 < cLine):zC X af:=⟨fun value slice pins s σ H x y v u Q I rx ry ⟨px,py,S,Q3,r1,r2,rS,q,k⟩ hs=>by
 unfold af at q
 split at q
 ·split at q
  ·split at q
   ·rename_i e
    cases r2
    cases r1 with
    |tup h1 rs=>
     obtain⟨w,hw,rw'⟩:=rs.AS e
     exact u5 value slice pins s σ H _ _ v u Q I rx ry ⟨_,_,_,w,rfl,rfl,h1,hw,k _ S _ H q rw' rS .refl⟩ hs
   ·exact q.elim
  ·exact q.elim
 ·split at q
  ·split at q
   ·rename_i e
    cases r2
    cases r1 with
    |cl h1 rs=>
     obtain⟨w,hw,rw'⟩:=rs.AS e
     exact nF value slice pins s σ H _ _ v u Q I rx ry ⟨_,_,_,w,rfl,rfl,h1.sq,hw,k _ S _ H q rw' rS .refl⟩ hs
   ·exact q.elim
  ·exact q.elim
 ·split at q
  ·obtain⟨hz,q⟩:=q
   split at q
   ·rename_i e
    cases r1;cases r2
    exact u6 value slice pins s σ H _ _ v u Q I rx ry ⟨_,_,_,rfl,rfl,hz,e,k _ S _ H q (.str _) rS .refl⟩ hs
   ·exact q.elim
  ·exact q.elim
 ·split at q
  ·rename_i e0
   split at q
   ·split at q
    ·rename_i e
     cases r1;cases r2
     obtain⟨vs,hv,rs⟩:=rS _ _ e0
     obtain⟨w,hw,rw'⟩:=rs.AS e
     exact nF value slice pins s σ H _ _ v u Q I rx ry ⟨_,_,_,w,rfl,rfl,SqL.of hv,hw,k _ S _ H q rw' rS .refl⟩ hs
    ·exact q.elim
   ·exact q.elim
  ·rename_i e0
   split at q
   ·rename_i ek
    split at q
    ·rename_i ev
     cases r1
     have e1:=dD r2 ek
     subst e1
     obtain⟨kv,hv,rk⟩:=rS _ _ e0
     obtain⟨w,hw,rw'⟩:=rk.val ev
     refine tm hu value slice pins s σ H _ _ v u Q I rx ry ⟨_,w,rfl,?_,k _ S _ H q rw' rS .refl⟩ hs
     rw[<-hw]
     exact DGet.k hv
    ·exact q.elim
   ·exact q.elim
  ·exact q.elim
 ·exact q.elim⟩
abbrev wk:=bY->av->(Option Int->av->Prop)->cg->Prop
inductive LO (X:Cx) (t:wk) (σ:L2.St) (H:Hp) (Q:Option Int->Hp->Prop):Prop
 |mk (σ3 S Q3 E3) (rσ:Al X.K H σ σ3) (rS:Ah X.K H S) (h:t σ3 S Q3 E3) (xo:Dr X H E3) (k:∀o S' H',Q3 o S'->Ah X.K H' S'->Grow X.K H H'->Q o H'):LO X t σ H Q
structure yx (X:Cx) (e:Option Expr) (t:wk):Prop where
 ok:PO X e (LO X t)
noncomputable def qK:wk:=fun _ S Q _=>Q none S
noncomputable def oK(t:aX):wk:=fun σ S Q E=>t σ S (fun v S'=>match v with | .int i=>Q (some i) S'|_=>False) E
def qL{e:Option Expr}{t t':TO}(h:PO X e t)(k:∀σ H Q,t' σ H Q->t σ H Q):PO X e t':=fun pins s σ H Q I q=>h pins s σ H Q I (k σ H Q q)
def ig:yx X none qK:=⟨qL sI fun σ H Q ⟨σ3,S,Q3,E3,rσ,rS,h,xo,k⟩=>k none S H h rS .refl⟩
def eU(h:bu X e te):yx X (some e) (oK te):=⟨qL (sJ h.ok) fun σ H Q ⟨σ3,S,Q3,E3,rσ,rS,h,xo,k⟩=>⟨σ3,S,_,E3,rσ,rS,h,xo,fun p S' v H' h1 rv BS g=>by
 cases p with
 |int i=>cases rv;exact⟨i,rfl,k _ S' H' h1 BS g⟩
 |_=>exact h1.elim⟩⟩
noncomputable def AT{α:Type}(xs:List α)(lo hi:Option Int):List α:=(xs.drop (HT.As xs.length 0 lo)).take (HT.As xs.length xs.length hi - HT.As xs.length 0 lo)
def Reps.cut{K:Vo}{H:Hp}{vs:List V}{ps:List PV}(r:Reps K H vs ps)(lo hi:Option Int):Reps K H (i3 vs lo hi) (AT ps lo hi):=by
 unfold i3 AT
 rw[r.length]
 exact(r.drop _).take _
def oM(x:PV)(lo hi:Option Int)(S:av)(Q:bQ):Prop:=match x with
 | .tup xs=>Q (.tup (AT xs lo hi)) S
 | .cl xs=>∀p,S p=none->Q (.ref p) (am S p (.lst (AT xs lo hi)))
 | .str z=>z.length<=sizeLine/\Q (.str (Txt.slice z lo hi)) S
 | .ref a=>match S a with|some (.lst xs)=>∀p,S p=none->Q (.ref p) (am S p (.lst (AT xs lo hi)))|_=>False
 |_=>False
noncomputable def zT(X:Cx):V->Option Int->Option Int->Hp->VK->Prop:=fun x lo hi H Q=>∃px S Q3,Rep X.K H x px/\Ah X.K H S/\oM px lo hi S Q3/\Ds X.K H Q3 Q
def zU:wf X (zT X):=by
 intro pins s σ H x v vl vu lo hi sl Q I rx hs pl pu ⟨px,S,Q3,r1,rS,q,k⟩
 unfold oM at q
 split at q
 ·cases r1 with
  |tup h1 rs=>exact tj pins s σ H _ v vl vu lo hi sl Q I rx hs pl pu ⟨_,_,rfl,h1,fun r H' hh hr=>k _ S _ H' q (.tup hr ((rs.cut lo hi).mono (.same hh))) (rS.grow hh) (.same hh)⟩
 ·cases r1 with
  |cl h1 rs=>exact nG pins s σ H _ v vl vu lo hi sl Q I rx hs pl pu ⟨_,_,rfl,h1.sq,fun p hp=>k _ _ _ _ (q p (rS.free hp)) (.ref p) (rS.new hp ⟨_,aA,(rs.cut lo hi).mono (.new hp)⟩) (.new hp)⟩
 ·cases r1
  exact ve pins s σ H _ v vl vu lo hi sl Q I rx hs pl pu ⟨_,rfl,q.1,k _ S _ H q.2 (.str _) rS .refl⟩
 ·split at q
  ·rename_i e
   cases r1
   obtain⟨vs,hv,rs⟩:=rS _ _ e
   exact nG pins s σ H _ v vl vu lo hi sl Q I rx hs pl pu ⟨_,_,rfl,SqL.of hv,fun p hp=>k _ _ _ _ (q p (rS.free hp)) (.ref p) (rS.new hp ⟨_,aA,(rs.cut lo hi).mono (.new hp)⟩) (.new hp)⟩
  ·exact q.elim
 ·exact q.elim
def cu(te:aX)(tl th:wk):aX:=fun σ S Q E=>te σ S (fun x S1=>tl σ S1 (fun l S2=>th σ S2 (fun u S3=>oM x l u S3 Q) E) E) E
def dF{lo hi:Option Expr}{tl th:wk}(he:bu X e te)(hl:yx X lo tl)(hu:yx X hi th):bu X (.Subscript e (.Slice lo hi none p2) pos) (cu te tl th):=
 ⟨aW (p8 zU he.ok hl.ok hu.ok) fun σ H Q ⟨σ3,S,Q3,E3,rσ,rS,h,xo,k⟩=>⟨σ3,S,_,E3,rσ,rS,h,xo,fun x S1 v H1 h1 rx At g1=>⟨σ3,S1,_,E3,rσ.mono g1,At,h1,xo.mono g1,fun l S2 H2 h2 Cs g2=>
  ⟨σ3,S2,_,E3,rσ.mono (g1.trans g2),Cs,h2,xo.mono (g1.trans g2),fun u S3 H3 h3 Ew g3=>⟨x,S3,Q3,rx.mono (g2.trans g3),Ew,h3,k.mono (g1.trans (g2.trans g3))⟩⟩⟩⟩⟩
def tq:g7 X (binaryOp .Mult) (rI IntMulOk fun i j=>.int (i * j)):=yt fun _ _ _ _ _ _ _ hc q=>PyProof.Rows.mul_int q hc
def cm:R3:=fun x y S Q=>match x,y with
 | .int i,.int j=>IntMulOk i j/\Q (.int (i * j)) S
 | .ref a,.int j=>(match S a with|some (.lst xs)=>-(2 ^ 63)<=j/\j < 2 ^ 63/\xs.length * j.toNat<=sizeLine/\∀p,S p=none->Q (.ref p) (am S p (.lst (List.replicate j.toNat xs).flatten))|_=>False)
 |_,_=>False
theorem Reps.rep{K:Vo}{H:Hp}{vs:List V}{ps:List PV}(r:Reps K H vs ps):∀n:Nat,Reps K H (List.replicate n vs).flatten (List.replicate n ps).flatten
 |0=>.nil
 |n+1=>by
  rw[Iq,Iq,JG,JG]
  exact r.append (Reps.rep r n)
def bc:ie X (binaryOp .Mult) cm:=⟨fun pins s σ H x y v u Q I rx ry ⟨px,py,S,Q3,r1,r2,rS,q,k⟩=>by
 unfold cm at q
 split at q
 ·cases r1;cases r2
  exact tq pins s σ H _ _ v u Q I rx ry ⟨_,_,rfl,rfl,q.1,k _ S _ H q.2 (.int _) rS .refl⟩
 ·split at q
  ·rename_i e
   cases r1;cases r2
   obtain⟨vs,hv,rs⟩:=rS _ _ e
   exact va pins s σ H _ _ v u Q I rx ry ⟨_,_,_,rfl,rfl,hv,q.1,q.2.1,by rw[rs.length];exact q.2.2.1,fun p hp=>k _ _ _ _ (q.2.2.2 p (rS.free hp)) (.ref p) (rS.new hp ⟨_,aA,(rs.rep _).mono (.new hp)⟩) (.new hp)⟩
  ·exact q.elim
 ·exact q.elim⟩
end
end L3
namespace L2
open PySem PySem.Spec PyProof.Rows
end L2
namespace L3
open PySem L2
abbrev nM:=List PV->av->bQ->Prop
section
variable {X:Cx} {e o:Expr} {es:List Expr} {te to:aX} {ts:List aX} {x:Str} {p pos apos cpos:Pos}
inductive LC (X:Cx) (r:nM) (xs:List V) (H:Hp) (Q:VK):Prop
 |mk (ps S Q3) (rx:Reps X.K H xs ps) (rS:Ah X.K H S) (h:r ps S Q3) (k:Ds X.K H Q3 Q):LC X r xs H Q
structure fN (X:Cx) (f:Value) (r:nM):Prop where
 ok:fJ X f (LC X r)
def ao(r:nM)(ts:List aX):aX:=fun σ S Q E=>bR ts σ S (fun ps S1=>r ps S1 Q) E
def nN{r:nM}{σ:L2.St}{H:Hp}{Q:VK}:LE X (ao r ts) σ H Q->yw (ts.map (LE X)) σ H fun vs H1=>LC X r vs H1 Q:=fun⟨σ3,S,Q3,E3,rσ,rS,h,xo,k⟩=>
 cA rσ rS h xo fun ps S' vs H' hl q rv BS g=>⟨ps,S',Q3,rv,BS,q,k.mono g⟩
def tt{id:String}{r:nM}(hc:fN X (.builtin id) r)(hg:Gl X x)(hm:X.mg x=none)(hv:bootBuiltins x=some (.builtin id))(he:starEach (e::es) X.env=(false,eval e X.env)::starEach es X.env)(ha:kl X (e::es) ts)
  (hn:x ≠ "__name__":=by decide) (hdb:(x == ("__debug__":Str))=false:=by decide) (hpl:(backTo pos (starEach es X.env)).any (·.1)=false:=by rfl):bu X (.Call (.Name x p) (e::es) [] pos) (ao r ts):=
 ⟨aW (pY hc.ok hg hm hv ha.ok hn hdb he hpl) fun _ _ _=>nN⟩
def tw{id:String}{r:nM}(hc:fN X (.type id) r)(hg:Gl X x)(hm:X.mg x=none)(hv:bootBuiltins x=some (.type id))(he:starEach (e::es) X.env=(false,eval e X.env)::starEach es X.env)(ha:kl X (e::es) ts)
  (hn:x ≠ "__name__":=by decide) (hdb:(x == ("__debug__":Str))=false:=by decide) (hpl:(backTo pos (starEach es X.env)).any (·.1)=false:=by rfl):bu X (.Call (.Name x p) (e::es) [] pos) (ao r ts):=
 ⟨aW (ox hc.ok hg hm hv ha.ok hn hdb he hpl) fun _ _ _=>nN⟩
def dG:nM:=fun ps S Q=>match ps with
 |[.tup xs]=>Q (.int xs.length) S
 |[.cl xs]=>Q (.int xs.length) S
 |[.str z]=>z.length<=sizeLine/\Q (.int z.length) S
 |[.ref a]=>(match S a with|some (.lst xs)=>Q (.int xs.length) S|some (.dct kvs)=>Q (.int kvs.length) S|_=>False)
 |_=>False
def di:fN X (.builtin "len") dG:=⟨fun pins s σ H xs us Q I r ⟨ps,S,Q3,rp,rS,q,k⟩=>by
 unfold dG at q
 split at q
 ·cases rp with|cons a rr=>cases rr;cases a with|tup h rs=>exact dC pins s σ H _ us Q I r ⟨_,_,rfl,.inr h,by rw[rs.length];exact k _ S _ H q (.int _) rS .refl⟩
 ·cases rp with|cons a rr=>cases rr;cases a with|cl h rs=>exact dC pins s σ H _ us Q I r ⟨_,_,rfl,.inl h.sq,by rw[rs.length];exact k _ S _ H q (.int _) rS .refl⟩
 ·cases rp with|cons a rr=>cases rr;cases a;exact kJ pins s σ H _ us Q I r ⟨_,rfl,q.1,k _ S _ H q.2 (.int _) rS .refl⟩
 ·cases rp with
  |cons a rr=>
   cases rr;cases a
   split at q
   ·rename_i e
    obtain⟨vs,hv,rs⟩:=rS _ _ e
    exact dC pins s σ H _ us Q I r ⟨_,_,rfl,.inl (SqL.of hv),by rw[rs.length];exact k _ S _ H q (.int _) rS .refl⟩
   ·rename_i e
    obtain⟨vs,hv,rs⟩:=rS _ _ e
    exact oD pins s σ H _ us Q I r ⟨_,_,rfl,hv,by rw[rs.length];exact k _ S _ H q (.int _) rS .refl⟩
   ·exact q.elim
 ·exact q.elim⟩
def oN:nM:=fun ps S Q=>match ps with|[.int i]=>Q (.int (if i < 0 then -i else i)) S|_=>False
def xK:fN X (.builtin "abs") oN:=⟨fun pins s σ H xs us Q I r ⟨ps,S,Q3,rp,rS,q,k⟩=>by
 unfold oN at q
 split at q
 ·cases rp with|cons a rr=>cases rr;cases a;exact pX pins s σ H _ us Q I r ⟨_,rfl,k _ S _ H q (.int _) rS .refl⟩
 ·exact q.elim⟩
def eV:nM:=fun ps S Q=>match ps with|[.int i,.int j]=>Q (.int (if j > i then j else i)) S|_=>False
def ii(hc:X.calm=true):fN X (.builtin "max") eV:=⟨fun pins s σ H xs us Q I r ⟨ps,S,Q3,rp,rS,q,k⟩=>by
 unfold eV at q
 split at q
 ·cases rp with|cons a rr=>cases rr with|cons b r3=>cases r3;cases a;cases b;exact ou hc pins s σ H _ us Q I r ⟨_,_,rfl,k _ S _ H q (.int _) rS .refl⟩
 ·exact q.elim⟩
def gy:nM:=fun ps S Q=>match ps with|[.int i]=>Q (.int i) S|[.bl b]=>Q (.int (if b then 1 else 0)) S|_=>False
def qM:fN X (.type "int") gy:=⟨fun pins s σ H xs us Q I r ⟨ps,S,Q3,rp,rS,q,k⟩=>by
 unfold gy at q
 split at q
 ·cases rp with|cons a rr=>cases rr;cases a;exact j5 pins s σ H _ us Q I r (.inl ⟨_,rfl,k _ S _ H q (.int _) rS .refl⟩)
 ·cases rp with|cons a rr=>cases rr;cases a;exact j5 pins s σ H _ us Q I r (.inr ⟨_,rfl,k _ S _ H q (.int _) rS .refl⟩)
 ·exact q.elim⟩
def aK:nM:=fun ps S Q=>match ps with
 |[v]=>(match m7 S v with|some xs=>Q (.tup xs) S|none=>False)
 |_=>False
def bi:fN X (.type "tuple") aK:=⟨fun pins s σ H xs us Q I r ⟨ps,S,Q3,rp,rS,q,k⟩=>by
 unfold aK at q
 split at q
 ·cases rp with
  |cons a rr=>
   cases rr
   split at q
   ·rename_i e
    obtain⟨b,vs,rfl,hs,rs⟩:=vq rS a e
    rcases hs with hs|hs
    ·exact fK pins s σ H _ us Q I r ⟨_,_,rfl,.inl ⟨hs,fun p hp=>k _ S _ _ q (.tup (SqT.of aA) (rs.mono (.new hp))) (rS.other hp) (.new hp)⟩⟩
    ·exact fK pins s σ H _ us Q I r ⟨_,_,rfl,.inr ⟨hs,k _ S _ _ q (.tup hs rs) rS .refl⟩⟩
   ·exact q.elim
 ·exact q.elim⟩
def kn:nM:=fun ps S Q=>match ps with
 |[.int _]=>False
 |[.str _]=>False
 |[.bl _]=>False
 |[.non]=>False
 |[.ty _]=>False
 |[v]=>∃d,Dat S v d/\d.showable=true/\d.hasDict=false/\d.depth<=100/\d.shown.length<=sizeLine/\Q (.str d.shown) S
 |_=>False
def qN(hu:X.A.units+150 < cLine)(hg:X.A.guards=some []):fN X (.builtin "repr") kn:=⟨fun pins s σ H xs us Q I r ⟨ps,S,Q3,rp,rS,q,k⟩=>by
 unfold kn at q
 have main:∀{v:PV} {x:V} {u:Value} {a:Addr},u = .ref a->Rep X.K H x v->RelV x u->(∃d,Dat S v d/\d.showable=true/\d.hasDict=false/\d.depth<=100/\d.shown.length<=sizeLine/\Q3 (.str d.shown) S)->wpAny (model X.prog X.w) X.A (call (.builtin "repr") [u]) (EP X pins σ Q) X.xe s:=by
  rintro v x u a rfl rv rx ⟨d,hd,h1,h2,h3,h4,q⟩
  obtain⟨as,R⟩:=hd.reads I rS rv rx
  exact repr_of_reads' R h1 (PyData.noDict_hsm h2) hg (by omega) (fun _ _ e=>e) (fun h' u tk hk=>⟨.str _,H,I.kept hk,⟨u,rfl⟩,k _ S _ H q (.str _) rS .refl⟩) h4
 split at q
 ·exact q.elim
 ·exact q.elim
 ·exact q.elim
 ·exact q.elim
 ·exact q.elim
 ·rename_i n1 n2 n3 n4 n5
  cases rp with
  |cons a rr=>
   cases rr
   cases r with
   |cons r1 r2=>
    cases r2
    cases a with
    |non=>exact absurd rfl n4
    |bl b=>exact absurd rfl (n3 b)
    |int i=>exact absurd rfl (n1 i)
    |str i=>exact absurd rfl (n2 i)
    |ty i=>exact absurd rfl (n5 i)
    |ref b=>cases r1;exact main rfl (.ref b) rfl q
    |tup h rs=>cases r1;exact main rfl (.tup h rs) rfl q
    |cl h rs=>cases r1;exact main rfl (.cl h rs) rfl q
    |exc h1 h2 rs=>cases r1;exact main rfl (.exc h1 h2 rs) rfl q
    |cls h=>cases r1;exact main rfl (.cls h) rfl q
 ·exact q.elim⟩
end
abbrev r_:=PV->List PV->av->bQ->Prop
section
variable {X:Cx} {e o:Expr} {es:List Expr} {te to:aX} {ts:List aX} {name:Str} {p pos apos cpos:Pos} {T id:String}
inductive LM (X:Cx) (r:r_) (x:V) (xs:List V) (H:Hp) (Q:VK):Prop
 |mk (px ps S Q3) (rx:Rep X.K H x px) (rs:Reps X.K H xs ps) (rS:Ah X.K H S) (h:r px ps S Q3) (k:Ds X.K H Q3 Q):LM X r x xs H Q
structure ue (X:Cx) (id:String) (r:r_):Prop where
 ok:w5 X id (LM X r)
def wm(T:String)(x:PV)(S:av):Prop:=match x with
 | .str _=>T = "str"
 | .ref a=>(match S a with|some (.lst _)=>T = "list" | some (.dct _)=>T = "dict" | _=>False)
 | .cl _=>T = "list"
 |_=>False
def qO{H:Hp}{S:av}{v:V}{p:PV}(rS:Ah X.K H S)(r:Rep X.K H v p)(h:wm T p S):yu X.K T v H:=by
 cases r with
 |str x=>exact h
 |ref a=>
  unfold wm at h
  simp only at h
  split at h
  ·rename_i e
   obtain⟨vs,hv,_⟩:=rS _ _ e
   exact .inl ⟨h,_,SqL.of hv⟩
  ·rename_i e
   obtain⟨vs,hv,_⟩:=rS _ _ e
   exact .inr (.inr (.inl ⟨h,.inl ⟨_,hv⟩⟩))
  ·exact h.elim
 |cl h1 _=>exact .inl ⟨h,_,h1.sq⟩
 |_=>exact h.elim
def ko(T:String)(r:r_)(to:aX)(ts:List aX):aX:=fun σ S Q E=>to σ S (fun x S1=>wm T x S1/\bR ts σ S1 (fun ps S2=>r x ps S2 Q) E) E
def zg{r:r_}(pa:PlainAttrs T)(slot:Slot T name id)(hty:typeOf (.builtin id)=pure (.type "method_descriptor"))(hm:ue X id r)(hs:starEach (e::es) X.env=(false,eval e X.env)::starEach es X.env)(ho:bu X o to)(ha:kl X (e::es) ts)
  (hbase:attributeBase o name X.env (eval o X.env)=eval o X.env:=by rfl)
  (hfew:((backTo cpos (starEach (e::es) X.env)).all (fun x=>!x.1)&&(backToKw cpos (keywordEach [] X.env)).all (fun x=>x.1.isSome)
   && decide ((e::es).length+([]:List Keyword).length+(if ([]:List Keyword).isEmpty then 0 else 1) < 30))=true:=by rfl)
  (hline:(apos.endLine == cpos.line)=true:=by rfl) (hplain:(backTo cpos (starEach es X.env)).any (·.1)=false:=by rfl):bu X (.Call (.Attribute o name apos) (e::es) [] cpos) (ko T r to ts):=
 ⟨aW (xg pa slot hty hm.ok ho.ok ha.ok hbase hfew hline hs hplain) fun σ H Q ⟨σ3,S,Q3,E3,rσ,rS,h,xo,k⟩=>⟨σ3,S,_,E3,rσ,rS,h,xo,fun x S1 v H1 h1 rx At g1=>
  ⟨qO At rx h1.1,cA (rσ.mono g1) At h1.2 (xo.mono g1) fun ps S2 vs H2 hl q rv Cs g2=>⟨x,ps,S2,Q3,rx.mono g2,rv,Cs,q,k.mono (g1.trans g2)⟩⟩⟩⟩
def xL{r:r_}(pa:PlainAttrs T)(slot:Slot T name id)(hty:typeOf (.builtin id)=pure (.type "method_descriptor"))(hm:ue X id r)(ho:bu X o to)
  (hbase:attributeBase o name X.env (eval o X.env)=eval o X.env:=by rfl) (hline:(apos.endLine == cpos.line)=true:=by rfl):bu X (.Call (.Attribute o name apos) [] [] cpos) (ko T r to []):=
 ⟨aW (u7 pa slot hty hm.ok ho.ok hbase hline) fun σ H Q ⟨σ3,S,Q3,E3,rσ,rS,h,xo,k⟩=>⟨σ3,S,_,E3,rσ,rS,h,xo,fun x S1 v H1 h1 rx At g1=>
  ⟨qO At rx h1.1,⟨x,[],S1,Q3,rx,.nil,At,h1.2,k.mono g1⟩⟩⟩⟩
def bB:r_:=fun x ps S Q=>match x,ps with
 | .ref a,[y]=>(match S a with|some (.lst xs)=>xs.length < sizeLine/\Q .non (am S a (.lst (xs++[y])))|_=>False)
 |_,_=>False
def eW:ue X "list.append" bB:=⟨fun pins s σ H x xs v us Q I rx rs ⟨px,ps,S,Q3,r1,rp,rS,q,k⟩=>by
 unfold bB at q
 split at q
 ·split at q
  ·rename_i e
   cases r1
   cases rp with
   |cons b rr=>
    cases rr
    obtain⟨vs,hv,rl⟩:=rS _ _ e
    exact oy pins s σ H _ _ v us Q I rx rs ⟨_,_,_,rfl,rfl,hv,by rw[rl.length];exact q.1,k _ _ _ _ q.2 .non (rS.put hv trivial ⟨_,aA,(rl.append (.cons b .nil)).mono (.mut hv trivial)⟩) (.mut hv trivial)⟩
  ·exact q.elim
 ·exact q.elim⟩
def oO:r_:=fun x ps S Q=>match x,ps with
 | .ref a,[]=>(match S a with|some (.lst xs)=>(match xs[xs.length - 1]? with|some y=>Q y (am S a (.lst xs.dropLast))|none=>False)|_=>False)
 | .ref a,[.int i]=>(match S a with|some (.lst xs)=>-(2 ^ 63)<=i/\i < 2 ^ 63/\(match seqIndex? i xs.length with|some j=>(match xs[j]? with|some y=>Q y (am S a (.lst (xs.eraseIdx j)))|none=>False)|none=>False)|_=>False)
 |_,_=>False
def xM:ue X "list.pop" oO:=⟨fun pins s σ H x xs v us Q I rx rs ⟨px,ps,S,Q3,r1,rp,rS,q,k⟩=>by
 unfold oO at q
 split at q
 ·split at q
  ·rename_i e
   split at q
   ·rename_i ey
    cases r1
    cases rp
    obtain⟨vs,hv,rl⟩:=rS _ _ e
    rw[<-rl.length]at ey
    obtain⟨y',FV,ry⟩:=rl.get ey
    exact u8 pins s σ H _ _ v us Q I rx rs ⟨_,_,_,rfl,rfl,hv,FV,k _ _ _ _ q (ry.mono (.mut hv trivial)) (rS.put hv trivial ⟨_,aA,rl.dropLast.mono (.mut hv trivial)⟩) (.mut hv trivial)⟩
   ·exact q.elim
  ·exact q.elim
 ·split at q
  ·rename_i e
   obtain⟨h1,h2,q⟩:=q
   split at q
   ·rename_i ej
    split at q
    ·rename_i ey
     cases r1
     cases rp with
     |cons b rr=>
      cases rr;cases b
      obtain⟨vs,hv,rl⟩:=rS _ _ e
      obtain⟨y',FV,ry⟩:=rl.get ey
      rw[<-rl.length]at ej
      exact qg pins s σ H _ _ v us Q I rx rs ⟨_,_,_,_,_,rfl,rfl,hv,h1,h2,ej,FV,k _ _ _ _ q (ry.mono (.mut hv trivial)) (rS.put hv trivial ⟨_,aA,(rl.eraseIdx _).mono (.mut hv trivial)⟩) (.mut hv trivial)⟩
    ·exact q.elim
   ·exact q.elim
  ·exact q.elim
 ·exact q.elim⟩
noncomputable def texts:List PV->Option (List Str)
 |[]=>some []
 | .str b::r=>(texts r).map (b::·)
 |_::_=>none
theorem jd{K:Vo}{H:Hp}:∀{vs:List V} {ps:List PV} {bs:Vs},Reps K H vs ps->texts ps=some bs->vs=bs.map V.str
 |_,_,_,.nil,h=>by cases h;rfl
 |_,_,bs,.cons (p:=p) a r,h=>by
  cases p with
  |str b=>
   cases a
   unfold texts at h
   cases e:texts _ with
   |none=>rw[e]at h;cases h
   |some l=>rw[e]at h;cases h;rw[jd r e];rfl
  |_=>cases h
def kq:r_:=fun x ps S Q=>match x,ps with
 | .str z,[.ref a]=>(match S a with|some (.lst xs)=>(match texts xs with|some ys=>(ys.map (·.length)).sum+ys.length * z.length<=1000000/\Q (.str (Txt.join z ys)) S|none=>False)|_=>False)
 |_,_=>False
def qP:ue X "str.join" kq:=⟨fun pins s σ H x xs v us Q I rx rs ⟨px,ps,S,Q3,r1,rp,rS,q,k⟩=>by
 unfold kq at q
 split at q
 ·split at q
  ·rename_i e
   split at q
   ·rename_i et
    cases r1
    cases rp with
    |cons b rr=>
     cases rr;cases b
     obtain⟨vs,hv,rl⟩:=rS _ _ e
     have e2:=jd rl et
     subst e2
     exact sV pins s σ H _ _ v us Q I rx rs ⟨_,_,_,rfl,rfl,SqL.of hv,q.1,k _ S _ H q.2 (.str _) rS .refl⟩
   ·exact q.elim
  ·exact q.elim
 ·exact q.elim⟩
def ij:r_:=fun x ps S Q=>match x,ps with
 | .str a,[.str b]=>(match Builtin.Str.occurrences a b 0 a.length 1 with|i::_=>Q (.int i) S|[]=>False)
 |_,_=>False
def tx:ue X "str.index" ij:=⟨fun pins s σ H x xs v us Q I rx rs ⟨px,ps,S,Q3,r1,rp,rS,q,k⟩=>by
 unfold ij at q
 split at q
 ·split at q
  ·rename_i e
   cases r1
   cases rp with
   |cons b rr=>
    cases rr;cases b
    exact qt pins s σ H _ _ v us Q I rx rs ⟨_,_,_,_,rfl,rfl,e,k _ S _ H q (.int _) rS .refl⟩
  ·exact q.elim
 ·exact q.elim⟩
end
section
variable {X:Cx} {e c:Expr} {te:aX} {st:Stmt} {rest a b:List Stmt} {t u:bz} {tc:iP} {pos:Pos}
def a9:bz:=fun D σ S=>D.nx σ S
def ai(t u:bz):bz:=fun D σ S=>t { D with nx:=u D } σ S
def aJ:jb X [] a9:=⟨nJ sj fun D σ H ⟨σ3,S,D3,rσ,rS,h,xo,n,r,bk,ct⟩=>n σ3 S σ H h rσ rS .refl⟩
def ad(h1:mZ X st t)(h2:jb X rest u):jb X (st::rest) (ai t u):=
 ⟨nJ (pN h1.ok h2.ok) fun D σ H ⟨σ3,S,D3,rσ,rS,h,xo,n,r,bk,ct⟩=>⟨σ3,S,{ D3 with nx:=u D3 },rσ,rS,h,xo,fun σ4 S' σ' H' h' DN BS g=>⟨σ4,S',D3,DN,BS,h',xo.mono g,n.mono g,r.mono g,bk.mono g,ct.mono g⟩,r,bk,ct⟩⟩
def al(h1:mZ X st t):jb X [st] t:=⟨sk h1.ok⟩
def dj(te:aX):bz:=fun D σ S=>te σ S (fun _ S1=>D.nx σ S1) D.ex
def ik(he:bu X e te)(hs:swapsWith e none pos.line X.env=pure false:=by rfl):mZ X (.Expr e pos) (dj te):=
 ⟨cD (sn he.ok hs) fun D σ H ⟨σ3,S,D3,rσ,rS,h,xo,n,r,bk,ct⟩=>⟨σ3,S,_,D3.ex,rσ,rS,h,xo,fun p S1 v H1 h1 rv At g1=>n σ3 S1 σ H1 h1 (rσ.mono g1) At g1⟩⟩
def aC(te:aX):bz:=fun D σ S=>te σ S D.rt D.ex
def aq(he:bu X e te):mZ X (.Return (some e) pos) (aC te):=
 ⟨cD (uG he.ok) fun D σ H ⟨σ3,S,D3,rσ,rS,h,xo,n,r,bk,ct⟩=>⟨σ3,S,D3.rt,D3.ex,rσ,rS,h,xo,r⟩⟩
def bH(c:iP)(t u:bz):bz:=fun D σ S=>c σ S (fun b S1=>if b=true then t D σ S1 else u D σ S1) D.ex
def bd(hc:mY X c tc)(ha:jb X a t)(hb:jb X b u):mZ X (.If c a b pos) (bH tc t u):=
 ⟨cD (wI hc.ok ha.ok hb.ok) fun D σ H ⟨σ3,S,D3,rσ,rS,h,xo,n,r,bk,ct⟩=>⟨σ3,S,_,D3.ex,rσ,rS,h,xo,fun z S1 H1 h1 At g1=>by
  cases z with
  |true=>rw[if_pos rfl]at h1 ⊢;exact⟨σ3,S1,D3,rσ.mono g1,At,h1,xo.mono g1,n.mono g1,r.mono g1,bk.mono g1,ct.mono g1⟩
  |false=>rw[if_neg (by decide)]at h1 ⊢;exact⟨σ3,S1,D3,rσ.mono g1,At,h1,xo.mono g1,n.mono g1,r.mono g1,bk.mono g1,ct.mono g1⟩⟩⟩
def aw(i:Nat)(te:aX):bz:=fun D σ S=>te σ S (fun v S1=>D.nx (σ.set i (some v)) S1) D.ex
def qQ{i:Nat}{D:mJ}{σ:L2.St}{H:Hp}:LS X (aw i te) D σ H->sv (LE X te) (lQ i) D σ H:=fun⟨σ3,S,D3,rσ,rS,h,xo,n,r,bk,ct⟩=>
 ⟨σ3,S,_,D3.ex,rσ,rS,h,xo,fun p S1 v H1 h1 rv At g1=>n _ S1 _ H1 h1 ((rσ.mono g1).set rv i) At g1⟩
def xN{i:Nat}{x:Str}{pos':Pos}(hN:X.N.Nodup)(hi:X.N[i]?=some x)(hx:tZ X.env.scope x)(he:bu X e te)(hs:swapsWith e (some (.Name x pos')) pos.line X.env=pure false:=by rfl)
  (hf:X.fn x=true\/X.env.scope.names.lookup x=some .local:=by first|exact .inl rfl|exact .inr rfl|assumption):mZ X (.Assign [.Name x pos'] e pos) (aw i te):=⟨cD (uK hN hi hx he.ok hs hf) fun _ _ _=>qQ⟩
def oP(i j:Nat)(ta tb:aX):bz:=fun D σ S=>ta σ S (fun v S1=>tb σ S1 (fun w S2=>D.nx ((σ.set i (some v)).set j (some w)) S2) D.ex) D.ex
def uf{i j:Nat}{x y:Str}{a b:Expr}{ta tb:aX}{px py pt:Pos}{kt k2 El}(hc:X.calm=true)(hN:X.N.Nodup)(hi:X.N[i]?=some x)(hj:X.N[j]?=some y)(hij:i≠j)
  (hx:X.env.scope.names.lookup x=some .local) (hy:X.env.scope.names.lookup y=some .local) (ha:kl X [a,b] [ta,tb])
  (hw:swappedStores [.Tuple [.Name x px,.Name y py] kt pt] (.Tuple [a,b] k2 El) X.env=pure (some [x,y]):=by rfl)
  (hs:swapsWithSole [.Tuple [.Name x px,.Name y py] kt pt] (.Tuple [a,b] k2 El) pos.line X.env=pure false:=by rfl) :
  mZ X (.Assign [.Tuple [.Name x px,.Name y py] kt pt] (.Tuple [a,b] k2 El) pos) (oP i j ta tb):=
 ⟨cD (uL hc hN hi hj hij hx hy ha.ok hw hs) fun D σ H ⟨σ3,S,D3,rσ,rS,h,xo,n,r,bk,ct⟩=>
  ⟨σ3,S,_,D3.ex,rσ,rS,h,xo,fun v S1 v' H1 h1 rv At g1=>⟨σ3,S1,_,D3.ex,rσ.mono g1,At,h1,xo.mono g1,fun w S2 w' H2 h2 rw' Cs g2=>
   ⟨v',w',rfl,n _ S2 _ H2 h2 (((rσ.mono (g1.trans g2)).set (rv.mono g2) i).set rw' j) Cs (g1.trans g2)⟩⟩⟩⟩
def je(i j k:Nat)(te:aX):bz:=fun D σ S=>te σ S (fun p S1=>match p with | .tup [v,w,u]=>D.nx (((σ.set k (some u)).set j (some w)).set i (some v)) S1|_=>False) D.ex
def tD{i j k:Nat}{x y z:Str}{px py pz pt:Pos}{kt:Nat}(hc:X.calm=true)(hN:X.N.Nodup)(hi:X.N[i]?=some x)(hj:X.N[j]?=some y)(hk:X.N[k]?=some z)
  (hx:X.env.scope.names.lookup x=some .local) (hy:X.env.scope.names.lookup y=some .local) (hz:X.env.scope.names.lookup z=some .local) (he:bu X e te)
  (hw:swappedStores [.Tuple [.Name x px,.Name y py,.Name z pz] kt pt] e X.env=pure (some [x,y,z]):=by rfl)
  (hs:swapsWithSole [.Tuple [.Name x px,.Name y py,.Name z pz] kt pt] e pos.line X.env=pure false:=by rfl):mZ X (.Assign [.Tuple [.Name x px,.Name y py,.Name z pz] kt pt] e pos) (je i j k te):=
 ⟨cD (qu hc hN hi hj hk hx hy hz he.ok hw hs) fun D σ H ⟨σ3,S,D3,rσ,rS,h,xo,n,r,bk,ct⟩=>⟨σ3,S,_,D3.ex,rσ,rS,h,xo,fun p S1 v H1 h1 rv At g1=>by
  try dsimp only at h1
  split at h1
  ·cases rv with
   |tup hq rs=>
    cases rs with
    |cons r1 rs=>
     cases rs with
     |cons r2 rs=>
      cases rs with
      |cons r3 rs=>
       cases rs
       exact⟨_,_,_,_,rfl,hq,n _ S1 _ H1 h1 ((((rσ.mono g1).set r3 k).set r2 j).set r1 i) At g1⟩
  ·exact h1.elim⟩⟩
inductive Tg where
 |n (i:Nat)|tp (l:Tg)|nil|cons (a r:Tg)
mutual
noncomputable def Tg.put:Tg->PV->bY->Option bY
 | .n i,p,σ=>some (σ.set i (some p))
 | .tp l,.tup xs,σ=>l.A7 xs σ
 |_,_,_=>none
noncomputable def Tg.A7:Tg->List PV->bY->Option bY
 | .nil,[],σ=>some σ
 | .cons a r,x::xs,σ=>(match a.put x σ with|some σ'=>r.A7 xs σ'|none=>none)
 |_,_,_=>none
end
noncomputable def Tg.len:Tg->Nat
 | .cons _ r=>r.len+1
 |_=>0
mutual
noncomputable def Tg.g2(K:Vo):Tg->TG
 | .n i=>lQ i
 | .tp l=>wL K l.len (l.Ee K)
 |_=>fun _ _ _ _=>False
noncomputable def Tg.Ee(K:Vo):Tg->t4
 | .nil=>wK
 | .cons a r=>t5 (a.g2 K) (r.Ee K)
 |_=>fun _ _ _ _=>False
end
noncomputable def Tg.under(own:Nat):Tg->Bool
 | .n i=>decide (i < own)
 | .tp l=>l.under own
 | .nil=>true
 | .cons a r=>a.under own&&r.under own
theorem Tg.C3:∀(g:Tg) {ps:List PV} {σ3 σ4:bY},g.A7 ps σ3=some σ4->ps.length=g.len
 | .nil,ps,σ3,σ4,h=>by
  cases ps with
  |nil=>rfl
  |cons _ _=>unfold Tg.A7 at h;cases h
 | .cons a r,ps,σ3,σ4,h=>by
  cases ps with
  |nil=>unfold Tg.A7 at h;cases h
  |cons x xs=>
   unfold Tg.A7 at h
   split at h
   ·rw[Ic,Tg.C3 r h];rfl
   ·cases h
 | .n _,ps,σ3,σ4,h=>by unfold Tg.A7 at h;cases h
 | .tp _,ps,σ3,σ4,h=>by unfold Tg.A7 at h;cases h
mutual
theorem Tg.CJ{K:Vo}{H:Hp}{own:Nat}:∀(g:Tg) {v:V} {p:PV} {σ:L2.St} {σ3 σ4:bY} {Q:L2.St->Hp->Prop},Rep K H v p->Al K H σ σ3->g.put p σ3=some σ4->(∀σ',Al K H σ' σ4->(g.under own=true->σ'.drop own=σ.drop own)->Q σ' H)->g.g2 K v σ H Q
 | .n i,v,p,σ,σ3,σ4,Q,r,rσ,h,k=>by
  unfold Tg.put at h
  cases h
  unfold Tg.g2
  refine k _ (rσ.set r i) fun hb=>?_
  have hi:i < own:=of_decide_eq_true hb
  rw[List.drop_set]
  rw[if_pos hi]
 | .tp l,v,p,σ,σ3,σ4,Q,r,rσ,h,k=>by
  cases p with
  |tup xs=>
   unfold Tg.put at h
   cases r with
   |tup hq rs=>
    have hg:=Tg.Dl (own:=own) l rs rσ h k
    unfold Tg.g2
    exact⟨_,_,rfl,hq,rs.length.trans (Tg.C3 l h),hg⟩
  |_=>unfold Tg.put at h;cases h
 | .nil,v,p,σ,σ3,σ4,Q,r,rσ,h,k=>by unfold Tg.put at h;cases h
 | .cons _ _,v,p,σ,σ3,σ4,Q,r,rσ,h,k=>by unfold Tg.put at h;cases h
theorem Tg.Dl{K:Vo}{H:Hp}{own:Nat}:∀(g:Tg) {vs:List V} {ps:List PV} {σ:L2.St} {σ3 σ4:bY} {Q:L2.St->Hp->Prop},Reps K H vs ps->Al K H σ σ3->g.A7 ps σ3=some σ4->(∀σ',Al K H σ' σ4->(g.under own=true->σ'.drop own=σ.drop own)->Q σ' H)->g.Ee K vs σ H Q
 | .nil,vs,ps,σ,σ3,σ4,Q,r,rσ,h,k=>by
  cases ps with
  |nil=>
   unfold Tg.A7 at h
   cases h
   cases r
   unfold Tg.Ee
   exact⟨rfl,k _ rσ fun _=>rfl⟩
  |cons _ _=>unfold Tg.A7 at h;cases h
 | .cons a r',vs,ps,σ,σ3,σ4,Q,r,rσ,h,k=>by
  cases ps with
  |nil=>unfold Tg.A7 at h;cases h
  |cons x xs=>
   unfold Tg.A7 at h
   split at h
   ·rename_i σ5 e5
    cases r with
    |cons r1 r2=>
     unfold Tg.Ee
     refine⟨_,_,rfl,Tg.CJ (own:=own) a r1 rσ e5 fun σ' DN d1=>Tg.Dl (own:=own) r' r2 DN h fun Ha FW d2=>k Ha FW fun hb=>?_⟩
     have hb':a.under own=true/\r'.under own=true:=by simpa [Tg.under]using hb
     rw[d2 hb'.2,d1 hb'.1]
   ·cases h
 | .n _,vs,ps,σ,σ3,σ4,Q,r,rσ,h,k=>by unfold Tg.A7 at h;cases h
 | .tp _,vs,ps,σ,σ3,σ4,Q,r,rσ,h,k=>by unfold Tg.A7 at h;cases h
end
structure sa (X:Cx) (e:Expr) (g:Tg):Prop where
 ok:PG X e (g.g2 X.K)
structure tE (X:Cx) (es:List Expr) (g:Tg):Prop where
 ok:wJ X es (g.Ee X.K)
 len:(assignEach es X.env).length=g.len
def zV(i:Nat){x:Str}(hN:X.N.Nodup)(hi:X.N[i]?=some x)(hx:tZ X.env.scope x)(hf:X.fn x=true\/X.env.scope.names.lookup x=some .local:=by first|exact .inl rfl|exact .inr rfl|assumption):sa X (.Name x pos) (.n i):=⟨by
 have h:=ss (pos:=pos) hN hi hx hf
 unfold Tg.g2
 exact h⟩
def kr:tE X [] .nil:=⟨by unfold Tg.Ee;exact su,rfl⟩
def bS{es:List Expr}{a r:Tg}(h1:sa X e a)(h2:tE X es r)(hs:(assignEach (e::es) X.env).map (·.2)=assign e X.env::(assignEach es X.env).map (·.2):=by rfl)(hl:(assignEach (e::es) X.env).length=(assignEach es X.env).length+1:=by rfl):tE X (e::es) (.cons a r):=
 ⟨by unfold Tg.Ee;exact pO h1.ok h2.ok hs,by rw[hl,h2.len];rfl⟩
def wn{es:List Expr}{k:Nat}{l:Tg}(hc:X.calm=true)(h:tE X es l)(hst:(assignEach es X.env).findIdx? (·.1)=none:=by rfl):sa X (.Tuple es k pos) (.tp l):=⟨by
 have h:=uI (pos:=pos) (k:=k) hc h.ok h.len hst
 unfold Tg.g2
 exact h⟩
def oQ(te:aX)(g:Tg):bz:=fun D σ S=>te σ S (fun v S1=>match g.put v σ with|some σ'=>D.nx σ' S1|none=>False) D.ex
def xO{tg:Expr}{g:Tg}(he:bu X e te)(hg:sa X tg g)(hs:swapsWithSole [tg] e pos.line X.env=pure false:=by rfl)(hw:swappedStores [tg] e X.env=pure none:=by rfl)
  (h1:(assignEach [tg] X.env).map (·.2)=[assign tg X.env]:=by rfl):mZ X (.Assign [tg] e pos) (oQ te g):=
 ⟨cD (pP he.ok hg.ok hs hw h1) fun D σ H ⟨σ3,S,D3,rσ,rS,h,xo,n,r,bk,ct⟩=>⟨σ3,S,_,D3.ex,rσ,rS,h,xo,fun p S1 v H1 h1 rv At g1=>by
  try dsimp only at h1
  split at h1
  ·rename_i σ' e'
   exact Tg.CJ (own:=0) g rv (rσ.mono g1) e' fun σ2 Hb _=>n _ S1 _ H1 h1 Hb At g1
  ·exact h1.elim⟩⟩
end
noncomputable def kY{κ:Type} [DecidableEq κ](kvs:List (κ×PV))(k:κ)(v:PV):List (κ×PV):=
 if (kvs.any fun kv=>decide (kv.1=k))=true then kvs.map (fun kv=>if kv.1=k then (kv.1,v) else kv) else kvs++[(k,v)]
theorem Au.append{K:Vo}{H:Hp}{κ:Type}:∀{vs us:List (κ×V)} {ps qs:List (κ×PV)},Au K H vs ps->Au K H us qs->Au K H (vs++us) (ps++qs)
 |_,_,_,_,.nil,s=>s
 |_,_,_,_,.cons a r,s=>.cons a (Au.append r s)
def Au.put{K:Vo}{H:Hp}{κ:Type} [DecidableEq κ]{k:κ}{v:V}{p:PV}(q:Rep K H v p){vs:List (κ×V)}{ps:List (κ×PV)}(r:Au K H vs ps):Au K H (eQ vs k v) (kY ps k p):=by
 have e:(vs.any fun kv=>decide (kv.1=k))=(ps.any fun kv=>decide (kv.1=k)):=by rw[i4,r.any]
 unfold eQ kY
 rw[e]
 split
 ·clear e
  rename_i h
  clear h
  induction r with
  |nil=>exact .nil
  |@cons k' v' p' vs' ps' a r ih=>
   rw[Ir,Ir]
   by_cases z:k'=k
   ·rw[if_pos z,if_pos z];exact .cons q ih
   ·rw[if_neg z,if_neg z];exact .cons a ih
 ·exact r.append (.cons q .nil)
def fU(o i v:PV)(S:av)(Q:av->Prop):Prop:=match o with
 | .ref a=>(match S a with
  |some (.lst xs)=>(match i with | .int k=>(match mF xs.length k with|some j=>Q (am S a (.lst (xs.set j v)))|none=>False)|_=>False)
  |some (.dct kvs)=>(match m8 i with|some k=>kvs.length < sizeLine/\Q (am S a (.dct (kY kvs k v)))|none=>False)
  |_=>False)
 |_=>False
section
variable {X:Cx} {e o i:Expr} {te to ti:aX} {pos pos':Pos}
noncomputable def zh(X:Cx):V->V->V->Hp->(Hp->Prop)->Prop:=fun o i v H Q=>∃po pi pv S Q3,Rep X.K H o po/\Rep X.K H i pi/\Rep X.K H v pv/\Ah X.K H S/\fU po pi pv S Q3/\∀S' H',Q3 S'->Ah X.K H' S'->Grow X.K H H'->Q H'
def vt(hu:X.A.units+1 < cLine):sr X (zh X):=by
 intro pins s σ H o i v ov iv u Q I ro ri rv ⟨po,pi,pv,S,Q3,r1,r2,r3,rS,q,k⟩
 unfold fU at q
 split at q
 ·split at q
  ·rename_i e
   split at q
   ·split at q
    ·rename_i ej
     cases r1;cases r2
     obtain⟨vs,hv,rl⟩:=rS _ _ e
     rw[<-rl.length]at ej
     exact p9 pins s σ H _ _ _ ov iv u Q I ro ri rv ⟨_,_,_,_,rfl,rfl,hv,ej,k _ _ q (rS.put hv trivial ⟨_,aA,((rl.set r3 _).mono (.mut hv trivial))⟩) (.mut hv trivial)⟩
    ·exact q.elim
   ·exact q.elim
  ·rename_i e
   split at q
   ·rename_i ek
    cases r1
    have e1:=dD r2 ek
    subst e1
    obtain⟨kv,hv,rk⟩:=rS _ _ e
    exact qJ hu pins s σ H _ _ _ ov iv u Q I ro ri rv ⟨_,_,rfl,Dy.k hv (by rw[rk.length];exact q.1),k _ _ q.2 (rS.put hv trivial ⟨_,aA,(rk.put r3).mono (.mut hv trivial)⟩) (.mut hv trivial)⟩
   ·exact q.elim
  ·exact q.elim
 ·exact q.elim
def il(te to ti:aX):bz:=fun D σ S=>te σ S (fun v S1=>to σ S1 (fun o S2=>ti σ S2 (fun i S3=>fU o i v S3 (fun S4=>D.nx σ S4)) D.ex) D.ex) D.ex
def iG(hu:X.A.units+1 < cLine)(he:bu X e te)(ho:bu X o to)(hi:bu X i ti)
  (ha:∀v,assign (.Subscript o i pos') X.env v=(do
   let ov <-holding [v] (eval o X.env)
   let iv <-holding [v,ov] (eval i X.env)
   standAt pos'
   holding [v,ov,iv] (setItem ov iv v)
   release [v,ov,iv] []):=by intro _;rfl)
  (hs:swapsWithSole [.Subscript o i pos'] e pos.line X.env=pure false:=by rfl) (hw:swappedStores [.Subscript o i pos'] e X.env=pure none:=by rfl)
  (h1:(assignEach [.Subscript o i pos'] X.env).map (·.2)=[assign (.Subscript o i pos') X.env]:=by rfl):mZ X (.Assign [.Subscript o i pos'] e pos) (il te to ti):=
 ⟨cD (pP he.ok (uJ ho.ok hi.ok (vt hu) ha) hs hw h1) fun D σ H ⟨σ3,S,D3,rσ,rS,h,xo,n,r,bk,ct⟩=>⟨σ3,S,_,D3.ex,rσ,rS,h,xo,fun v S1 v' H1 h1 rv At g1=>
  ⟨σ3,S1,_,D3.ex,rσ.mono g1,At,h1,xo.mono g1,fun o S2 o' H2 h2 ro Cs g2=>⟨σ3,S2,_,D3.ex,rσ.mono (g1.trans g2),Cs,h2,xo.mono (g1.trans g2),fun i S3 i' H3 h3 ri Ew g3=>
   ⟨o,i,v,S3,_,ro.mono g3,ri,rv.mono (g2.trans g3),Ew,h3,fun S4 H4 h4 Hc g4=>n _ S4 _ H4 h4 (rσ.mono (g1.trans (g2.trans (g3.trans g4)))) Hc (g1.trans (g2.trans (g3.trans g4)))⟩⟩⟩⟩⟩
end
end L3
namespace L2
open PySem PySem.Spec PyProof.Rows
section
variable {X:Cx} {tg:Expr}
def zi(K:Vo)(tl:TE):TI:=fun σ H R=>tl σ H fun x H1=>(∃a,x = .ref a/\(∃xs,SqL K H1 a xs)/\R (yp K a) H1)\/(∃a,x = .ref a/\(∃xs,SqT K H1 a xs)/\R (yM K a) H1)\/∃z,x = .str z/\R (zb z) H1
def vv{l:Expr}{tl:TE}(hl:PE X l tl):PI X tg l (zi X.K tl):=by
 intro pins s σ H R I h
 refine Ak (hl pins s σ H _ I h) fun v s1 ⟨x,H1,I1,r1,q1⟩=>?_
 rcases q1 with⟨a,e,⟨xs,hq⟩,q⟩|⟨a,e,⟨xs,hq⟩,q⟩|⟨z,e,q⟩
 ·subst e
  cases r1
  obtain⟨its,rv,p,hz⟩:=I1.list hq
  refine II p.isList ?_
  refine⟨s1.heap.objs.size,[s1.heap.objs.size],_,_,H1,rfl,I1.kept (t':=s1.toks) fun b o e=>HM _ e,om a _,⟨_,HV _ rfl,rfl,rfl⟩,fun b hb=>?_,q⟩
  have e:b=s1.heap.objs.size:=by simpa using hb
  subst e
  exact I1.CA (HN _) (I1.hok.fresh (HN _))
 ·subst e
  cases r1
  obtain⟨its,rv,p,hz⟩:=I1.tuple hq
  refine ID (show s1.heap.IsTuple a its.toArray from p) ?_
  refine⟨s1.heap.objs.size,[s1.heap.objs.size],_,_,H1,rfl,I1.kept (t':=s1.toks) fun b o e=>HM _ e,mK a _,⟨_,HV _ rfl,rfl,rfl⟩,fun b hb=>?_,q⟩
  have e:b=s1.heap.objs.size:=by simpa using hb
  subst e
  exact I1.CA (HN _) (I1.hok.fresh (HN _))
 ·subst e
  obtain⟨t,rfl⟩:=r1
  have fin:∀ty,(ty = "str_ascii_iterator" \/ ty = "str_iterator")->yL X pins σ tg R (.ref s1.heap.objs.size) { s1 with heap:=s1.heap.push { cls:=.type ty,data:=.fields #[.str z t,.int 0 0] } }:=fun ty hty=>by
   refine⟨s1.heap.objs.size,[s1.heap.objs.size],_,_,H1,rfl,I1.kept (t':=s1.toks) fun b o e=>HM _ e,qr hty _ z t,⟨IM _,_,HV _ rfl,rfl,rfl⟩,fun b hb=>?_,q⟩
   have e:b=s1.heap.objs.size:=by simpa using hb
   subst e
   exact I1.CA (HN _) (I1.hok.fresh (HN _))
  cases ha:z.cps.all (· < 128)
  ·exact wpAny_pyIter_wide ha (fin _ (.inr rfl))
  ·exact wpAny_pyIter_ascii ha (fin _ (.inl rfl))
end
end L2
namespace L3
open PySem L2
structure zj where
 items:List PV
 keep:av->Prop
def iH(K:Vo)(H0:Hp)(J:It)(src:zj):Prop:=∀(i:Nat) (S:av) (H:Hp),Grow K H0 H->Ah K H S->src.keep S->
 (∀p,src.items[i]?=some p->J.go i H/\∀x H',J.Fk i H x H'->Rep K H' x p/\Ah K H' S/\Grow K H H')/\(i=src.items.length->J.stop i H)
abbrev qR:=bY->av->(zj->av->Prop)->cg->Prop
inductive LI (X:Cx) (t:qR) (σ:L2.St) (H:Hp) (R:It->Hp->Prop):Prop
 |mk (σ3 S R3 E3) (rσ:Al X.K H σ σ3) (rS:Ah X.K H S) (h:t σ3 S R3 E3) (xo:Dr X H E3) (k:∀src S' J H',R3 src S'->iH X.K H' J src->Ah X.K H' S'->Grow X.K H H'->R J H'):LI X t σ H R
structure tF (X:Cx) (tg iter:Expr) (t:qR):Prop where
 ok:PI X tg iter (LI X t)
def kZ{X:Cx}{tg iter:Expr}{t t':TI}(h:PI X tg iter t)(k:∀σ H R,t' σ H R->t σ H R):PI X tg iter t':=fun pins s σ H R I q=>h pins s σ H R I (k σ H R q)
section
variable {X:Cx} {e tg:Expr} {es:List Expr} {te:aX} {ts:List aX} {p pos:Pos}
noncomputable def eX(S:av):PV->Option zj
 | .tup xs=>some ⟨xs,fun _=>True⟩
 | .cl xs=>some ⟨xs,fun _=>True⟩
 | .str z=>some ⟨z.cps.toList.map fun c=>.str (kP c),fun _=>True⟩
 | .ref a=>(match S a with|some (.lst xs)=>some ⟨xs,fun S'=>S' a=some (.lst xs)⟩|_=>none)
 |_=>none
def ba(te:aX):qR:=fun σ S R E=>te σ S (fun v S1=>match eX S1 v with|some src=>R src S1|none=>False) E
end
section
variable {X:Cx} {e tg a b:Expr} {es:List Expr} {te ta tb:aX} {ts:List aX} {p pos:Pos}
def qS{K:Vo}{H0:Hp}{a:Addr}{xs:List PV}:iH K H0 (yp K a) ⟨xs,fun S'=>S' a=some (.lst xs)⟩:=by
 intro i S H g rS hk
 obtain⟨vs,hv,rs⟩:=rS a _ hk
 refine⟨fun p hp=>?_,fun hi=>⟨vs,SqL.of hv,by rw[rs.length,hi];exact HN _⟩⟩
 obtain⟨v,hx,rv⟩:=rs.get hp
 refine⟨⟨vs,v,SqL.of hv,hx⟩,fun x H' ⟨e,h⟩=>?_⟩
 subst e
 have:=h vs (SqL.of hv)
 rw[hx]at this
 cases this
 exact⟨rv,rS,.refl⟩
def tG{K:Vo}{H0:Hp}{a:Addr}{vs:List V}{xs:List PV}(h:SqT K H0 a vs)(rs:Reps K H0 vs xs):iH K H0 (yM K a) ⟨xs,fun _=>True⟩:=by
 intro i S H g rS _
 have hv:=g.t _ _ h
 refine⟨fun p hp=>?_,fun hi=>⟨vs,hv,by rw[rs.length,hi];exact HN _⟩⟩
 obtain⟨v,hx,rv⟩:=rs.get hp
 refine⟨⟨vs,v,hv,hx⟩,fun x H' ⟨e,h⟩=>?_⟩
 subst e
 have:=h vs hv
 rw[hx]at this
 cases this
 exact⟨rv.mono g,rS,.refl⟩
def vx{K:Vo}{H0:Hp}{a:Addr}{vs:List V}{xs:List PV}(h:EK K H0 a vs)(rs:Reps K H0 vs xs):iH K H0 (yp K a) ⟨xs,fun _=>True⟩:=by
 intro i S H g rS _
 have hv:=(g.c _ _ h).sq
 refine⟨fun p hp=>?_,fun hi=>⟨vs,hv,by rw[rs.length,hi];exact HN _⟩⟩
 obtain⟨v,hx,rv⟩:=rs.get hp
 refine⟨⟨vs,v,hv,hx⟩,fun x H' ⟨e,h⟩=>?_⟩
 subst e
 have:=h vs hv
 rw[hx]at this
 cases this
 exact⟨rv.mono g,rS,.refl⟩
def tH{K:Vo}{H0:Hp}{z:Str}:iH K H0 (zb z) ⟨z.cps.toList.map fun c=>.str (kP c),fun _=>True⟩:=by
 intro i S H g rS _
 refine⟨fun p hp=>?_,fun hi=>by show z.cps.size<=i;rw[hi,HQ,KZ];exact HN _⟩
 rw[Ia]at hp
 cases hc:z.cps.toList[i]? with
 |none=>rw[hc]at hp;cases hp
 |some c=>
  rw[hc]at hp
  cases hp
  have hc':z.cps[i]?=some c:=by simpa using hc
  refine⟨?_,fun x H' ⟨e,c',h1,h2⟩=>?_⟩
  ·show i < z.cps.size
   by_cases hi:i < z.cps.size
   ·exact hi
   ·rw[Array.getElem?_eq_none (by omega)]at hc';cases hc'
  ·subst e
   rw[hc']at h1
   cases h1
   subst h2
   exact⟨.str _,rS,.refl⟩
def cn(he:bu X e te):tF X tg e (ba te):=⟨kZ (vv he.ok) fun σ H R ⟨σ3,S,R3,E3,rσ,rS,h,xo,k⟩=>⟨σ3,S,_,E3,rσ,rS,h,xo,fun v S1 v' H1 h1 rv At g1=>by
 split at h1
 ·rename_i src hs
  unfold eX at hs
  split at hs
  ·cases hs
   cases rv with
   |tup hq rs=>exact .inr (.inl ⟨_,rfl,⟨_,hq⟩,k _ S1 _ H1 h1 (tG hq rs) At g1⟩)
  ·cases hs
   cases rv with
   |cl hq rs=>exact .inl ⟨_,rfl,⟨_,hq.sq⟩,k _ S1 _ H1 h1 (vx hq rs) At g1⟩
  ·cases hs
   cases rv
   exact .inr (.inr ⟨_,rfl,k _ S1 _ H1 h1 tH At g1⟩)
  ·cases rv
   split at hs
   ·rename_i ea
    cases hs
    obtain⟨vs,hv,rs⟩:=At _ _ ea
    exact .inl ⟨_,rfl,⟨_,SqL.of hv⟩,k _ S1 _ H1 h1 qS At g1⟩
   ·cases hs
  ·cases hs
 ·exact h1.elim⟩⟩
noncomputable def bf(lo:Int)(n:Nat):List PV:=(List.range n).map fun(i:Nat)=>PV.int (lo+i)
def oR{K:Vo}{H0:Hp}{lo:Int}{n:Nat}:iH K H0 (yq lo n) ⟨bf lo n,fun _=>True⟩:=by
 intro i S H g rS _
 refine⟨fun p hp=>?_,fun hi=>by show n<=i;rw[hi];simp[bf]⟩
 unfold bf at hp
 rw[Ia]at hp
 by_cases hi:i < n
 ·rw[J5 hi]at hp
  cases hp
  refine⟨hi,fun x H' ⟨e,h⟩=>?_⟩
  subst e h
  exact⟨.int _,rS,.refl⟩
 ·rw[JB (by simpa using hi)]at hp
  cases hp
def dH(ta:aX):qR:=fun σ S R E=>ta σ S (fun v S1=>match v with | .int j=>-(2 ^ 62)<=j/\j < 2 ^ 62/\R ⟨bf 0 j.toNat,fun _=>True⟩ S1|_=>False) E
def bx(hs:starEach [a] X.env=[(false,eval a X.env)])(hg:Gl X "range")(hm:X.mg "range" = none)(ha:kl X [a] [ta]):tF X tg (.Call (.Name "range" p) [a] [] pos) (dH ta):=
 ⟨kZ (oo hg hm ha.ok hs) fun σ H R ⟨σ3,S,R3,E3,rσ,rS,h,xo,k⟩=>⟨σ3,S,_,E3,rσ,rS,h,xo,fun v S1 v' H1 h1 rv At g1=>by
  split at h1
  ·cases rv
   exact⟨_,rfl,h1.1,h1.2.1,k _ S1 _ H1 h1.2.2 oR At g1⟩
  ·exact h1.elim⟩⟩
noncomputable def dI(xs ys:List PV):List PV:=(xs.zip ys).map fun z=>.tup [z.1,z.2]
def DW(K:Vo)(H0:Hp)(ka:Bool)(a:Addr)(xs:List PV)(keep:av->Prop):Prop:=∀S H,Grow K H0 H->Ah K H S->keep S->∃vs,jR ka K H a vs/\Reps K H vs xs
def DW.tup{K:Vo}{H0:Hp}{a:Addr}{vs:List V}{xs:List PV}{keep:av->Prop}(h:SqT K H0 a vs)(r:Reps K H0 vs xs):DW K H0 false a xs keep:=fun _ _ g _ _=>⟨vs,g.t _ _ h,r.mono g⟩
def tI{K:Vo}{H0:Hp}{ka kb:Bool}{a b:Addr}{xs ys:List PV}{keep:av->Prop}(h1:DW K H0 ka a xs keep)(h2:DW K H0 kb b ys keep):iH K H0 (zd ka kb K a b) ⟨dI xs ys,keep⟩:=by
 intro i S H g rS kp
 obtain⟨vs,hv,r1⟩:=h1 S H g rS kp
 obtain⟨us,hu,r2⟩:=h2 S H g rS kp
 have l1:=r1.length
 have l2:=r2.length
 refine⟨fun p hp=>?_,fun hi=>⟨vs,us,hv,hu,?_⟩⟩
 ·unfold dI at hp
  rw[Ia]at hp
  cases hz:(xs.zip ys)[i]? with
  |none=>rw[hz]at hp;cases hp
  |some z=>
   rw[hz]at hp
   cases hp
   obtain⟨e1,e2⟩:=JC.mp hz
   obtain⟨v,hx',rv⟩:=r1.get e1
   obtain⟨u,hy',ru⟩:=r2.get e2
   refine⟨⟨vs,us,v,u,hv,hu,hx',hy'⟩,fun x H' ⟨q,x2,y2,e3,hq,e4,h⟩=>?_⟩
   subst e3 e4
   obtain⟨k1,k2⟩:=h vs us hv hu
   rw[hx']at k1
   rw[hy']at k2
   cases k1;cases k2
   exact⟨.tup (SqT.of aA) (.cons (rv.mono (.new hq)) (.cons (ru.mono (.new hq)) .nil)),rS.other hq,.new hq⟩
 ·have e:(dI xs ys).length=min xs.length ys.length:=by simp[dI]
  rw[e]at hi
  by_cases hle:xs.length<=ys.length
  ·exact .inl (by omega)
  ·exact .inr (by omega)
def oS(ta tb:aX):qR:=fun σ S R E=>ta σ S (fun v S1=>tb σ S1 (fun w S2=>match v,w with
 | .tup xs,.tup ys=>R ⟨dI xs ys,fun _=>True⟩ S2
 |_,_=>False) E) E
def ug{elts:List Expr}{k0:Nat}{Cr:Pos}(hs:starEach [a,b] X.env=[(false,eval a X.env),(false,eval b X.env)])(hs2:starEach [b] X.env=[(false,eval b X.env)])(hg:Gl X "zip")(hm:X.mg "zip" = none)(hv:bootBuiltins "zip" = some (.type "zip"))(ha:kl X [a,b] [ta,tb]) :
  tF X (.Tuple elts k0 Cr) (.Call (.Name "zip" p) [a,b] [] pos) (oS ta tb):=
 ⟨kZ (vi hg hm hv ha.ok hs hs2) fun σ H R ⟨σ3,S,R3,E3,rσ,rS,h,xo,k⟩=>⟨σ3,S,_,E3,rσ,rS,h,xo,fun v S1 v' H1 h1 rv At g1=>⟨σ3,S1,_,E3,rσ.mono g1,At,h1,xo.mono g1,fun w S2 w' H2 h2 rw' Cs g2=>by
  split at h2
  ·cases rv with
   |tup hq rs=>
    cases rw' with
    |tup hq2 FX=>exact⟨false,false,_,_,rfl,⟨_,g2.t _ _ hq⟩,⟨_,hq2⟩,k _ S2 _ H2 h2 (tI (.tup (g2.t _ _ hq) (rs.mono g2)) (.tup hq2 FX)) Cs (g1.trans g2)⟩
  ·exact h2.elim⟩⟩⟩
end
section
variable {X:Cx} {iter tg c:Expr} {body:List Stmt} {ti:qR} {g:Tg} {tb:bz} {tc:iP} {pos:Pos}
noncomputable def l5(g:Tg)(tb:bz)(D:lY)(keep:av->Prop):List PV->bY->av->Prop
 |[],σ,S=>keep S/\D.nx σ S
 |x::r,σ,S=>keep S/\match g.put x σ with|some σ'=>tb { D with nx:=l5 g tb D keep r,ct:=l5 g tb D keep r,bk:=D.nx } σ' S|none=>False
def cp(ti:qR)(g:Tg)(tb:bz):bz:=fun D σ S=>ti σ S (fun src S1=>l5 g tb D src.keep src.items σ S1) D.ex
def eB(hp:PassesOwn (model X.prog X.w) X.A X.env X.xe)(hc:X.calm=true)(hi:tF X tg iter ti)(hg:sa X tg g)(hb:jb X body tb)(hs:∀x,foldedSetIterable iter X.env x=pure x:=by intro _;rfl):mZ X (.For tg iter body [] pos) (cp ti g tb):=
 ⟨cD (uN hp hc hi.ok hg.ok hb.ok hs) fun D σ H ⟨σ3,S,D3,rσ,rS,h,xo,n,r,bk,ct⟩=>⟨σ3,S,_,D3.ex,rσ,rS,h,xo,fun src S1 J H1 h1 sim At g1=>by
  refine⟨fun i m σ' H'=>i+m=src.items.length/\∃σ4 S',Al X.K H' σ' σ4/\Ah X.K H' S'/\Grow X.K H1 H'/\l5 g tb D3 src.keep (src.items.drop i) σ4 S',⟨src.items.length,J3 _,σ3,S1,rσ.mono g1,At,.refl,by simpa using h1⟩,?_⟩
  rintro i m σ' H' ⟨hm,σ4,S',DN,BS,g',hw⟩
  cases hd:src.items.drop i with
  |nil=>
   rw[hd]at hw
   have hi:i=src.items.length:=by
    have:=IS List.length hd
    rw[Jo,Jh]at this
    omega
   exact .inl ⟨(sim i S' H' g' BS hw.1).2 hi,n _ S' _ H' hw.2 DN BS (g1.trans g')⟩
  |cons x rest=>
   rw[hd]at hw
   have hx:src.items[i]?=some x:=by
    have:=IS (fun l=>l[0]?) hd
    simpa using this
   have hrest:src.items.drop (i+1)=rest:=by
    have:=IS List.tail hd
    simpa [List.tail_drop]using this
   have hlt:i < src.items.length:=by
    by_cases z:i < src.items.length
    ·exact z
    ·rw[JB (by omega)]at hx;cases hx
   obtain⟨go,yl⟩:=(sim i S' H' g' BS hw.1).1 x hx
   refine .inr ⟨go,fun σ5 H5=>∃σ6 S6,Al X.K H5 σ5 σ6/\Ah X.K H5 S6/\Grow X.K H1 H5/\l5 g tb D3 src.keep rest σ6 S6,?_,fun v H5 hv=>?_⟩
   ·rintro σ5 H5 ⟨σ6,S6,q1,q2,q3,q4⟩
    exact⟨m - 1,by omega,by omega,σ6,S6,q1,q2,q3,by rw[hrest];exact q4⟩
   ·obtain⟨rv,FY,g5⟩:=yl v H5 hv
    obtain⟨_,hw⟩:=hw
    split at hw
    ·rename_i σ6 e6
     refine Tg.CJ (own:=0) g rv (DN.mono g5) e6 fun σ7 Fo _=>?_
     exact⟨σ6,S',_,Fo,FY,hw,xo.mono (g1.trans (g'.trans g5)),fun σ8 S8 σ9 H9 q1 q2 q3 q4=>⟨σ8,S8,q2,q3,g'.trans (g5.trans q4),q1⟩,r.mono (g1.trans (g'.trans g5)),n.mono (g1.trans (g'.trans g5)),
      fun σ8 S8 σ9 H9 q1 q2 q3 q4=>⟨σ8,S8,q2,q3,g'.trans (g5.trans q4),q1⟩⟩
    ·exact hw.elim⟩⟩
def fV(tc:iP)(tb:bz):bz:=fun D σ S=>∃W:Nat->bY->av->Prop,(∃m,W m σ S)/\∀m σ S,W m σ S->
 tc σ S (fun b S1=>if b=true then ∃N:bY->av->Prop,(∀σ' S',N σ' S'->∃m',m' < m/\W m' σ' S')/\tb { D with nx:=N,ct:=N,bk:=D.nx } σ S1 else D.nx σ S1) D.ex
def gA(hp:PassesOwn (model X.prog X.w) X.A X.env X.xe)(hc:mY X c tc)(hb:jb X body tb):mZ X (.While c body [] pos) (fV tc tb):=
 ⟨cD (pQ hp hc.ok hb.ok) fun D σ H ⟨σ3,S,D3,rσ,rS,⟨W,⟨m0,w0⟩,turn⟩,xo,n,r,bk,ct⟩=>by
  refine⟨fun m σ' H'=>∃σ4 S',Al X.K H' σ' σ4/\Ah X.K H' S'/\Grow X.K H H'/\W m σ4 S',⟨m0,σ3,S,rσ,rS,.refl,w0⟩,?_⟩
  rintro m σ' H' ⟨σ4,S',DN,BS,g',w'⟩
  refine⟨σ4,S',_,D3.ex,DN,BS,turn m σ4 S' w',xo.mono g',fun b S1 H1 h1 At g1=>?_⟩
  cases b with
  |true=>
   rw[if_pos rfl]at h1 ⊢
   obtain⟨N,hN,h1⟩:=h1
   refine⟨fun σ5 H5=>∃σ6 S6,Al X.K H5 σ5 σ6/\Ah X.K H5 S6/\Grow X.K H H5/\N σ6 S6,?_,?_⟩
   ·rintro σ5 H5 ⟨σ6,S6,q1,q2,q3,q4⟩
    obtain⟨m',hm,w6⟩:=hN σ6 S6 q4
    exact⟨m',hm,σ6,S6,q1,q2,q3,w6⟩
   ·exact⟨σ4,S1,_,DN.mono g1,At,h1,xo.mono (g'.trans g1),fun σ8 S8 σ9 H9 q1 q2 q3 q4=>⟨σ8,S8,q2,q3,g'.trans (g1.trans q4),q1⟩,r.mono (g'.trans g1),n.mono (g'.trans g1),
     fun σ8 S8 σ9 H9 q1 q2 q3 q4=>⟨σ8,S8,q2,q3,g'.trans (g1.trans q4),q1⟩⟩
  |false=>
   rw[if_neg (by decide)]at h1 ⊢
   exact n _ S1 _ H1 h1 (DN.mono g1) At (g'.trans g1)⟩
end
noncomputable def eC:cg:=fun _ _ _=>False
def Dr.no{X:Cx}{H:Hp}:Dr X H eC:=fun _ _ _ _ _ _ _ _ _ _ _ _ _ _ h=>h.elim
section
variable {X:Cx} {elt iter tg c:Expr} {ifs:List Expr} {scope:Scope} {pos:Pos} {ti:qR} {g:Tg} {tc:iP} {te:aX} {fs N:Vs} {own:Nat} {fr:List Nat}
noncomputable def dk(g:Tg)(tc:iP)(te:aX)(σ':bY)(keep:av->Prop)(fin:List PV->av->Prop):List PV->List PV->av->Prop
 |[],ys,S=>keep S/\ys.length<=sizeLine/\fin ys S
 |x::r,ys,S=>keep S/\ys.length<=sizeLine/\match g.put x σ' with
  |some σ2=>tc σ2 S (fun b S3=>if b=true then te σ2 S3 (fun y S4=>dk g tc te σ' keep fin r (ys++[y]) S4) eC else dk g tc te σ' keep fin r ys S3) eC
  |none=>False
def bZ:iP:=fun _ S Q _=>Q true S
structure wo (X:Cx) (ifs:List Expr) (t:iP):Prop where
 ok:PF X ifs (LT X t)
def m9{t t':TT}(h:PF X ifs t)(k:∀σ H Q,t' σ H Q->t σ H Q):PF X ifs t':=fun pins s σ H Q I q=>h pins s σ H Q I (k σ H Q q)
def bV:wo X [] bZ:=⟨m9 vc fun σ H Q ⟨σ3,S,Q3,E3,rσ,rS,h,xo,k⟩=>k true S H h rS .refl⟩
def xP(h:mY X c tc):wo X [c] tc:=⟨vd h.ok⟩
noncomputable def k4(own:Nat)(fr:List Nat)(σ:bY):bY:=List.replicate own none++fr.map fun j=>lk σ j
def tJ{K:Vo}{H:Hp}{σ:L2.St}{σ3:bY}(r:Al K H σ σ3)(own:Nat)(fr:List Nat):Al K H (dh own fr σ) (k4 own fr σ3):=by
 refine⟨by unfold dh k4;simp,fun i p e=>?_⟩
 unfold k4 at e
 unfold dh
 by_cases hi:i < own
 ·rw[IV (by simpa using hi),Jt,if_pos hi]at e
  cases e
 ·rw[Jc (by simpa using hi),IF,Ia]at e ⊢
  cases hj:fr[i - own]? with
  |none=>rw[hj]at e;cases e
  |some j=>
   rw[hj]at e
   simp only[Option.map_some,Option.some.injEq]at e ⊢
   obtain⟨v,hv,rv⟩:=r.at' j p (qC e)
   exact⟨v,by rw[hv];rfl,rv⟩
def bb(ti:qR)(g:Tg)(tc:iP)(te:aX)(own:Nat)(fr:List Nat):aX:=fun σ S Q E=>ti σ S (fun src S1=>dk g tc te (k4 own fr σ) src.keep (fun ys S2=>∀p,S2 p=none->Q (.ref p) (am S2 p (.lst ys))) src.items [] S1) E
def ku{σ:L2.St}{H:Hp}{Q:VK}(DX:g.under own=true)(B0:Bk):LE X (bb ti g tc te own fr) σ H Q->qo (LI X ti) (g.g2 X.K) (fun σ H Q=>∃σ3 S Q3,Al X.K H σ σ3/\Ah X.K H S/\tc σ3 S Q3 eC/\∀b S' H',Q3 b S'->Ah X.K H' S'->Grow X.K H H'->Q b H')
  (fun σ H Q=>∃σ3 S Q3,Al X.K H σ σ3/\Ah X.K H S/\te σ3 S Q3 eC/\Ds X.K H Q3 Q) own fr σ H Q:=fun⟨σ3,S,Q3,E3,rσ,rS,h,xo,k⟩=>by
 refine⟨σ3,S,_,E3,rσ,rS,h,xo,fun src S1 J H1 h1 sim At g1=>?_⟩
 refine⟨fun i m ys H'=>i+m=src.items.length/\∃zs S',Reps X.K H' ys zs/\Ah X.K H' S'/\Grow X.K H1 H'/\dk g tc te (k4 own fr σ3) src.keep (fun ys S2=>∀p,S2 p=none->Q3 (.ref p) (am S2 p (.lst ys))) (src.items.drop i) zs S',⟨src.items.length,J3 _,[],S1,.nil,At,.refl,by simpa using h1⟩,?_⟩
 rintro i m ys H' ⟨hm,zs,S',rz,BS,g',hw⟩
 cases hd:src.items.drop i with
 |nil=>
  rw[hd]at hw
  have hi:i=src.items.length:=by
   have:=IS List.length hd
   rw[Jo,Jh]at this
   omega
  refine .inl ⟨(sim i S' H' g' BS hw.1).2 hi,by rw[rz.length];exact hw.2.1,fun D hD=>?_⟩
  exact k _ _ _ _ (hw.2.2 D (BS.free hD)) (.ref D) (BS.new hD ⟨_,aA,rz.mono (.new hD)⟩) (g1.trans (g'.trans (.new hD)))
 |cons x rest=>
  rw[hd]at hw
  have hx:src.items[i]?=some x:=by
   have:=IS (fun l=>l[0]?) hd
   simpa using this
  have hrest:src.items.drop (i+1)=rest:=by
   have:=IS List.tail hd
   simpa [List.tail_drop]using this
  have hlt:i < src.items.length:=by
   by_cases z:i < src.items.length
   ·exact z
   ·rw[JB (by omega)]at hx;cases hx
  obtain⟨go,yl⟩:=(sim i S' H' g' BS hw.1).1 x hx
  refine .inr ⟨go,by rw[rz.length];exact hw.2.1,fun ys' H5=>∃zs' S6,Reps X.K H5 ys' zs'/\Ah X.K H5 S6/\Grow X.K H1 H5/\dk g tc te (k4 own fr σ3) src.keep (fun ys S2=>∀p,S2 p=none->Q3 (.ref p) (am S2 p (.lst ys))) rest zs' S6,?_,fun v H5 hv=>?_⟩
  ·rintro ys' H5 ⟨zs',S6,q1,q2,q3,q4⟩
   exact⟨m - 1,by omega,by omega,zs',S6,q1,q2,q3,by rw[hrest];exact q4⟩
  ·obtain⟨rv,FY,g5⟩:=yl v H5 hv
   obtain⟨_,_,hw⟩:=hw
   split at hw
   ·rename_i σ6 e6
    refine Tg.CJ (own:=own) g rv ((tJ rσ own fr).mono (g1.trans (g'.trans g5))) e6 fun σ7 Fo d7=>⟨d7 DX,?_⟩
    refine⟨σ6,S',_,Fo,FY,hw,fun b S8 H8 h8 Gy g8=>?_⟩
    cases b with
    |true=>
     rw[if_pos rfl]at h8 ⊢
     exact⟨σ6,S8,_,Fo.mono g8,Gy,h8,fun y S9 y' H9 h9 ry Hd g9=>⟨zs++[y],S9,(rz.mono (g5.trans (g8.trans g9))).append (.cons ry .nil),Hd,g'.trans (g5.trans (g8.trans g9)),h9⟩⟩
    |false=>
     rw[if_neg (by decide)]at h8 ⊢
     exact⟨zs,S8,rz.mono (g5.trans g8),Gy,g'.trans (g5.trans g8),h8⟩
   ·exact hw.elim
def vy(fs:Vs)(own:Nat)(fr:List Nat)(N:Vs)(DX:g.under own=true)(hc:X.calm=true)(hclos:closureFor scope X.env=pure (bX X.env fs))(hcell:∀y∈scope.names,y.2 ≠ .cell)(hkind:scope.kind = .function)
  (hnames:∀x∈scope.names,x.2 = .local->scope.names.lookup x.1=some .local) (hcl:bP X.env fs) (hhas:kO (relabel scope X.env).names (bX X.env fs)=true)
  (hlen:N.length=own+fr.length) (hN:(N.drop own).map some=fr.map fun j=>X.N[j]?) (hF:AN X.env scope (bX X.env fs) (N.drop own))
  (hi:tF X tg iter ti) (hg:∀B,sa (X.BE N scope fs B) tg g) (hf:∀B,wo (X.BE N scope fs B) ifs tc) (he:∀B,bu (X.BE N scope fs B) elt te)
  (hs:∀x,foldedSetIterable iter X.env x=pure x:=by intro _;rfl):bu X (.ListComp elt [⟨tg,iter,ifs,0⟩] scope pos) (bb ti g tc te own fr):=
 ⟨aW (sS fs own fr N hc hclos hcell hkind hnames hcl hhas hlen hN hF hi.ok (fun B=>(hg B).ok)
  (fun B=>m9 (hf B).ok fun σ H Q ⟨σ3,S,Q3,rσ,rS,h,k⟩=>⟨σ3,S,Q3,eC,rσ,rS,h,.no,k⟩) (fun B=>aW (he B).ok fun σ H Q ⟨σ3,S,Q3,rσ,rS,h,k⟩=>⟨σ3,S,Q3,eC,rσ,rS,h,.no,k⟩) hs) fun _ _ _=>ku DX ⟨0,X.s₀,X.H₀,[],[]⟩⟩
def vz(fs:Vs)(own:Nat)(fr:List Nat)(N:Vs){i:Nat}{y:Str}{py spos:Pos}(hX:X.N.Nodup)(hix:X.N[i]?=some y)(hy:X.env.scope.names.lookup y=some .local)
  (hsw:swapsWith (.ListComp elt [⟨tg,iter,ifs,0⟩] scope pos) (some (.Name y py)) spos.line X.env=pure true)
  (DX:g.under own=true) (hc:X.calm=true) (hclos:closureFor scope X.env=pure (bX X.env fs)) (hcell:∀y∈scope.names,y.2 ≠ .cell) (hkind:scope.kind = .function)
  (hnames:∀x∈scope.names,x.2 = .local->scope.names.lookup x.1=some .local) (hcl:bP X.env fs) (hhas:kO (relabel scope X.env).names (bX X.env fs)=true)
  (hlen:N.length=own+fr.length) (hN:(N.drop own).map some=fr.map fun j=>X.N[j]?) (hF:AN X.env scope (bX X.env fs) (N.drop own))
  (hi:tF X tg iter ti) (hg:∀B,sa (X.BE N scope fs B) tg g) (hf:∀B,wo (X.BE N scope fs B) ifs tc) (he:∀B,bu (X.BE N scope fs B) elt te)
  (hs:∀x,foldedSetIterable iter X.env x=pure x:=by intro _;rfl):mZ X (.Assign [.Name y py] (.ListComp elt [⟨tg,iter,ifs,0⟩] scope pos) spos) (aw i (bb ti g tc te own fr)):=
 ⟨cD (sT fs own fr N hX hix hy hsw hc hclos hcell hkind hnames hcl hhas hlen hN hF hi.ok (fun B=>(hg B).ok)
  (fun B=>m9 (hf B).ok fun σ H Q ⟨σ3,S,Q3,rσ,rS,h,k⟩=>⟨σ3,S,Q3,eC,rσ,rS,h,.no,k⟩) (fun B=>aW (he B).ok fun σ H Q ⟨σ3,S,Q3,rσ,rS,h,k⟩=>⟨σ3,S,Q3,eC,rσ,rS,h,.no,k⟩) hs)
  fun D σ H ⟨σ3,S,D3,rσ,rS,h,xo,n,r,bk,ct⟩=>ku DX ⟨0,X.s₀,X.H₀,[],[]⟩ ⟨σ3,S,_,D3.ex,rσ,rS,h,xo,fun p S1 v H1 h1 rv At g1=>n _ S1 _ H1 h1 ((rσ.mono g1).set rv i) At g1⟩⟩
end
abbrev ay:=List PV->av->bQ->cg->Prop
noncomputable def xQ(K:Vo)(n:Nat)(sp:ay):Sp:=fun vs H Q _=>vs.length=n/\∃ps S Q3 E3,Reps K H vs ps/\Ah K H S/\sp ps S Q3 E3/\Ds K H Q3 Q
structure Ex (P:Program) (w:World) (K:Vo) (mg:Vr) (base:Heap) (k:Nat) (f:Addr) (fd:FuncData) (ps:Vs) (sp:ay):Prop where
 ok:kF P w K mg base ua k f fd ps (xQ K ps.length sp)
section
variable {X:Cx} {e o:Expr} {es:List Expr} {te to:aX} {ts:List aX} {x:Str} {p pos apos cpos:Pos} {k:Nat} {f:Addr} {fd:FuncData} {ps:Vs} {sp:ay}
def ae(sp:ay)(ts:List aX):aX:=fun σ S Q E=>bR ts σ S (fun ps S1=>sp ps S1 Q E) E
def vA(F:Ex X.prog X.w X.K X.mg X.base k f fd ps sp)(hr:Room k X.A)(hg:Gl X x)(hm:X.mg x=some (.ref f))(hk:PySem.W.keepIn X.K (.ref f)=true)(hb:Binds X.K fd ps [])(he:starEach (e::es) X.env=(false,eval e X.env)::starEach es X.env)(ha:kl X (e::es) ts)
  (hl:ts.length=ps.length:=by rfl) (hdb:(x == ("__debug__":Str))=false:=by decide) (hpl:(backTo pos (starEach es X.env)).any (·.1)=false:=by rfl):bu X (.Call (.Name x p) (e::es) [] pos) (ae sp ts):=
 ⟨aW (sE F.ok hr hg hm hk hb .nil xx ha.ok hdb he hpl) fun σ H Q ⟨σ3,S,Q3,E3,rσ,rS,h,xo,k⟩=>cA rσ rS h xo fun ps' S' vs H' hl' q rv BS g=>by
  rw[JP]
  exact⟨by rw[rv.length,hl',hl],ps',S',Q3,E3,rv,BS,q,k.mono g⟩⟩
end
noncomputable def ax(n:Nat)(args:List PV):bY:=args.map some++List.replicate (n - args.length) none
def aY(n:Nat)(t:bz):ay:=fun args S Q _=>t { nx:=fun _ S'=>Q .non S',rt:=Q,ex:=eC } (ax n args) S
def oU{K:Vo}{H:Hp}{N:Vs}{vs:List V}{ps:List PV}(r:Reps K H vs ps):Al K H (L2.eP N vs) (ax N.length ps):=by
 refine⟨by unfold L2.eP ax;simp[r.length],fun i p e=>?_⟩
 unfold ax at e
 unfold L2.eP
 by_cases hi:i < ps.length
 ·rw[IV (by simpa using hi),Ia]at e
  cases hp:ps[i]? with
  |none=>rw[hp]at e;cases e
  |some q=>
   rw[hp]at e
   cases e
   obtain⟨v,hv,rv⟩:=r.get hp
   rw[IV (by rw[HQ,r.length];exact hi),Ia,hv]
   exact⟨v,rfl,rv⟩
 ·rw[Jc (by simpa using hi),Jt]at e
  split at e
  ·cases e
  ·cases e
section
variable {P:Program} {w:World} {K:Vo} {mg:Vr} {base:Heap}
noncomputable abbrev zk(P:Program)(w:World)(K:Vo)(mg:Vr)(base:Heap)(N:Vs)(qual:Str)(st:Stmt)(f:Addr)(cdv:Value)(A:Around)(outer:List Env)(s:Shared)(H:Hp)(E:XK):Cx:=(mO ua P w K mg base N qual (aH st) f cdv A outer s H E).EX
def zE{x qual:Str}{st:Stmt}{f:Addr}{fd:FuncData}{N ps:Vs}{k:Nat}{t:bz}(F:Ed K x qual st f fd)(S:fx N ps (aH st))
  (hbody:∀(cdv:Value) (A:Around) (outer:List Env) (s:Shared) (H:Hp) (E:XK),Room k (A.deeper (PyProof.Rows.envOfC qual (aH st) s.heap.objs.size f cdv))->jb (zk P w K mg base N qual st f cdv A outer s H E) (bJ st) t) :
  Ex P w K mg base (k+1) f fd ps (aY N.length t):=
 ⟨F.ok S (fun vs H Q E h=>h.1) fun cdv A outer s H vs Q E hr ⟨hl,ps',S',Q3,E3,rv,rS,q,kk⟩=>⟨_,(hbody cdv A outer s H E hr).ok,ax N.length ps',S',_,oU rv,rS,q,.no,fun σ3 S2 σ2 H2 h2 _ Cs g2=>kk _ S2 _ H2 h2 .non Cs g2,kk,fun _ _ _ _ h2=>h2.elim,fun _ _ _ _ h2=>h2.elim⟩⟩
end
section
variable {X:Cx} {o e f:Expr} {to te tf:aX} {pos apos cpos:Pos}
noncomputable def im:List (aX×aX)->bY->av->(List (PV×PV)->av->Prop)->cg->Prop
 |[],_,S,Q,_=>Q [] S
 |(tk,tv)::r,σ,S,Q,E=>tk σ S (fun x S1=>tv σ S1 (fun y S2=>im r σ S2 (fun ps S3=>Q ((x,y)::ps) S3) E) E) E
noncomputable def l6:List (PV×PV)->Option (List (bE×PV))
 |[]=>some []
 |(x,y)::r=>match m8 x,l6 r with|some k,some l=>some ((k,y)::l)|_,_=>none
noncomputable def k5(kvs more:List (bE×PV)):List (bE×PV):=more.foldl (fun acc kv=>kY acc kv.1 kv.2) kvs
structure yy (X:Cx) (pos:Pos) (keys:List (Option Expr)) (values:List Expr) (Cm:List (aX×aX)):Prop where
 ok:xu X pos keys values (Cm.map fun t=>(LE X t.1,LE X t.2))
def vB:yy X pos [] [] []:=⟨sN⟩
def k6{k v:Expr}{ks:List (Option Expr)}{vs:List Expr}{tk tv:aX}{Cm:List (aX×aX)}(hk:bu X k tk)(hv:bu X v tv)(hr:yy X pos ks vs Cm):yy X pos (some k::ks) (v::vs) ((tk,tv)::Cm):=⟨qj hk.ok hv.ok hr.ok⟩
inductive kw (K:Vo) (H:Hp):List (V×V)->List (PV×PV)->Prop
 |nil:kw K H [] []
 |cons {a b:V} {p q:PV} {vs:List (V×V)} {ps:List (PV×PV)}:Rep K H a p->Rep K H b q->kw K H vs ps->kw K H ((a,b)::vs) ((p,q)::ps)
theorem jf:∀{Cm:List (aX×aX)} {σ:L2.St} {H:Hp} {Q:List (V×V)->Hp->Prop} {σ3:bY} {S:av} {Q3:List (PV×PV)->av->Prop} {E3:cg},Al X.K H σ σ3->Ah X.K H S->im Cm σ3 S Q3 E3->Dr X H E3->
  (∀ps S' vs H',ps.length=Cm.length->Q3 ps S'->kw X.K H' vs ps->Ah X.K H' S'->Grow X.K H H'->Q vs H')->kL (Cm.map fun t=>(LE X t.1,LE X t.2)) σ H Q
 |[],σ,H,Q,σ3,S,Q3,E3,rσ,rS,h,xo,k=>k [] S [] H rfl h .nil rS .refl
 |(tk,tv)::ts,σ,H,Q,σ3,S,Q3,E3,rσ,rS,h,xo,k=>
  ⟨σ3,S,_,E3,rσ,rS,h,xo,fun p S1 v H1 h1 rv At g1=>⟨σ3,S1,_,E3,rσ.mono g1,At,h1,xo.mono g1,fun p2 S2 v2 H2 h2 He Cs g2=>jf (rσ.mono (g1.trans g2)) Cs h2 (xo.mono (g1.trans g2)) fun ps S3 vs H3 hl h3 FU Ew g3=>
   k ((p,p2)::ps) S3 ((v,v2)::vs) H3 (by rw[Ic,Ic,hl]) h3 (.cons (rv.mono (g2.trans g3)) (He.mono g3) FU) Ew (g1.trans (g2.trans g3))⟩⟩
theorem kx{K:Vo}{H:Hp}:∀{vs:List (V×V)} {ps:List (PV×PV)} {l:List (bE×PV)},kw K H vs ps->l6 ps=some l->∃kvs:List (bE×V),vs=kvs.map (fun kv=>(kV kv.1,kv.2))/\Au K H kvs l
 |_,_,_,.nil,h=>by cases h;exact⟨[],rfl,.nil⟩
 |_,_,l,.cons a b r,h=>by
  unfold l6 at h
  split at h
  ·rename_i k l' ek el
   cases h
   obtain⟨kvs,e,q⟩:=kx r el
   refine⟨(k,_)::kvs,?_,.cons b q⟩
   rw[Ir,<-e,dD a ek]
  ·cases h
def Au.merge{K:Vo}{H:Hp}{more:List (bE×V)}{m3:List (bE×PV)}(r:Au K H more m3):∀{kvs:List (bE×V)} {k3:List (bE×PV)},Au K H kvs k3->Au K H (hV kvs more) (k5 k3 m3):=by
 induction r with
 |nil=>intro kvs k3 q;exact q
 |cons a r ih=>intro kvs k3 q;exact ih (q.put a)
def l9(Cm:List (aX×aX)):aX:=fun σ S Q E=>∀p,S p=none->im Cm σ (am S p (.dct [])) (fun ps S2=>S2 p=some (.dct [])/\match l6 ps with|some kvs=>Q (.ref p) (am S2 p (.dct (k5 [] kvs)))|none=>False) E
def vC{keys:List (Option Expr)}{values:List Expr}{Cm:List (aX×aX)}(h:yy X pos keys values Cm)(hall:keys.all (·.isSome)=true:=by rfl)(hl:keys.length=values.length:=by rfl)(h0:keys≠[]:=by exact List.cons_ne_nil _ _)(FK:keys.length<=15:=by decide)
  (ht:Cm.length<=15:=by exact Kz rfl):bu X (.Dict keys values pos) (l9 Cm):=
 ⟨aW (sO h.ok hall hl h0 FK) fun σ H Q ⟨σ3,S,Q3,E3,rσ,rS,hq,xo,k⟩=>fun p hp=>by
  have g0:Grow X.K H (upd H p (.dK [])):=.new hp
  refine jf (rσ.mono g0) (rS.new hp (o:=.dct []) ⟨[],aA,.nil⟩) (hq p (rS.free hp)) (xo.mono g0) fun ps S' vs H' hl' q rv BS g=>?_
  obtain⟨e,q⟩:=q
  obtain⟨kv,hv,rk⟩:=BS _ _ e
  cases rk
  refine⟨hv,?_⟩
  split at q
  ·rename_i kvs ek
   obtain⟨l,el,rl⟩:=kx rv ek
   refine⟨l,el,?_,k _ _ _ _ q (.ref p) (BS.put hv trivial ⟨_,aA,(Au.merge rl .nil).mono (.mut hv trivial)⟩) (g0.trans (g.trans (.mut hv trivial)))⟩
   have z1:∀{vs:List (V×V)} {ps:List (PV×PV)},kw X.K H' vs ps->vs.length=ps.length:=by
    intro vs ps r
    induction r with
    |nil=>rfl
    |cons _ _ _ ih=>rw[Ic,Ic,ih]
   have z2:=IS List.length el
   rw[HQ,z1 rv,hl']at z2
   omega
  ·exact q.elim⟩
def l_(te:aX):aX:=fun σ S Q E=>te σ S (fun x S1=>match x with
 | .ref a=>(match S1 a with|some (.lst xs)=>∀p,S1 p=none->Q (.ref p) (am S1 p (.lst xs.reverse))|_=>False)
 |_=>False) E
def vD{p1 p2 q1 q2:Pos}(hs:starEach [e] X.env=[(false,eval e X.env)])(hc:X.calm=true)(he:bu X e te)(FT:Gl X "list")(hm1:X.mg "list" = none)(E4:Gl X "reversed")(hm2:X.mg "reversed" = none):bu X (.Call (.Name "list" p1) [.Call (.Name "reversed" p2) [e] [] q2] [] q1) (l_ te):=
 ⟨aW (mU hc he.ok FT hm1 E4 hm2 hs rfl) fun σ H Q ⟨σ3,S,Q3,E3,rσ,rS,h,xo,k⟩=>⟨σ3,S,_,E3,rσ,rS,h,xo,fun x S1 v H1 h1 rx At g1=>by
  split at h1
  ·cases rx
   split at h1
   ·rename_i ea
    obtain⟨vs,hv,rs⟩:=At _ _ ea
    exact⟨_,_,rfl,SqL.of hv,fun q hq=>k _ _ _ _ (h1 q (At.free hq)) (.ref q) (At.new hq ⟨_,aA,rs.reverse.mono (.new hq)⟩) (g1.trans (.new hq))⟩
   ·exact h1.elim
  ·exact h1.elim⟩⟩
end
def bp:R3:=dE fun i j=>.int (i - j)
def eI:R3:=fM (fun _ j=>j≠0) fun i j=>.int (i.fmod j)
def eE:R3:=fM km fun i j=>.int (i.fdiv j)
def oV:R3:=fM uQ fun i j=>.int (i ^ j.toNat)
def pI:R3:=dE fun i j=>.bl (decide (i < j))
def mG:R3:=dE fun i j=>.bl (decide (j < i))
def uh:R3:=dE fun i j=>.bl (decide (j<=i))
section
variable {X:Cx}
def bW:ie X (binaryOp .Sub) bp:=vn
def dr:ie X (binaryOp .Mod) eI:=vo
def fW:ie X (binaryOp .FloorDiv) eE:=s9
def uk:ie X (binaryOp .Pow) oV:=vp
def m_:ie X (compareOp .Lt) pI:=xD
def ma:ie X (compareOp .Gt) mG:=xE
def xR:ie X (compareOp .GtE) uh:=xF
end
def sd{A:Around}{k:Nat}(hr:Room k A):A.units+1 < cLine:=by have:=hr.un;omega
def iI{A:Around}{k:Nat}(hr:Room k A):A.units+150 < cLine:=by have:=hr.un;omega
def nO{A:Around}{k:Nat}(hr:Room k A):A.units+160 < cLine:=by have:=hr.un;omega
structure yz (K:Vo) (mg:Vr) (x:Str) (st:Stmt) (ps:Vs) (f:Addr) (fd:FuncData):Prop where
 F:Ed K x x st f fd
 b:Binds K fd ps []
 k:PySem.W.keepIn K (.ref f)=true
 m:mg x=some (.ref f)
def Ex.zero{P:Program}{w:World}{K:Vo}{mg:Vr}{base:Heap}{k:Nat}{f:Addr}{fd:FuncData}{ps:Vs}{sp:ay}(h:sp=fun _ _ _ _=>False):Ex P w K mg base k f fd ps sp:=by
 subst h
 exact⟨⟨fun vs H Q E q=>q.1,fun A outer s H args us vs Q E _ _ _ _ ⟨_,_,_,_,_,_,_,q,_⟩=>q.elim⟩⟩
def zm{K:Vo}{H:Hp}{a:Addr}{ns:Vu}{sp:ay}(hO:sP H)(hS:SqL K H a (ns.map V.int))(h:sp [.cl (ns.map PV.int)] (fun _=>none) (fun v _=>v = .bl true) eC):xQ K 1 sp [.ref a] H (fun v _=>v = .bl true) fun _ _ _=>False:=by
 have hr:∀l:List Int,Reps K H (l.map V.int) (l.map PV.int):=by
  intro l
  induction l with
  |nil=>exact .nil
  |cons x r ih=>exact .cons (.int x) ih
 refine⟨rfl,[.cl (ns.map PV.int)],fun _=>none,_,eC,.cons (.cl (vs:=ns.map V.int) ?_ (hr ns)) .nil,(fun b o e=>by simp at e),h,fun p S' v H' q rv rS g=>?_⟩
 ·rcases hS with(q|q)|q
  ·rcases hO a with z|⟨o,xs,z⟩
   ·rw[z]at q;cases q
   ·rw[z]at q;cases q
  ·exact .inl q
  ·exact .inr q
 ·subst q
  cases rv
  rfl
end L3
namespace L2
open PySem PySem.Spec PyProof.Rows
end L2
namespace HT
open PySem PySem.Spec PyProof.Rows
end HT
namespace L2
open PySem PySem.Spec PyProof.Rows
end L2
namespace L3
open PySem L2
end L3
namespace L2
open PySem PySem.Spec PyProof.Rows
end L2
namespace L3
open PySem L2
end L3
namespace L2
open PySem PySem.Spec PyProof.Rows PySem.AutoSeq1
end L2
namespace L3
open PySem L2
end L3
namespace C
open PySem L2 L3
def eY:bz:=(ai (aw 3 (bb (ba (cu (v3 0) (oK (v3 1)) (oK (c3 (.int 63))))) (.n 0) bZ (ao eV [(v3 0),(ah bp (c3 (.int 0)) (v3 0))]) 1 []))
  (ai (aw 4 (ah aV (c3 (.int 7919)) (v3 1)))
  (ai (cp (ba (v3 3)) (.n 2) (aw 4 (ah eI (ah aV (ah cm (v3 4) (c3 (.int 48271))) (ah eI (v3 2) (c3 (.int 2147483629)))) (c3 (.int 2147483647)))))
  (aC (l9 [((c3 (.str "seed")),(v3 4)),((c3 (.str "number")),(c3 (.int 0))),((c3 (.str "left")),(l_ (bb (ba (v3 3)) (.n 0) (aR (ah uh (v3 0) (ah oV (c3 (.int 10)) (c3 (.int 18))))) (v3 0) 1 [])))])))))
def eZ:bz:=(ai (fV (jW (aR (ah (bv false) (ah af (v3 0) (c3 (.str "number"))) (c3 (.int 0)))) (aR (ah mG (ao dG [(ah af (v3 0) (c3 (.str "left")))]) (c3 (.int 0))))) (il (ko "list" oO (ah af (v3 0) (c3 (.str "left"))) []) (v3 0) (c3 (.str "number"))))
  (ai (aw 2 (ah af (v3 0) (c3 (.str "number"))))
  (ai (bH (aR (ah mG (v3 2) (c3 (.int 0)))) (ai (il (ah eE (v3 2) (v3 1)) (v3 0) (c3 (.str "number")))
  (aC (ah eI (v3 2) (v3 1)))) a9)
  (ai (aw 3 (ah eI (ah aV (ah cm (ah af (v3 0) (c3 (.str "seed"))) (c3 (.int 48271))) (c3 (.int 7919))) (c3 (.int 2147483647))))
  (ai (il (ah eI (ah aV (ah cm (v3 3) (c3 (.int 40692))) (c3 (.int 104729))) (c3 (.int 2147483399))) (v3 0) (c3 (.str "seed")))
  (ai (aw 4 (ah eI (ah cm (ah af (v3 0) (c3 (.str "seed"))) (ah af (v3 0) (c3 (.str "seed")))) (c3 (.int 2147483563))))
  (aC (ah eI (ah aV (ah cm (ah eI (ah cm (v3 3) (v3 3)) (c3 (.int 2147483629))) (c3 (.int 2147483563))) (v3 4)) (v3 1)))))))))
def fX:bz:=(ai (oP 2 3 (ao eV [(v3 0),(ah bp (c3 (.int 0)) (v3 0))]) (v3 1))
  (ai (fV (aR (ah mG (v3 3) (c3 (.int 0)))) (oP 2 3 (v3 3) (ah eI (v3 2) (v3 3))))
  (aC (aI [(ah eE (v3 0) (v3 2)),(ah eE (v3 1) (v3 2))]))))
def dJ(Ae:ay):bz:=(ai (aw 2 (c3 (.str "abcdefghijklmnopqrstuvwxyz")))
  (ai (aw 3 (cr [(c3 (.str "jars")),(c3 (.str "deed")),(c3 (.str "rest")),(c3 (.str "pay")),(c3 (.str "put")),(c3 (.str "then")),(c3 (.str "either")),(c3 (.str "take")),(c3 (.str "often")),(c3 (.str "use"))]))
  (ai (aw 5 (ko "str" kq (c3 (.str "")) [(bb (dH (ae Ae [(v3 0),(c3 (.int 6))])) (.n 0) bZ (ah af (v3 2) (ae Ae [(v3 1),(c3 (.int 26))])) 1 [0,2])]))
  (ai (je 6 7 8 (aI [(ae Ae [(v3 0),(ah aV (ao dG [(v3 5)]) (c3 (.int 1)))]),(ae Ae [(v3 0),(c3 (.int 26))]),(ah (bv false) (ae Ae [(v3 0),(c3 (.int 2))]) (c3 (.int 0)))]))
  (ai (aw 9 (cr []))
  (ai (cp (dH (v3 1)) (.n 4) (ai (aw 10 (ah aV (ah aV (cu (v3 5) qK (oK (v3 6))) (ah af (v3 2) (ah eI (ah aV (v3 7) (v3 4)) (c3 (.int 26))))) (cu (v3 5) (oK (v3 6)) qK)))
  (ai (bH (qG (aR (v3 8))) (aw 10 (ko "str" kq (c3 (.str "")) [(bb (dH (ah aV (c3 (.int 1)) (ae Ae [(v3 0),(c3 (.int 6))]))) (.n 0) bZ (ah af (v3 2) (ae Ae [(v3 1),(c3 (.int 26))])) 1 [0,2])])) a9)
  (ai (fV (lM (aR (ah (nL false) (v3 10) (v3 3))) (aR (ah (nL false) (v3 10) (v3 9)))) (aw 10 (ah aV (ah af (v3 2) (ah eI (ah aV (ko "str" ij (v3 2) [(ah af (v3 10) (c3 (.int 0)))]) (c3 (.int 1))) (c3 (.int 26)))) (cu (v3 10) (oK (c3 (.int 1))) qK))))
  (dj (ko "list" bB (v3 9) [(v3 10)]))))))
  (aC (v3 9))))))))
def e7(Ae BL:ay):bz:=(ai (aw 1 (ae Ae [(v3 0),(c3 (.int 4))]))
  (ai (bH (aR (ah (bv false) (v3 1) (c3 (.int 0)))) (aC (aI [(c3 (.int 0)),(c3 (.int 1))])) a9)
  (ai (bH (aR (ah pI (v3 1) (c3 (.int 3)))) (aC (aI [(ah aV (c3 (.int 1)) (ae Ae [(v3 0),(c3 (.int 5))])),(c3 (.int 1))])) a9)
  (aC (ae BL [(ae Ae [(v3 0),(c3 (.int 1000))]),(ah aV (c3 (.int 1)) (ae Ae [(v3 0),(c3 (.int 9))]))])))))
def e_(Ae C4:ay):bz:=(ai (aw 2 (ae Ae [(v3 0),(c3 (.int 7))]))
  (ai (bH (aR (ah (bv false) (v3 2) (c3 (.int 0)))) (aC (aI [(c3 (.str "rest"))])) a9)
  (ai (bH (lM (aR (ah pI (v3 2) (c3 (.int 4)))) (aR (ah (bv false) (ao dG [(v3 1)]) (c3 (.int 0))))) (aC (aI [(c3 (.str "pay")),(ae C4 [(v3 0)])])) a9)
  (ai (aw 3 (ah af (cr [(c3 (.int 1)),(c3 (.int 2)),(ah aV (c3 (.int 1)) (ae Ae [(v3 0),(c3 (.int 9))]))]) (ae Ae [(v3 0),(c3 (.int 3))])))
  (aC (aI [(c3 (.str "put")),(ah af (v3 1) (ae Ae [(v3 0),(ao dG [(v3 1)])])),(v3 3)]))))))
def fb(Ae A4 s0:ay):bz:=(ai (aw 4 (ae Ae [(v3 0),(c3 (.int 12))]))
  (ai (bH (lM (aR (ah (bv false) (v3 3) (c3 (.int 0)))) (lM (aR (ah pI (ah af (v3 2) (c3 (.int 0))) (c3 (.int 2)))) (aR (ah pI (v3 4) (c3 (.int 3)))))) (aC (ae A4 [(v3 0),(v3 1)])) a9)
  (ai (bH (aR (ah pI (v3 4) (c3 (.int 5)))) (ai (il (ah bp (ah af (v3 2) (c3 (.int 0))) (c3 (.int 1))) (v3 2) (c3 (.int 0)))
  (aC (aI [(c3 (.str "often")),(ae s0 [(v3 0),(v3 1),(v3 2),(ah bp (v3 3) (c3 (.int 1)))])]))) a9)
  (ai (il (ah bp (ah af (v3 2) (c3 (.int 0))) (c3 (.int 2))) (v3 2) (c3 (.int 0)))
  (ai (aw 5 (ae s0 [(v3 0),(v3 1),(v3 2),(ah bp (v3 3) (c3 (.int 1)))]))
  (ai (aw 6 (ae s0 [(v3 0),(v3 1),(v3 2),(ah bp (v3 3) (c3 (.int 1)))]))
  (ai (bH (aR (ah pI (v3 4) (c3 (.int 8)))) (aC (aI [(c3 (.str "then")),(v3 5),(v3 6)])) a9)
  (ai (bH (lM (aR (ah (bv false) (v3 4) (c3 (.int 8)))) (aR (ah (bv false) (ao dG [(v3 1)]) (c3 (.int 0))))) (aC (aI [(c3 (.str "either")),(v3 5),(v3 6)])) a9)
  (ai (aw 7 (ah af (cr [(c3 (.int 1)),(c3 (.int 1)),(c3 (.int 2)),(ah aV (c3 (.int 1)) (ae Ae [(v3 0),(c3 (.int 9))]))]) (ae Ae [(v3 0),(c3 (.int 4))])))
  (aC (aI [(c3 (.str "take")),(ah af (v3 1) (ae Ae [(v3 0),(ao dG [(v3 1)])])),(v3 7),(v3 5),(v3 6)])))))))))))
def bT(s0:ay):bz:=(ai (bH (aR (ah (bv false) (ah af (v3 0) (c3 (.int 0))) (c3 (.str "then")))) (aC (ah cm (ae s0 [(ah af (v3 0) (c3 (.int 1)))]) (ae s0 [(ah af (v3 0) (c3 (.int 2)))]))) a9)
  (ai (bH (lM (aR (ah (bv false) (ah af (v3 0) (c3 (.int 0))) (c3 (.str "either")))) (aR (ah (bv false) (ah af (v3 0) (c3 (.int 0))) (c3 (.str "take"))))) (aC (ah aV (ae s0 [(ah af (v3 0) (pH iQ (c3 (.int 2))))]) (ae s0 [(ah af (v3 0) (pH iQ (c3 (.int 1))))]))) a9)
  (aC (c3 (.int 1)))))
def bN(AB s0:ay):bz:=(ai (bH (aR (ah (bv false) (ah af (v3 0) (c3 (.int 0))) (c3 (.str "often")))) (aC (ah aV (ae AB [(ah af (v3 0) (c3 (.int 1)))]) (ae s0 [(ah af (v3 0) (c3 (.int 1)))]))) a9)
  (ai (bH (aR (ah (nL false) (ah af (v3 0) (c3 (.int 0))) (aI [(c3 (.str "then")),(c3 (.str "either")),(c3 (.str "take"))]))) (aC (ah aV (ae s0 [(ah af (v3 0) (pH iQ (c3 (.int 2))))]) (ae s0 [(ah af (v3 0) (pH iQ (c3 (.int 1))))]))) a9)
  (aC (c3 (.int 0)))))
def b4(By AB BM A4:ay):bz:=(ai (aw 4 (ae By [(v3 0),(v3 1),(cr [(ah bp (v3 2) (c3 (.int 1)))]),(c3 (.int 5))]))
  (ai (bH (aR (ah mG (ah aV (ae AB [(v3 4)]) (ae BM [(v3 4)])) (v3 3))) (aw 4 (aI [(c3 (.str "then")),(aI [(c3 (.str "often")),(ae A4 [(v3 0),(v3 1)])]),(ae A4 [(v3 0),(v3 1)])])) a9)
  (aC (v3 4))))
def dL(Bl Ae B7:ay):bz:=(ai (aw 4 (ae Bl [(v3 0),(c3 (.int 8))]))
  (ai (aw 5 (ao aK [(cu (v3 4) qK (oK (ae Ae [(v3 0),(ah aV (v3 1) (c3 (.int 1)))])))]))
  (ai (aw 6 (ah af (cr [(c3 (.int 0)),(c3 (.int 4))]) (ae Ae [(v3 0),(c3 (.int 2))])))
  (ai (aw 7 (ah aV (c3 (.int 1)) (ae Ae [(v3 0),(v3 2)])))
  (ai (aw 8 (bb (dH (v3 7)) (.n 0) bZ (aI [(ah af (v3 6) (ah aV (v3 2) (v3 0))),(ae B7 [(v3 1),(v3 3),(v3 5),(ah eE (c3 (.int 24)) (v3 4))])]) 1 [0,6,5,7,3,4]))
  (aC (aI [(v3 5),(ao aK [(v3 8)])])))))))
def jg:bz:=(ai (fV (aR (ah (bv true) (v3 1) (c3 (.int 0)))) (ai (aw 2 (ah eI (v3 0) (v3 1)))
  (ai (aw 0 (v3 1))
  (aw 1 (v3 2)))))
  (aC (ao oN [(v3 0)])))
def fY(DA:ay):bz:=(ai (aw 2 (ae DA [(v3 0),(v3 1)]))
  (ai (bH (aR (ah pI (v3 1) (c3 (.int 0)))) (aw 2 (pH iQ (v3 2))) a9)
  (aC (aI [(ah eE (v3 0) (v3 2)),(ah eE (v3 1) (v3 2))]))))
def na(BN:ay):bz:=(aC (ae BN [(ah aV (ah cm (ah af (v3 0) (c3 (.int 0))) (ah af (v3 1) (c3 (.int 1)))) (ah cm (ah af (v3 1) (c3 (.int 0))) (ah af (v3 0) (c3 (.int 1))))),(ah cm (ah af (v3 0) (c3 (.int 1))) (ah af (v3 1) (c3 (.int 1))))]))
def k7(BN:ay):bz:=(aC (ae BN [(ah cm (ah af (v3 0) (c3 (.int 0))) (ah af (v3 1) (c3 (.int 0)))),(ah cm (ah af (v3 0) (c3 (.int 1))) (ah af (v3 1) (c3 (.int 1))))]))
def jh:bz:=(aC (ah af (v3 0) (ah aV (pH iQ (c3 (.int 2))) (ah af (v3 1) (c3 (.int 0))))))
def fc:bz:=(aC (ao aK [(bb (ba (v3 0)) (.n 0) bZ (oJ (aR (ah (bv false) (v3 0) (v3 1))) (v3 2) (c3 (.int 0))) 1 [1,2])]))
def k8:bz:=(aC (ao aK [(bb (oS (v3 0) (v3 1)) (.tp (.cons (.n 0) (.cons (.n 1) .nil))) bZ (ah aV (v3 0) (v3 1)) 2 [])]))
def dM:bz:=(aC (ao aK [(bb (ba (v3 0)) (.n 0) bZ (ah cm (v3 0) (v3 1)) 1 [1])]))
def k9(Bm DY:ay):bz:=(ai (aw 2 (bb (oS (ah af (v3 0) (c3 (.int 1))) (ah af (v3 0) (c3 (.int 2)))) (.tp (.cons (.n 0) (.cons (.n 1) .nil))) bZ (ah aV (v3 1) (ao eV [(c3 (.int 0)),(ah cm (pH iQ (v3 0)) (ah bp (v3 2) (c3 (.int 1))))])) 2 [1]))
  (aC (aI [(ae DY [(ah af (v3 0) (c3 (.int 0))),(aI [(v3 1),(c3 (.int 1))])]),(ae Bm [(ah af (v3 0) (c3 (.int 1))),(v3 1)]),(ao aK [(v3 2)])])))
def cv(A5:ay):bz:=(aC (aI [(aI [(c3 (.int 0)),(c3 (.int 1))]),(ae A5 [(v3 0),(ah af (v3 1) (c3 (.int 1))),(pH iQ (ah af (v3 1) (c3 (.int 2))))]),(ae A5 [(v3 0),(ah af (v3 1) (c3 (.int 1))),(ah af (v3 1) (c3 (.int 2)))])]))
def fe(BL:ay):bz:=(aC (ae BL [(ah aV (ah cm (ah af (v3 0) (c3 (.int 0))) (ah af (v3 1) (c3 (.int 1)))) (ah cm (ah af (v3 1) (c3 (.int 0))) (ah af (v3 0) (c3 (.int 1))))),(ah cm (ah af (v3 0) (c3 (.int 1))) (ah af (v3 1) (c3 (.int 1))))]))
end C
namespace Zu
open PySem Zt
open Sem (wp)
def nn{a b:Nat}(h:a≠b):@Ne Addr a b:=h
abbrev bF(h:Heap)(T:Nat)(a b c:Value):Prop:=h.get? T=some { cls:=.type "tuple",data:=.seq #[a,b,c] }
section
variable {kd kc:Bool} {prog:Program} {w:World} {A:Around} {E:Vq} {s:Shared}
def k_{T:Addr}{a b c x:Value}{k:Nat}{Q:Unit->Shared->Prop}(hT:bF s.heap T a b c)
  (h:∀h',h'.get? T=some { cls:=.type "tuple",data:=.seq ((#[a,b,c]:Vw).setIfInBounds k x) }->Heap.SameBut T s.heap h'->Q () { s with heap:=h' }) :
  wpAny (model prog w) A (updateSeq T (·.setIfInBounds k x)) Q E s:=by
 refine wpAny_updateSeq hT rfl (h _ ?_ (K0 ..))
 rw[JQ _ hT rfl]
 simp[Obj.mapSeq]
variable {n l1 l2 l3:Nat} {i:Nat} {xs ys zs:Vw} {x y z a b c:Value}
def kQ{Q:Vq}(d1:l1 < n)(d2:l2 < n)(d3:l3 < n)(gz:IsZip s.heap (n+5) (n+3) (n+4) .none)(gI:bF s.heap (n+3) (.ref n) (.ref (n+1)) (.ref (n+2)))(gO:bF s.heap (n+4) a b c)
  (g1:Si kd s.heap n l1 i) (g2:Si kc s.heap (n+1) l2 i) (g3:Si kc s.heap (n+2) l3 i) (t1:Sq kd s.heap l1 xs) (t2:Sq kc s.heap l2 ys) (t3:Sq kc s.heap l3 zs) (hx:xs[i]?=some x) (hy:ys[i]?=some y) (hz:zs[i]?=some z)
  (k:∀g,IsZip g (n+5) (n+3) (n+4) (rawInt s.heap.objs.size)->bF g (n+4) x y z->Si kd g n l1 (i+1)->Si kc g (n+1) l2 (i+1)->Si kc g (n+2) l3 (i+1)->bF g s.heap.objs.size x y z->
   (∀c o,c≠n+5->c≠n+4->c≠n->c≠n+1->c≠n+2->s.heap.get? c=some o->g.get? c=some o)->Q (.ref s.heap.objs.size) { s with heap:=g }) :
  wpAny (model prog w) A (Builtin.«zip.__next__» ⟨[.ref (n+5)],[]⟩) (fun fin s'=>∃v,fin = .done (.ret v)/\Q v s') E s:=by
 show wpAny _ _ (field (.ref (n+5)) 2 >>= _) _ _ _;refine HL (Ip gz rfl (x:=.bool false) rfl ?_)
 show wpAny _ _ (field (.ref (n+5)) 3 >>= _) _ _ _;refine HL (Ip gz rfl (x:=.ref (n+3)) rfl (HL (IA gI rfl ?_)))
 show wpAny _ _ (Builtin.SmallTypes.ownedTupleIsFree (.ref (n+5)) >>= _) _ _ _;refine HL ?_;unfold Builtin.SmallTypes.ownedTupleIsFree
 refine HL (Ip gz rfl (x:=.none) rfl (HS ?_));simp only[JO]
 refine HL (JT (HL (Ip gz rfl (x:=.ref (n+4)) rfl (HL (IC gz (by simp) fun h₁ z1 q1=>?_)))))
 replace z1:IsZip h₁ (n+5) (n+3) (n+4) .ellipsis:=z1
 refine HL ?_;simp only[List.zipIdx_cons,List.zipIdx_nil,KQ,List.forIn_nil]
 refine HL (HL (JH ?_));show wpAny _ _ (Builtin.SmallTypes.nextOf (.ref n) >>= _) _ _ _
 refine HL (wj (g1.extBut q1.extBut (nn (by omega))) (t1.extBut q1.extBut (nn (by omega))) hx fun h₂ n1 q2=>HS ?_)
 have o2:bF h₂ (n+4) a b c:=q2.extBut _ _ (nn (by omega)) (q1.extBut _ _ (nn (by omega)) gO)
 refine HL (IA o2 rfl (HL (k_ o2 fun h₃ o3 q3=>?_)))
 replace o3:bF h₃ (n+4) x b c:=o3
 refine HL (Kl (HS ?_));refine HL (HL (JH ?_));show wpAny _ _ (Builtin.SmallTypes.nextOf (.ref (n+1)) >>= _) _ _ _
 refine HL (wj (((g2.extBut q1.extBut (nn (by omega))).extBut q2.extBut (nn (by omega))).extBut q3.extBut (nn (by omega))) (((t2.extBut q1.extBut (nn (by omega))).extBut q2.extBut (nn (by omega))).extBut q3.extBut (nn (by omega))) hy fun h₄ n2 q4=>HS ?_)
 have o4:bF h₄ (n+4) x b c:=q4.extBut _ _ (nn (by omega)) o3
 refine HL (IA o4 rfl (HL (k_ o4 fun h₅ o5 q5=>?_)))
 replace o5:bF h₅ (n+4) x y c:=o5
 refine HL (Kl (HS ?_));refine HL (HL (JH ?_));show wpAny _ _ (Builtin.SmallTypes.nextOf (.ref (n+2)) >>= _) _ _ _
 refine HL (wj (((((g3.extBut q1.extBut (nn (by omega))).extBut q2.extBut (nn (by omega))).extBut q3.extBut (nn (by omega))).extBut q4.extBut (nn (by omega))).extBut q5.extBut (nn (by omega))) (((((t3.extBut q1.extBut (nn (by omega))).extBut q2.extBut (nn (by omega))).extBut q3.extBut (nn (by omega))).extBut q4.extBut (nn (by omega))).extBut q5.extBut (nn (by omega))) hz fun h₆ n3 q6=>HS ?_)
 have o6:bF h₆ (n+4) x y c:=q6.extBut _ _ (nn (by omega)) o5
 refine HL (IA o6 rfl (HL (k_ o6 fun h₇ o7 q7=>?_)))
 replace o7:bF h₇ (n+4) x y z:=o7
 refine HL (Kl (HS (HS ?_)));refine HL (IA o7 rfl (HL (wpAny_newTuple ?_)))
 have sz:h₇.objs.size=s.heap.objs.size:=by rw[q7.1,q6.1,q5.1,q4.1,q3.1,q2.1,q1.1]
 have kk:∀c o,c≠n+5->c≠n+4->c≠n->c≠n+1->c≠n+2->s.heap.get? c=some o->h₇.get? c=some o:=fun c o c1 c2 c3 c4 c5 e=>q7.extBut _ _ c2 (q6.extBut _ _ c5 (q5.extBut _ _ c2 (q4.extBut _ _ c4 (q3.extBut _ _ c2 (q2.extBut _ _ c3 (q1.extBut _ _ c1 e))))))
 have z7:IsZip h₇ (n+5) (n+3) (n+4) .ellipsis:=q7.extBut _ _ (nn (by omega)) (q6.extBut _ _ (nn (by omega)) (q5.extBut _ _ (nn (by omega)) (q4.extBut _ _ (nn (by omega)) (q3.extBut _ _ (nn (by omega)) (q2.extBut _ _ (nn (by omega)) z1)))))
 have m1:Si kd h₇ n l1 (i+1):=((((n1.extBut q3.extBut (nn (by omega))).extBut q4.extBut (nn (by omega))).extBut q5.extBut (nn (by omega))).extBut q6.extBut (nn (by omega))).extBut q7.extBut (nn (by omega))
 have m2:Si kc h₇ (n+1) l2 (i+1):=((n2.extBut q5.extBut (nn (by omega))).extBut q6.extBut (nn (by omega))).extBut q7.extBut (nn (by omega))
 have m3:Si kc h₇ (n+2) l3 (i+1):=n3.extBut q7.extBut (nn (by omega))
 have zl:n+5 < h₇.objs.size:=HR z7
 show wpAny _ _ (Builtin.SmallTypes.ownedTupleHandOut (.ref (n+5)) (.ref h₇.objs.size) >>= _) _ _ _;refine HL ?_;unfold Builtin.SmallTypes.ownedTupleHandOut
 have z8:IsZip (h₇.push { cls:=.type "tuple",data:=.seq #[x,y,z] }) (n+5) (n+3) (n+4) .ellipsis:=HM _ z7
 refine HL (IC z8 (by simp) fun h₉ z9 q9=>?_)
 replace z9:IsZip h₉ (n+5) (n+3) (n+4) (rawInt h₇.objs.size):=z9
 refine IC z9 (by simp) fun g za qa=>?_
 replace za:IsZip g (n+5) (n+3) (n+4) (rawInt h₇.objs.size):=za
 have up:∀c o,c≠n+5->h₇.get? c=some o->g.get? c=some o:=fun c o c1 e=>qa.extBut _ _ c1 (q9.extBut _ _ c1 (HM _ e))
 have T8:bF g h₇.objs.size x y z:=qa.extBut _ _ (JM zl) (q9.extBut _ _ (JM zl) (HV _ rfl))
 rw[sz]at za T8
 refine HS ⟨_,rfl,?_⟩
 show Q (.ref h₇.objs.size) _
 rw[sz]
 exact k g za (up _ _ (nn (by omega)) o7) (m1.at fun o e=>up _ o (nn (by omega)) e) (m2.at fun o e=>up _ o (nn (by omega)) e) (m3.at fun o e=>up _ o (nn (by omega)) e) T8 fun c o c1 c2 c3 c4 c5 e=>up c o c1 (kk c o c1 c2 c3 c4 c5 e)
def mV{Q:Fin->Shared->Prop}(hh:A.handled=none)(d1:l1 < n)(gz:IsZip s.heap (n+5) (n+3) (n+4) .none)(gI:bF s.heap (n+3) (.ref n) (.ref (n+1)) (.ref (n+2)))
  (g1:Si kd s.heap n l1 i) (t1:Sq kd s.heap l1 xs) (hx:xs[i]?=none)
  (k:∀(g:Heap) (e:Addr),(∀c o,c≠n+5->c≠n+4->c≠n->c≠n+1->c≠n+2->s.heap.get? c=some o->g.get? c=some o)->(∃o,g.get? e=some o/\o.cls = .type "StopIteration")->E (.ref e) { s with heap:=g }) :
  wpAny (model prog w) A (Builtin.«zip.__next__» ⟨[.ref (n+5)],[]⟩) Q E s:=by
 show wpAny _ _ (field (.ref (n+5)) 2 >>= _) _ _ _;refine HL (Ip gz rfl (x:=.bool false) rfl ?_)
 show wpAny _ _ (field (.ref (n+5)) 3 >>= _) _ _ _;refine HL (Ip gz rfl (x:=.ref (n+3)) rfl (HL (IA gI rfl ?_)))
 show wpAny _ _ (Builtin.SmallTypes.ownedTupleIsFree (.ref (n+5)) >>= _) _ _ _;refine HL ?_;unfold Builtin.SmallTypes.ownedTupleIsFree
 refine HL (Ip gz rfl (x:=.none) rfl (HS ?_));simp only[JO]
 refine HL (JT (HL (Ip gz rfl (x:=.ref (n+4)) rfl (HL (IC gz (by simp) fun h₁ z1 q1=>?_)))))
 replace z1:IsZip h₁ (n+5) (n+3) (n+4) .ellipsis:=z1
 refine HL ?_;simp only[List.zipIdx_cons,List.zipIdx_nil,KQ,List.forIn_nil]
 refine HL (HL (JH ?_));show wpAny _ _ (Builtin.SmallTypes.nextOf (.ref n) >>= _) _ _ _
 refine HL (vh hh (g1.extBut q1.extBut (nn (by omega))) (t1.extBut q1.extBut (nn (by omega))) hx fun h₂ e q2 ⟨oe,ge,ce⟩=>?_)
 have z2:IsZip h₂ (n+5) (n+3) (n+4) .ellipsis:=q2 _ _ (nn (by omega)) z1
 have ez:e≠n+5:=fun u=>by subst u;rw[z2]at ge;cases ge;simp at ce
 exact IC z2 (by simp) fun h₃ _ q3=>k h₃ e (fun c o c1 _ c3 _ _ u=>q3.extBut _ _ c1 (q2 _ _ c3 (q1.extBut _ _ c1 u))) ⟨oe,q3.extBut _ _ ez ge,ce⟩
def hZ{Q:Option Value->Shared->Prop}(d1:l1 < n)(d2:l2 < n)(d3:l3 < n)(gz:IsZip s.heap (n+5) (n+3) (n+4) .none)(gI:bF s.heap (n+3) (.ref n) (.ref (n+1)) (.ref (n+2)))(gO:bF s.heap (n+4) a b c)
  (g1:Si kd s.heap n l1 i) (g2:Si kc s.heap (n+1) l2 i) (g3:Si kc s.heap (n+2) l3 i) (t1:Sq kd s.heap l1 xs) (t2:Sq kc s.heap l2 ys) (t3:Sq kc s.heap l3 zs) (hx:xs[i]?=some x) (hy:ys[i]?=some y) (hz:zs[i]?=some z)
  (k:∀g,IsZip g (n+5) (n+3) (n+4) (rawInt s.heap.objs.size)->bF g (n+4) x y z->Si kd g n l1 (i+1)->Si kc g (n+1) l2 (i+1)->Si kc g (n+2) l3 (i+1)->bF g s.heap.objs.size x y z->
   (∀c o,c≠n+5->c≠n+4->c≠n->c≠n+1->c≠n+2->s.heap.get? c=some o->g.get? c=some o)->Q (some (.ref s.heap.objs.size)) { s with heap:=g }):wpAny (model prog w) A (pyNext (.ref (n+5))) Q E s:=by
 have ty:s.TypeIs (.ref (n+5)) "zip":=⟨_,gz,rfl⟩
 unfold pyNext
 exact HL (wpAny_attempt (IG (name:=Str.ofString "__next__") ty Ju (Jp Ju ty KC
  (kQ d1 d2 d3 gz gI gO g1 g2 g3 t1 t2 t3 hx hy hz fun g a1 a2 a3 a4 a5 a6 a7=>HS (k g a1 a2 a3 a4 a5 a6 a7)) (Kv _))))
def i9{Q:Option Value->Shared->Prop}(hh:A.handled=none)(d1:l1 < n)(gz:IsZip s.heap (n+5) (n+3) (n+4) .none)(gI:bF s.heap (n+3) (.ref n) (.ref (n+1)) (.ref (n+2)))
  (g1:Si kd s.heap n l1 i) (t1:Sq kd s.heap l1 xs) (hx:xs[i]?=none)
  (k:∀g:Heap,(∀c o,c≠n+5->c≠n+4->c≠n->c≠n+1->c≠n+2->s.heap.get? c=some o->g.get? c=some o)->Q none { s with heap:=g }):wpAny (model prog w) A (pyNext (.ref (n+5))) Q E s:=by
 have ty:s.TypeIs (.ref (n+5)) "zip":=⟨_,gz,rfl⟩
 unfold pyNext
 refine HL (wpAny_attempt (IG (name:=Str.ofString "__next__") ty Ju (Jp Ju ty KC (mV hh d1 gz gI g1 t1 hx fun g e kk ⟨o,ho,hc⟩=>?_) (Kv _))))
 exact HL (wpAny_isInstance (T:="StopIteration") (b:=true) ⟨o,ho,hc⟩ isSubtype_stop (HS (k _ kk)))
end
def zW(a b c:Value):checkTypeCall "zip" ⟨[a,b,c],[]⟩=pure ():=by kernel_rfl
def zX(a b c:Value):checkBuiltinCall "zip.__new__" ⟨[.type "zip",a,b,c],[]⟩=pure ():=by kernel_rfl
def zY(a b c d:Value):argsOk "object.__init__" ⟨[a,b,c,d],[]⟩:=by
 unfold argsOk;rw[signature?_of (id:="object.__init__") (n:="__init__".toList.reverse) (o:="object".toList.reverse) (by kernel_rfl) F.owner_object];kernel_rfl
noncomputable abbrev K3(kd kc:Bool)(h:Heap)(l1 l2 l3:Addr):Heap:=((h.push (it kd l1)).push (it kc l2)).push (it kc l3)
noncomputable abbrev K4(kd kc:Bool)(h:Heap)(l1 l2 l3:Addr):Heap:=(K3 kd kc h l1 l2 l3).push { cls:=.type "tuple",data:=.seq #[.ref h.objs.size,.ref (h.push (it kd l1)).objs.size,.ref ((h.push (it kd l1)).push (it kc l2)).objs.size] }
noncomputable abbrev K5(kd kc:Bool)(h:Heap)(l1 l2 l3:Addr):Heap:=(K4 kd kc h l1 l2 l3).push { cls:=.type "tuple",data:=.seq #[.none,.none,.none] }
noncomputable abbrev K6(kd kc:Bool)(h:Heap)(l1 l2 l3:Addr):Heap:=(K5 kd kc h l1 l2 l3).push { cls:=.type "zip",data:=.fields #[.none,.bool false,.bool false,.ref (K3 kd kc h l1 l2 l3).objs.size,.ref (K4 kd kc h l1 l2 l3).objs.size] }
def h_(kd kc:Bool)(l1 l2 l3:Addr)(xs ys zs:Vw) :
  Meets (Builtin.«zip.__new__» ⟨[.type "zip",.ref l1,.ref l2,.ref l3],[]⟩) (fun _ R s=>Sq kd s.heap l1 xs/\Sq kc s.heap l2 ys/\Sq kc s.heap l3 zs/\R (.ok (.ret (.ref (K5 kd kc s.heap l1 l2 l3).objs.size))) { s with heap:=K6 kd kc s.heap l1 l2 l3 }):=
 .of_wp fun prog w A R s h=>by
  obtain⟨hp,g,d,tk,os⟩:=s;obtain⟨e1,e2,e3,h⟩:=h
  have hsub:=sub_zip
  cases kd with
  |false=>
   cases kc with
   |false=>
    have L1:Heap.IsTuple (Shared.heap ⟨hp,g,d,tk,os⟩) l1 xs:=e1
    have L2:Heap.IsTuple (Shared.heap ⟨hp.push { cls:=.type "tuple_iterator",data:=.fields #[.ref l1,.int 0 0] },g,d,tk,os⟩) l2 ys:=Jd e2 _
    have L3:Heap.IsTuple (Shared.heap ⟨(hp.push { cls:=.type "tuple_iterator",data:=.fields #[.ref l1,.int 0 0] }).push { cls:=.type "tuple_iterator",data:=.fields #[.ref l2,.int 0 0] },g,d,tk,os⟩) l3 zs:=Jd (Jd e3 _) _
    wp_walk using ID L1,ID L2,ID L3
    exact⟨_,rfl,h⟩
   |true=>
    have L1:Heap.IsTuple (Shared.heap ⟨hp,g,d,tk,os⟩) l1 xs:=e1
    have L2:Heap.IsList (Shared.heap ⟨hp.push { cls:=.type "tuple_iterator",data:=.fields #[.ref l1,.int 0 0] },g,d,tk,os⟩) l2 ys:=Jq e2 _
    have L3:Heap.IsList (Shared.heap ⟨(hp.push { cls:=.type "tuple_iterator",data:=.fields #[.ref l1,.int 0 0] }).push { cls:=.type "list_iterator",data:=.fields #[.ref l2,.int 0 0] },g,d,tk,os⟩) l3 zs:=Jq (Jq e3 _) _
    wp_walk using ID L1,II L2,II L3
    exact⟨_,rfl,h⟩
  |true=>
   cases kc with
   |false=>
    have L1:Heap.IsList (Shared.heap ⟨hp,g,d,tk,os⟩) l1 xs:=e1
    have L2:Heap.IsTuple (Shared.heap ⟨hp.push { cls:=.type "list_iterator",data:=.fields #[.ref l1,.int 0 0] },g,d,tk,os⟩) l2 ys:=Jd e2 _
    have L3:Heap.IsTuple (Shared.heap ⟨(hp.push { cls:=.type "list_iterator",data:=.fields #[.ref l1,.int 0 0] }).push { cls:=.type "tuple_iterator",data:=.fields #[.ref l2,.int 0 0] },g,d,tk,os⟩) l3 zs:=Jd (Jd e3 _) _
    wp_walk using II L1,ID L2,ID L3
    exact⟨_,rfl,h⟩
   |true=>
    have L1:Heap.IsList (Shared.heap ⟨hp,g,d,tk,os⟩) l1 xs:=e1
    have L2:Heap.IsList (Shared.heap ⟨hp.push { cls:=.type "list_iterator",data:=.fields #[.ref l1,.int 0 0] },g,d,tk,os⟩) l2 ys:=Jq e2 _
    have L3:Heap.IsList (Shared.heap ⟨(hp.push { cls:=.type "list_iterator",data:=.fields #[.ref l1,.int 0 0] }).push { cls:=.type "list_iterator",data:=.fields #[.ref l2,.int 0 0] },g,d,tk,os⟩) l3 zs:=Jq (Jq e3 _) _
    wp_walk using II L1,II L2,II L3
    exact⟨_,rfl,h⟩
section
variable {kd kc:Bool} {prog:Program} {w:World} {A:Around} {E:Vq} {s:Shared}
def i_{l1 l2 l3:Addr}{xs ys zs:Vw}{Q:Vq}(e1:Sq kd s.heap l1 xs)(e2:Sq kc s.heap l2 ys)(e3:Sq kc s.heap l3 zs)
  (k:∀g,IsZip g (s.heap.objs.size+5) (s.heap.objs.size+3) (s.heap.objs.size+4) .none->bF g (s.heap.objs.size+3) (.ref s.heap.objs.size) (.ref (s.heap.objs.size+1)) (.ref (s.heap.objs.size+2))->
   bF g (s.heap.objs.size+4) .none .none .none->Si kd g s.heap.objs.size l1 0->Si kc g (s.heap.objs.size+1) l2 0->Si kc g (s.heap.objs.size+2) l3 0->
   (∀c o,s.heap.get? c=some o->g.get? c=some o)->Q (.ref (s.heap.objs.size+5)) { s with heap:=g }) :
  wpAny (model prog w) A (call (.type "zip") [.ref l1,.ref l2,.ref l3]) Q E s:=by
 refine callType_new F.called_zip (by decide) (zW _ _ _) (zX _ _ _) (fun obj=>zY obj _ _ _) F.entry_zip_new (h_ kd kc l1 l2 l3 xs ys zs) ⟨e1,e2,e3,?_⟩
 have z1:(s.heap.push (it kd l1)).objs.size=s.heap.objs.size+1:=IW ..
 have z2:((s.heap.push (it kd l1)).push (it kc l2)).objs.size=s.heap.objs.size+2:=by rw[IW,z1]
 have z3:(K3 kd kc s.heap l1 l2 l3).objs.size=s.heap.objs.size+3:=by rw[IW,z2]
 have z4:(K4 kd kc s.heap l1 l2 l3).objs.size=s.heap.objs.size+4:=by rw[IW,z3]
 have z5:(K5 kd kc s.heap l1 l2 l3).objs.size=s.heap.objs.size+5:=by rw[IW,z4]
 have p:∀{h:Heap} {b:Addr} {o o':Obj},h.get? b=some o->(h.push o').get? b=some o:=fun e=>HM _ e
 have g6:(K6 kd kc s.heap l1 l2 l3).get? (K5 kd kc s.heap l1 l2 l3).objs.size=some _:=HV _ rfl
 have g5:(K6 kd kc s.heap l1 l2 l3).get? (K4 kd kc s.heap l1 l2 l3).objs.size=some _:=p (HV _ rfl)
 have g4:(K6 kd kc s.heap l1 l2 l3).get? (K3 kd kc s.heap l1 l2 l3).objs.size=some _:=p (p (HV _ rfl))
 have g3:(K6 kd kc s.heap l1 l2 l3).get? ((s.heap.push (it kd l1)).push (it kc l2)).objs.size=some _:=p (p (p (HV _ rfl)))
 have g2:(K6 kd kc s.heap l1 l2 l3).get? (s.heap.push (it kd l1)).objs.size=some _:=p (p (p (p (HV _ rfl))))
 have g1:(K6 kd kc s.heap l1 l2 l3).get? s.heap.objs.size=some _:=p (p (p (p (p (HV _ rfl)))))
 show _/\_
 rw[z3,z4,z5]at g6
 rw[z4]at g5
 rw[z1,z2,z3]at g4
 rw[z2]at g3
 rw[z1]at g2
 rw[z5]
 exact⟨⟨_,g6,rfl⟩,k _ g6 g4 g5 (.mk g1) (.mk g2) (.mk g3) fun c o x=>p (p (p (p (p (p x)))))⟩
end
end Zu
namespace L2
open PySem PySem.Spec PyProof.Rows
noncomputable def zn(kd kc:Bool)(K:Vo)(a b c:Addr):It:=
  ⟨fun i H=>∃xs ys zs x y z,jR kd K H a xs/\jR kc K H b ys/\jR kc K H c zs/\xs[i]?=some x/\ys[i]?=some y/\zs[i]?=some z,
   fun i H v H'=>∃p x y z,v = .ref p/\H p=none/\H'=upd H p (.tup [x,y,z])/\∀xs ys zs,jR kd K H a xs->jR kc K H b ys->jR kc K H c zs->xs[i]?=some x/\ys[i]?=some y/\zs[i]?=some z,
   fun i H=>∃xs,jR kd K H a xs/\xs.length<=i⟩
def qT{kd kc:Bool}{P:Program}{w:World}{K:Vo}{elts:List Expr}{k0:Nat}{Cr:Pos}{n a b c:Nat}(d1:a < n)(d2:b < n)(d3:c < n) :
  lR P w K (.Tuple elts k0 Cr) (zn kd kc K a b c) [n+5,n+3,n+4,n,n+1,n+2] (n+5) (fun i h=>IsZip h (n+5) (n+3) (n+4) .none/\Zu.bF h (n+3) (.ref n) (.ref (n+1)) (.ref (n+2))/\(∃x y z,Zu.bF h (n+4) x y z)/\Zt.Si kd h n a i/\Zt.Si kc h (n+1) b i/\Zt.Si kc h (n+2) c i) where
 mem:=by simp
 obj:=fun i h st c hc=>by
  obtain⟨gz,gI,⟨x,y,z,gO⟩,g1,g2,g3⟩:=st
  obtain⟨o1,_,e1,f1⟩:=g1.ob;obtain⟨o2,_,e2,f2⟩:=g2.ob;obtain⟨o3,_,e3,f3⟩:=g3.ob
  simp only[HZ,Ie,Je]at hc
  rcases hc with rfl|rfl|rfl|rfl|rfl|rfl
  ·exact⟨_,gz,fun v q=>by cases q⟩
  ·exact⟨_,gI,fun v q=>by cases q⟩
  ·exact⟨_,gO,fun v q=>by cases q⟩
  ·exact⟨_,e1,fun v q=>by rw[f1]at q;cases q⟩
  ·exact⟨_,e2,fun v q=>by rw[f2]at q;cases q⟩
  ·exact⟨_,e3,fun v q=>by rw[f3]at q;cases q⟩
 keep:=fun i h h' st k=>by
  obtain⟨gz,gI,⟨x,y,z,gO⟩,g1,g2,g3⟩:=st
  exact⟨k _ (by simp) _ gz,k _ (by simp) _ gI,⟨x,y,z,k _ (by simp) _ gO⟩,g1.at fun o e=>k _ (by simp) o e,g2.at fun o e=>k _ (by simp) o e,g3.at fun o e=>k _ (by simp) o e⟩
 item:=by
  intro X hP hw hK hc i pins s σ H E I hf st hg
  subst hP hw hK
  obtain⟨gz,gI,⟨ta,tb,tc,gO⟩,g1,g2,g3⟩:=st
  obtain⟨xs,ys,zs,x,y,z,DV,Ev,Gz,hx,hy,hz⟩:=hg
  obtain⟨ia,ra,pa⟩:=I.B6 DV
  obtain⟨ib,rb,pb⟩:=I.B6 Ev
  obtain⟨ic,rc,pc⟩:=I.B6 Gz
  obtain⟨u,hu,ru⟩:=ra.get hx
  obtain⟨v,hv,rv⟩:=rb.get hy
  obtain⟨t,ht,rt⟩:=rc.get hz
  refine Zu.hZ (kd:=kd) (kc:=kc) d1 d2 d3 gz gI gO g1 g2 g3 pa pb pc (x:=u) (y:=v) (z:=t) (by simpa using hu) (by simpa using hv) (by simpa using ht) fun g a1 a2 a3 a4 a5 a6 a7=>?_
  refine⟨_,rfl,wpAny_letOwnedTupleGo_zip (s:={ s with heap:=g }) a1 fun g' z' q'=>?_⟩
  have kk:∀c o,c ∉ ([n+5,n+3,n+4,n,n+1,n+2]:List Addr)->s.heap.get? c=some o->g'.get? c=some o:=fun c o hc e=>by
   simp only[HZ,Ie,Je,not_or]at hc
   exact q'.extBut _ _ hc.1 (a7 c o hc.1 hc.2.2.1 hc.2.2.2.1 hc.2.2.2.2.1 hc.2.2.2.2.2 e)
  have I1:Inv X pins σ H { s with heap:=g' }:=I.Cn (t':=s.toks) kk hf
  have f0:eN X pins H s.heap.objs.size:=I.CA (HN _) (I.hok.fresh (HN _))
  have eT:AM g' s.heap.objs.size [u,v,t].toArray:=⟨_,q'.extBut _ _ (JM (HR gz)) a6,rfl,rfl,_,rfl⟩
  have I2:=I1.Dz f0 eT (.cons ru (.cons rv (.cons rt .nil))) (by show 3<=sizeLine;decide)
  refine⟨.ref s.heap.objs.size,_,I2,rfl,⟨s.heap.objs.size,x,y,z,rfl,f0.1,rfl,fun xs' ys' zs' h1 h2 h3=>by rw[I.Bw h1 DV,I.Bw h2 Ev,I.Bw h3 Gz];exact⟨hx,hy,hz⟩⟩,
   ⟨z',q'.extBut _ _ (Zu.nn (by omega)) (a7 _ _ (Zu.nn (by omega)) (Zu.nn (by omega)) (Zu.nn (by omega)) (Zu.nn (by omega)) (Zu.nn (by omega)) gI),⟨_,_,_,q'.extBut _ _ (Zu.nn (by omega)) a2⟩,a3.extBut q'.extBut (Zu.nn (by omega)),a4.extBut q'.extBut (Zu.nn (by omega)),a5.extBut q'.extBut (Zu.nn (by omega))⟩,fun c hc=>?_⟩
  have hlt:c < s.heap.objs.size:=by
   obtain⟨_,_,e1,_⟩:=g1.ob
   obtain⟨_,_,e2,_⟩:=g2.ob
   obtain⟨_,_,e3,_⟩:=g3.ob
   simp only[HZ,Ie,Je]at hc
   rcases hc with rfl|rfl|rfl|rfl|rfl|rfl
   ·exact HR gz
   ·exact HR gI
   ·exact HR gO
   ·exact HR e1
   ·exact HR e2
   ·exact HR e3
  rw[az (Ik hlt)]
  exact(hf c hc).1
 done:=by
  intro X hP hw hK hc i pins s σ H E I hf st hg
  subst hP hw hK
  obtain⟨gz,gI,⟨ta,tb,tc,gO⟩,g1,g2,g3⟩:=st
  obtain⟨xs,DV,hl⟩:=hg
  obtain⟨ia,ra,pa⟩:=I.B6 DV
  have la:=ra.length
  refine Zu.i9 (kd:=kd) (I.ok.hd hc) d1 gz gI g1 pa (by simp;omega) fun g kk=>⟨rfl,I.Cn (t':=s.toks) (fun c o hc e=>?_) hf⟩
  simp only[HZ,Ie,Je,not_or]at hc
  exact kk c o hc.1 hc.2.2.1 hc.2.2.2.1 hc.2.2.2.2.1 hc.2.2.2.2.2 e
 self:=fun _ _ _ _ _ st h=>KD st.1 h
section
variable {X:Cx}
def zo(kd kc:Bool)(K:Vo)(ta:TA):TI:=fun σ H R=>ta σ H fun vs H1=>∃a b c,vs=[.ref a,.ref b,.ref c]/\(∃xs,jR kd K H1 a xs)/\(∃ys,jR kc K H1 b ys)/\(∃zs,jR kc K H1 c zs)/\R (zn kd kc K a b c) H1
def vE{kd kc:Bool}{elts:List Expr}{k0:Nat}{Cr:Pos}{a b c:Expr}{ta:TA}{p pos:Pos}(hg:Gl X "zip")(hm:X.mg "zip" = none)(hv:bootBuiltins "zip" = some (.type "zip"))(ha:PA X [a,b,c] ta)
  (hs:starEach [a,b,c] X.env=[(false,eval a X.env),(false,eval b X.env),(false,eval c X.env)]) (hs2:starEach [b,c] X.env=[(false,eval b X.env),(false,eval c X.env)]):PI X (.Tuple elts k0 Cr) (.Call (.Name "zip" p) [a,b,c] [] pos) (zo kd kc X.K ta):=by
 intro pins s σ H R I h
 refine Call_ (fR I hg hm hv (IQ (Ak (ha pos pins s σ H _ I h) fun us s1 ⟨vs,H1,I1,r1,q1⟩=>?_) (by rw[hs,hs2]) (by rw[hs2];rfl)))
 obtain⟨a,b,c,e,⟨xs,qa⟩,⟨ys,qb⟩,⟨zs,qc⟩,q⟩:=q1
 subst e
 obtain⟨u,us,rfl⟩:∃u us',us=u::us':=by cases r1;exact⟨_,_,rfl⟩
 cases r1 with
 |cons ru r1=>
 obtain⟨v,t,rfl,rv,rt⟩:=pW r1
 cases ru
 cases rv
 cases rt
 obtain⟨ia,ra,pa⟩:=I1.B6 qa
 obtain⟨ib,rb,pb⟩:=I1.B6 qb
 obtain⟨ic,rc,pc⟩:=I1.B6 qc
 have la:a < s1.heap.objs.size:=pa.lt
 have lb:b < s1.heap.objs.size:=pb.lt
 have lc:c < s1.heap.objs.size:=pc.lt
 refine Zu.i_ (kd:=kd) (kc:=kc) pa pb pc fun g gz gI gO g1 g2 g3 kk=>?_
 refine KD (s:={ s1 with heap:=g }) gz ?_
 refine⟨_,[s1.heap.objs.size+5,s1.heap.objs.size+3,s1.heap.objs.size+4,s1.heap.objs.size,s1.heap.objs.size+1,s1.heap.objs.size+2],_,_,H1,rfl,I1.kept (t':=s1.toks) kk,qT la lb lc,⟨gz,gI,⟨_,_,_,gO⟩,g1,g2,g3⟩,fun c hc=>?_,q⟩
 have hle:s1.heap.objs.size<=c:=by
  simp only[HZ,Ie,Je]at hc
  rcases hc with rfl|rfl|rfl|rfl|rfl|rfl
  ·exact Ja _ _
  ·exact Ja _ _
  ·exact Ja _ _
  ·exact HN _
  ·exact Ja _ _
  ·exact Ja _ _
 exact I1.CA hle (I1.hok.fresh hle)
end
end L2
namespace L3
open PySem L2
section
variable {X:Cx} {a b c:Expr} {ta tb tc:aX} {p pos:Pos}
noncomputable def xS(z:PV×PV×PV):PV:=.tup [z.1,z.2.1,z.2.2]
noncomputable def dN(xs ys zs:List PV):List PV:=(xs.zip (ys.zip zs)).map xS
def qU{K:Vo}{H0:Hp}{a b c:Addr}{vs us ws:List V}{xs ys zs:List PV}(h1:SqT K H0 a vs)(h2:SqT K H0 b us)(h3:SqT K H0 c ws)(r1:Reps K H0 vs xs)(r2:Reps K H0 us ys)(r3:Reps K H0 ws zs)(l12:xs.length<=ys.length)(l13:xs.length<=zs.length):iH K H0 (zn false false K a b c) ⟨dN xs ys zs,fun _=>True⟩:=by
 intro i S H g rS _
 have hv:=g.t _ _ h1
 have hu:=g.t _ _ h2
 have hw:=g.t _ _ h3
 have l1:=r1.length
 refine⟨fun p hp=>?_,fun hi=>⟨vs,hv,?_⟩⟩
 ·unfold dN at hp
  rw[Ia]at hp
  cases hz:(xs.zip (ys.zip zs))[i]? with
  |none=>rw[hz]at hp;cases hp
  |some z=>
   rw[hz]at hp
   cases hp
   obtain⟨e1,Hf⟩:=JC.mp hz
   obtain⟨e2,e3⟩:=JC.mp Hf
   obtain⟨v,hx',rv⟩:=r1.get e1
   obtain⟨u,hy',ru⟩:=r2.get e2
   obtain⟨t,hz',rt⟩:=r3.get e3
   refine⟨⟨vs,us,ws,v,u,t,hv,hu,hw,hx',hy',hz'⟩,fun x H' ⟨q,x2,y2,z2,e3,hq,e4,h⟩=>?_⟩
   subst e3 e4
   obtain⟨k1,k2,k3⟩:=h vs us ws hv hu hw
   rw[hx']at k1
   rw[hy']at k2
   rw[hz']at k3
   cases k1;cases k2;cases k3
   exact⟨.tup (SqT.of aA) (.cons ((rv.mono g).mono (.new hq)) (.cons ((ru.mono g).mono (.new hq)) (.cons ((rt.mono g).mono (.new hq)) .nil))),rS.other hq,.new hq⟩
 ·have e:(dN xs ys zs).length=min xs.length (min ys.length zs.length):=by simp[dN]
  rw[e]at hi
  omega
def qV(ta tb tc:aX):qR:=fun σ S R E=>ta σ S (fun v S1=>tb σ S1 (fun w S2=>tc σ S2 (fun x S3=>match v,w,x with
 | .tup xs,.tup ys,.tup zs=>xs.length<=ys.length/\xs.length<=zs.length/\R ⟨dN xs ys zs,fun _=>True⟩ S3
 |_,_,_=>False) E) E) E
def vF{elts:List Expr}{k0:Nat}{Cr:Pos}(hs:starEach [a,b,c] X.env=[(false,eval a X.env),(false,eval b X.env),(false,eval c X.env)])(hs2:starEach [b,c] X.env=[(false,eval b X.env),(false,eval c X.env)])(hg:Gl X "zip")(hm:X.mg "zip" = none)(hv:bootBuiltins "zip" = some (.type "zip"))(ha:kl X [a,b,c] [ta,tb,tc]) :
  tF X (.Tuple elts k0 Cr) (.Call (.Name "zip" p) [a,b,c] [] pos) (qV ta tb tc):=
 ⟨kZ (vE (kd:=false) (kc:=false) hg hm hv ha.ok hs hs2) fun σ H R ⟨σ3,S,R3,E3,rσ,rS,h,xo,k⟩=>⟨σ3,S,_,E3,rσ,rS,h,xo,fun v S1 v' H1 h1 rv At g1=>⟨σ3,S1,_,E3,rσ.mono g1,At,h1,xo.mono g1,fun w S2 w' H2 h2 rw' Cs g2=>⟨σ3,S2,_,E3,(rσ.mono g1).mono g2,Cs,h2,(xo.mono g1).mono g2,fun x S3 x' H3 h3 Hg Ew g3=>by
  split at h3
  ·cases rv with
   |tup hq rs=>
    cases rw' with
    |tup hq2 FX=>
     cases Hg with
     |tup GA Hh=>exact⟨_,_,_,rfl,⟨_,g3.t _ _ (g2.t _ _ hq)⟩,⟨_,g3.t _ _ hq2⟩,⟨_,GA⟩,k _ S3 _ H3 h3.2.2 (qU (g3.t _ _ (g2.t _ _ hq)) (g3.t _ _ hq2) GA ((rs.mono g2).mono g3) (FX.mono g3) Hh h3.1 h3.2.1) Ew ((g1.trans g2).trans g3)⟩
  ·exact h3.elim⟩⟩⟩⟩
end
end L3
namespace L2
open PySem PySem.Spec PyProof.Rows
def io:fillsNumberSlot (.type "tuple") "mul" = pure false:=
 PySem.fillsNumberSlot_seq (id:="tuple.__mul__") (r:=some (.builtin "tuple.__rmul__")) J4.lookup (by decide +kernel) F.slot_tuple_rmul.lookup (by decide +kernel)
def ld:seqRepeat? (.type "tuple")=pure (some (.builtin "tuple.__mul__")):=by
 unfold seqRepeat?
 rw[PySem.seqSlot_of (T:="tuple") (name:="__mul__") (id:="tuple.__mul__") J4.lookup (by decide +kernel),PySem.seqSlot_of (T:="tuple") (name:="__rmul__") (id:="tuple.__rmul__") F.slot_tuple_rmul.lookup (by decide +kernel)]
 rfl
def ji(a:Int)(t:Tok)(l:Addr)(its:Vw)(n:Nat)(dd:Option Addr)(sl:Array (Option Value)) :
  Meets (Builtin.«int.__rmul__» ⟨[.int a t,.ref l],[]⟩) (fun _ R s=>s.heap.get? l=some { cls:=.type "tuple",dict:=dd,data:=.seq its n,slots:=sl }/\R (.ok (.ret Value.notImplemented)) s):=
 .of_wp fun prog w A R s h=>by obtain⟨hp,g,d,tk,os⟩:=s;obtain⟨hl,h⟩:=h;wp_walk;exact⟨_,rfl,h⟩
def xT(l:Addr)(x:Value)(n:Nat)(dd:Option Addr)(sl:Array (Option Value))(t:Tok) :
  Meets (Builtin.«tuple.__mul__» ⟨[.ref l,.int 1 t],[]⟩) (fun _ R s=>s.heap.get? l=some { cls:=.type "tuple",dict:=dd,data:=.seq #[x] n,slots:=sl }/\R (.ok (.ret (.ref l))) s):=
 .of_wp fun prog w A R s h=>by
  obtain⟨hp,g,d,tk,os⟩:=s;obtain⟨hl,h⟩:=h
  have t1:=AutoSeq1.idx_int
  wp_walk using Ji hl
  exact⟨_,rfl,h⟩
def xU(l:Addr)(x:Value)(n:Nat)(dd:Option Addr)(sl:Array (Option Value))(t:Tok) :
  Meets (Builtin.«tuple.__mul__» ⟨[.ref l,.int 0 t],[]⟩) (fun _ R s=>s.heap.get? l=some { cls:=.type "tuple",dict:=dd,data:=.seq #[x] n,slots:=sl }/\R (.ok (.ret (.ref s.heap.objs.size))) { s with heap:=s.heap.push { cls:=.type "tuple",data:=.seq #[] } }):=
 .of_wp fun prog w A R s h=>by
  obtain⟨hp,g,d,tk,os⟩:=s;obtain⟨hl,h⟩:=h
  have t1:=AutoSeq1.idx_int
  wp_walk using Ji hl
  exact⟨_,rfl,h⟩
def nP(x:Value)(m:Nat):(List.replicate m (#[x]:Vw)).foldl (·++·) #[]=(List.replicate m x).toArray:=by
 have:=hJ [x] m []
 rw[IK]at this
 refine this.trans ?_
 rw[List.flatten_replicate_singleton]
def xV(l:Addr)(x:Value)(n:Nat)(dd:Option Addr)(sl:Array (Option Value))(k:Int)(t:Tok)(h2:2<=k)(hk:k<=2 ^ 20) :
  Meets (Builtin.«tuple.__mul__» ⟨[.ref l,.int k t],[]⟩) (fun _ R s=>s.heap.get? l=some { cls:=.type "tuple",dict:=dd,data:=.seq #[x] n,slots:=sl }/\R (.ok (.ret (.ref s.heap.objs.size))) { s with heap:=s.heap.push { cls:=.type "tuple",data:=.seq ((List.replicate k.toNat #[x]).foldl (·++·) #[]) } }):=
 .of_wp fun prog w A R s h=>by
  obtain⟨hp,g,d,tk,os⟩:=s;obtain⟨hl,h⟩:=h
  have t1:=AutoSeq1.idx_int
  have c1:¬((decide (k < -(2 ^ 63)) || decide (k>=2 ^ 63))=true):=by rw[Bool.or_eq_true,HP,HP];omega
  have c2:¬(((#[x]:Vw).isEmpty || k == 1)=true):=by
   have:(k == 1)=false:=by rw[KW];omega
   rw[this];simp
  have c3:¬((decide (k<=0) || (#[x]:Vw).isEmpty)=true):=by
   have:decide (k<=0)=false:=IJ (by omega)
   rw[this];simp
  have c4:¬(((#[x]:Vw).size:Int) * k > (2 ^ 63 - 1) / 8):=by show ¬((1:Int) * k > _);omega
  have sl:(2:Int) ^ 20<=(sizeLine:Int):=by decide
  have c5:¬(Builtin.Tuple.tupleTooMany (((#[x]:Vw).size:Int) * k)=true):=by show ¬(decide ((1:Int) * k > (sizeLine:Int))=true);rw[HP];omega
  wp_walk using Ji hl
  rw[if_neg c1]
  wp_walk using Ji hl
  rw[if_neg c2]
  wp_walk using Ji hl
  rw[if_neg c3]
  wp_walk using Ji hl
  rw[if_neg c4]
  wp_walk using Ji hl
  rw[if_neg c5]
  wp_walk using Ji hl
  have c6:¬((List.replicate k.toNat (#[x]:Vw)).foldl (·++·) #[]).size > sizeLine:=by
   rw[nP,HU,IF];have:=Int.toNat_of_nonneg (show 0<=k by omega);omega
  rw[if_neg c6]
  wp_walk using Ji hl
  exact⟨_,rfl,h⟩
section
variable {X:Cx}
def xW(H H':Hp):Prop:=∀c o,H c=some o->H' c=some o
def xX(K:Vo):R2:=fun x y H Q=>∃l k x0,x = .ref l/\y = .int k/\SqT K H l [x0]/\0<=k/\k<=2 ^ 20/\∀r H',xW H H'->SqT K H' r (List.replicate k.toNat x0)->Q (.ref r) H'
def tK:g7 X (binaryOp .Mult) (xX X.K):=by
 intro pins s σ H x y v u Q I rx ry h
 obtain⟨l,k,x0,rfl,rfl,hH,h1,h2,q⟩:=h
 cases rx
 obtain⟨t,rfl⟩:=ry
 obtain⟨its,r1,p1,_⟩:=I.tuple hH
 obtain⟨w,rfl,Hi⟩:=r1.one
 obtain⟨⟨cls,dd,data,sl⟩,ho,hc,n,hd⟩:=id p1
 simp only at hc hd
 subst hc hd
 have new:∀(ys:List V) (us:Vv),Vals ys us->ys.length<=sizeLine->ys=List.replicate k.toNat x0->∃v H1,Inv X pins σ H1 { s with heap:=s.heap.push { cls:=.type "tuple",data:=.seq us.toArray } }/\RelV v (.ref s.heap.objs.size)/\Q v H1:=fun ys us r hz e=>
  ⟨.ref s.heap.objs.size,_,I.laid (t':=s.toks) (o:=.tup ys) (fun b ob q=>HM _ q) (HN _) ⟨hz,_,r,AM.new _ _⟩,rfl,
   q _ _ (fun c o z=>by rw[az (aM z (I.hok.fresh (HN _)))];exact z) (by rw[<-e];exact SqT.of aA)⟩
 refine wpAny_binaryOp_repeat_ref (T:="tuple") (U:="int") (by decide) ⟨_,ho,rfl⟩ (fun s'=>typeIs_int s' k t) io F.fills_int_mul KP ld F.slot_int_index.lookup
  (JV KP (typeIs_int s k t) F.entry_int_rmul (F.args_int_rmul_2 _ _) (ji k t l _ n dd sl) ⟨ho,rfl,⟨_,ho,rfl⟩,?_⟩)
 by_cases k0:k=0
 ·subst k0
  exact JV J4 ⟨_,ho,rfl⟩ F.entry_tuple_mul (F.args_tuple_mul_2 _ _) (xU l w n dd sl t) ⟨ho,new [] [] .nil (IM _) rfl⟩
 by_cases k1:k=1
 ·subst k1
  exact JV J4 ⟨_,ho,rfl⟩ F.entry_tuple_mul (F.args_tuple_mul_2 _ _) (xT l w n dd sl t) ⟨ho,⟨.ref l,H,I,rfl,q l H (fun _ _ e=>e) hH⟩⟩
 ·refine JV J4 ⟨_,ho,rfl⟩ F.entry_tuple_mul (F.args_tuple_mul_2 _ _) (xV l w n dd sl k t (by omega) h2) ⟨ho,?_⟩
  rw[nP]
  have hz:(2:Nat) ^ 20<=sizeLine:=by decide
  have e:∀m:Nat,Vals (List.replicate m x0) (List.replicate m w):=fun m=>by
   induction m with
   |zero=>exact .nil
   |succ m ih=>rw[Iq,Iq];exact .cons Hi ih
  exact new _ _ (e k.toNat) (by rw[IF];omega) rfl
end
end L2
namespace L3
open PySem L2
section
variable {X:Cx}
def jj:R3:=fun x y S Q=>match x,y with
 | .tup [v],.int k=>0<=k/\k<=2 ^ 20/\Q (.tup (List.replicate k.toNat v)) S
 |_,_=>False
def lg:ie X (binaryOp .Mult) jj:=⟨fun pins s σ H x y v u Q I rx ry ⟨px,py,S,Q3,r1,r2,rS,q,k⟩=>by
 unfold jj at q
 split at q
 ·cases r2
  cases r1 with
  |tup hq rs=>
   cases rs with
   |cons r0 rn=>
    cases rn
    refine tK pins s σ H _ _ v u Q I rx ry ⟨_,_,_,rfl,rfl,hq,q.1,q.2.1,fun r H' hh hr=>k _ S _ H' q.2.2 (.tup hr ?_) (rS.grow hh) (.same hh)⟩
    have e:∀m:Nat,Reps X.K H (List.replicate m _) (List.replicate m _):=fun m=>by
     induction m with
     |zero=>exact .nil
     |succ m ih=>rw[Iq,Iq];exact .cons r0 ih
    exact(e _).mono (.same hh)
 ·exact q.elim⟩
end
end L3
namespace C
open PySem L2 L3
def fZ:bz:=(aC (aI [(aI [(c3 (.int 0)),(c3 (.int 1))]),(ah jj (aI [(c3 (.int 0))]) (ao dG [(v3 0)])),(ah jj (aI [(c3 (.int 0))]) (ao dG [(v3 0)]))]))
def jk(Co Ey:ay):bz:=(ai (aw 2 (bb (qV (ah af (v3 0) (c3 (.int 1))) (ah af (v3 0) (c3 (.int 2))) (ah af (v3 1) (c3 (.int 2)))) (.tp (.cons (.n 0) (.cons (.n 1) (.cons (.n 2) .nil)))) bZ (ao eV [(v3 1),(ah bp (v3 2) (v3 0))]) 3 []))
  (aC (aI [(ae Ey [(ah af (v3 0) (c3 (.int 0))),(ah af (v3 1) (c3 (.int 0)))]),(ae Co [(ah af (v3 0) (c3 (.int 1))),(ah af (v3 1) (c3 (.int 1)))]),(ao aK [(v3 2)])])))
def bC(AW AX CK s0 s1:ay):bz:=(ai (aw 3 (ae AW [(v3 0)]))
  (ai (cp (ba (v3 2)) (.n 4) (aw 3 (ae AX [(v3 3),(ae CK [(ae s1 [(v3 0),(ah af (v3 1) (c3 (.int 1))),(ah af (v3 4) (c3 (.int 1)))]),(ah af (v3 4) (c3 (.int 0)))])])))
  (aC (v3 3))))
def dO(AW A5 AX DB Cj s0 s1:ay):bz:=(ai (aw 3 (ah af (v3 1) (c3 (.int 0))))
  (ai (aw 4 (ae AW [(v3 0)]))
  (ai (bH (aR (ah (bv false) (v3 3) (c3 (.str "pay")))) (aC (aI [(ah af (v3 1) (c3 (.int 1))),(ah af (v3 4) (c3 (.int 1))),(ah af (v3 4) (c3 (.int 2)))])) a9)
  (ai (bH (aR (ah (bv false) (v3 3) (c3 (.str "put")))) (aC (aI [(ah af (v3 4) (c3 (.int 0))),(ae A5 [(v3 0),(ah af (v3 1) (c3 (.int 1))),(ah af (v3 1) (c3 (.int 2)))]),(ah af (v3 4) (c3 (.int 2)))])) a9)
  (ai (bH (aR (ah (bv false) (v3 3) (c3 (.str "then")))) (aC (ae AX [(ae s1 [(v3 0),(ah af (v3 1) (c3 (.int 1))),(ah af (v3 2) (c3 (.int 0)))]),(ae s1 [(v3 0),(ah af (v3 1) (c3 (.int 2))),(ah af (v3 2) (c3 (.int 1)))])])) a9)
  (ai (bH (aR (ah (bv false) (v3 3) (c3 (.str "often")))) (aC (ae s0 [(v3 0),(v3 1),(v3 2)])) a9)
  (ai (bH (aR (ah (nL true) (v3 3) (aI [(c3 (.str "either")),(c3 (.str "take"))]))) (aC (v3 4)) a9)
  (ai (aw 5 (ae s1 [(v3 0),(ae DB [(v3 1),(v3 2)]),(ah af (v3 2) (c3 (.int 1)))]))
  (ai (bH (jW (aR (ah (bv false) (v3 3) (c3 (.str "take")))) (aR (ah (bv false) (ah af (v3 2) (c3 (.int 0))) (c3 (.int 0))))) (aC (ae AX [(ae Cj [(v3 0),(v3 1)]),(v3 5)])) a9)
  (aC (v3 5)))))))))))
def lh(Dc:ay):bz:=(aC (ae Dc [(ah af (v3 0) (c3 (.int 0))),(ah af (ah af (ah af (v3 0) (c3 (.int 1))) (v3 1)) (c3 (.int 1))),(v3 2)]))
def b5(Ae CL Bl By:ay):bz:=(ai (bH (aR (ah (bv false) (ae Ae [(v3 0),(c3 (.int 2))]) (c3 (.int 0)))) (aC (ae CL [(v3 0),(c3 (.int 4)),(c3 (.int 4)),(c3 (.int 20))])) a9)
  (ai (aw 1 (ae Bl [(v3 0),(c3 (.int 8))]))
  (ai (aw 2 (ao aK [(cu (v3 1) qK (oK (ae Ae [(v3 0),(c3 (.int 5))])))]))
  (ai (aw 3 (ah aV (c3 (.int 1)) (ae Ae [(v3 0),(c3 (.int 4))])))
  (aC (aI [(v3 2),(ao aK [(bb (dH (v3 3)) (.n 0) bZ (aI [(ah af (v3 3) (ah aV (c3 (.int 4)) (v3 0))),(ae By [(v3 1),(v3 2),(cr [(c3 (.int 19))]),(c3 (.int 5))])]) 1 [0,2,1])])]))))))
def cw(Ae s0:ay):bz:=(ai (bH (aR (ah (bv false) (ah af (v3 1) (c3 (.int 0))) (c3 (.str "then")))) (ai (aw 4 (ae s0 [(v3 0),(ah af (v3 1) (c3 (.int 1))),(v3 2),(v3 3)]))
  (aC (aI [(v3 4),(ae s0 [(v3 0),(ah af (v3 1) (c3 (.int 2))),(v3 2),(v3 3)])]))) a9)
  (ai (bH (lM (aR (ah (bv false) (ah af (v3 1) (c3 (.int 0))) (c3 (.str "either")))) (aR (ah (bv false) (ah af (v3 1) (c3 (.int 0))) (c3 (.str "take"))))) (ai (aw 5 (ae Ae [(v3 0),(c3 (.int 2))]))
  (aC (aI [(v3 5),(ae s0 [(v3 0),(ah af (v3 1) (ah bp (v3 5) (c3 (.int 2)))),(v3 2),(v3 3)])]))) a9)
  (ai (aw 6 (cr []))
  (ai (cp (dH (ah cm (ae Ae [(v3 0),(c3 (.int 4))]) (ao gy [(ah (bv false) (ah af (v3 1) (c3 (.int 0))) (c3 (.str "often")))]))) (.n 7) (bH (aR (ah mG (ah af (v3 2) (c3 (.int 0))) (c3 (.int 0)))) (ai (il (ah bp (ah af (v3 2) (c3 (.int 0))) (c3 (.int 1))) (v3 2) (c3 (.int 0)))
  (ai (aw 8 (ah aV (c3 (.int 1)) (ae Ae [(v3 0),(ah af (cr [(c3 (.int 3)),(v3 3)]) (ae Ae [(v3 0),(c3 (.int 2))]))])))
  (dj (ko "list" bB (v3 6) [(aI [(v3 8),(ae s0 [(v3 0),(ah af (v3 1) (c3 (.int 1))),(v3 2),(v3 3)])])])))) a9))
  (aC (ao aK [(v3 6)]))))))
def cW(C5:ay):bz:=(ai (aw 2 (bb (dH (ao dG [(ah af (v3 0) (c3 (.int 1)))])) (.n 0) bZ (ah aV (ah af (ah af (v3 1) (c3 (.int 1))) (v3 0)) (ah af (ah af (v3 2) (c3 (.int 1))) (v3 0))) 1 [0,1]))
  (ai (aw 3 (bb (dH (ao dG [(ah af (v3 0) (c3 (.int 1)))])) (.n 0) bZ (ao eV [(ah af (ah af (v3 1) (c3 (.int 2))) (v3 0)),(ah bp (ah af (ah af (v3 2) (c3 (.int 2))) (v3 0)) (ah af (ah af (v3 1) (c3 (.int 1))) (v3 0)))]) 1 [0,1]))
  (aC (aI [(ae C5 [(ah af (v3 0) (c3 (.int 0))),(ah af (v3 1) (c3 (.int 0)))]),(v3 2),(v3 3)]))))
def ff(Ag:ay):bz:=(ai (aw 2 (aI [(aI [(c3 (.int 0)),(c3 (.int 1))]),(bb (ba (ah af (v3 0) (c3 (.int 1)))) (.n 0) bZ (c3 (.int 0)) 1 []),(bb (ba (ah af (v3 0) (c3 (.int 1)))) (.n 0) bZ (c3 (.int 0)) 1 [])]))
  (ai (fV (aR (ah mG (v3 1) (c3 (.int 0)))) (ai (bH (aR (ah (bv false) (ah eI (v3 1) (c3 (.int 2))) (c3 (.int 1)))) (aw 2 (ae Ag [(v3 2),(v3 0)])) a9)
  (ai (aw 0 (ae Ag [(v3 0),(v3 0)]))
  (aw 1 (ah eE (v3 1) (c3 (.int 2)))))))
  (aC (v3 2))))
def dP:bz:=(ai (aw 3 (bb (ba (v3 0)) (.n 0) bZ (ah cm (v3 2) (ao gy [(ah (bv false) (v3 0) (v3 1))])) 1 [1,2]))
  (aC (aI [(aI [(c3 (.int 0)),(c3 (.int 1))]),(v3 3),(bb (ba (v3 3)) (.n 0) bZ (ao eV [(c3 (.int 0)),(ah bp (c3 (.int 0)) (v3 0))]) 1 [])])))
def dQ(AC Ag Bz s0:ay):bz:=(ai (aw 3 (ae AC [(v3 0),(c3 (.str "")),(c3 (.int 0))]))
  (ai (aw 4 (ah af (v3 1) (c3 (.int 0))))
  (ai (bH (aR (ah (bv false) (v3 4) (c3 (.str "pay")))) (aC (aI [(ah af (v3 1) (c3 (.int 1))),(ah af (v3 3) (c3 (.int 1))),(ah af (v3 3) (c3 (.int 2)))])) a9)
  (ai (bH (aR (ah (bv false) (v3 4) (c3 (.str "put")))) (aC (ae AC [(v3 0),(ah af (v3 1) (c3 (.int 1))),(ah af (v3 1) (c3 (.int 2)))])) a9)
  (ai (bH (aR (ah (bv false) (v3 4) (c3 (.str "then")))) (aC (ae Ag [(ae s0 [(v3 0),(ah af (v3 1) (c3 (.int 1))),(ah af (v3 2) (c3 (.int 0)))]),(ae s0 [(v3 0),(ah af (v3 1) (c3 (.int 2))),(ah af (v3 2) (c3 (.int 1)))])])) a9)
  (ai (bH (lM (aR (ah (bv false) (v3 4) (c3 (.str "either")))) (aR (ah (bv false) (v3 4) (c3 (.str "take"))))) (ai (bH (jW (aR (ah (bv false) (v3 4) (c3 (.str "take")))) (aR (ah (bv false) (ah af (v3 2) (c3 (.int 0))) (c3 (.int 0))))) (aw 3 (ae AC [(v3 0),(ah af (v3 1) (c3 (.int 1))),(ah bp (c3 (.int 0)) (ah af (v3 1) (c3 (.int 2))))])) a9)
  (aC (ae Ag [(v3 3),(ae s0 [(v3 0),(ah af (v3 1) (ah bp (ah af (v3 2) (c3 (.int 0))) (c3 (.int 2)))),(ah af (v3 2) (c3 (.int 1)))])]))) a9)
  (ai (bH (aR (ah (bv false) (v3 4) (c3 (.str "often")))) (cp (ba (v3 2)) (.tp (.cons (.n 5) (.cons (.n 6) .nil))) (aw 3 (ae Ag [(v3 3),(ae Bz [(ae s0 [(v3 0),(ah af (v3 1) (c3 (.int 1))),(v3 6)]),(v3 5)])]))) a9)
  (aC (v3 3)))))))))
def b6(AW AX DZ CK s0:ay):bz:=(ai (aw 2 (ae AW [(ah af (v3 0) (c3 (.int 0)))]))
  (ai (cp (ba (v3 1)) (.n 3) (bH (aR (ah (bv false) (ah af (v3 3) (c3 (.int 0))) (c3 (.str "do")))) (aw 2 (ae AX [(v3 2),(ae DZ [(v3 0),(ah af (v3 3) (c3 (.int 1))),(ah af (v3 3) (c3 (.int 2)))])])) (aw 2 (ae AX [(v3 2),(ae CK [(ae s0 [(v3 0),(ah af (v3 3) (c3 (.int 2)))]),(ah af (v3 3) (c3 (.int 1)))])]))))
  (aC (v3 2))))
def bU(Co Bm s0:ay):bz:=(ai (aw 2 (ah jj (aI [(c3 (.int 0))]) (ao dG [(ah af (v3 0) (c3 (.int 1)))])))
  (ai (cp (ba (v3 1)) (.n 3) (bH (aR (ah (bv false) (ah af (v3 3) (c3 (.int 0))) (c3 (.str "do")))) (ai (aw 4 (ao aK [(bb (dH (ao dG [(v3 2)])) (.n 0) bZ (oJ (aR (ah (bv false) (v3 0) (ah af (v3 1) (c3 (.int 1))))) (c3 (.int 1)) (c3 (.int 0))) 1 [3])]))
  (aw 2 (ae Co [(v3 2),(v3 4)]))) (aw 2 (ae Co [(v3 2),(ae Bm [(ae s0 [(v3 0),(ah af (v3 3) (c3 (.int 2)))]),(ah af (v3 3) (c3 (.int 1)))])]))))
  (aC (v3 2))))
def cX(B8 BX:ay):bz:=(ai (aw 2 (ae B8 [(v3 0),(v3 1)]))
  (aC (aI [(ah af (v3 2) (c3 (.int 0))),(ae BX [(v3 0),(v3 1)]),(ah af (v3 2) (c3 (.int 1))),(ah af (v3 2) (c3 (.int 2)))])))
def fg(Ae Ck s0:ay):bz:=(ai (aw 5 (cr []))
  (ai (cp (dH (ah aV (c3 (.int 1)) (ae Ae [(v3 0),(c3 (.int 3))]))) (.n 6) (ai (il (ah bp (ah af (v3 2) (c3 (.int 0))) (c3 (.int 1))) (v3 2) (c3 (.int 0)))
  (bH (jW (aR (ah mG (v3 3) (c3 (.int 0)))) (jW (aR (ah mG (ah af (v3 2) (c3 (.int 0))) (c3 (.int 0)))) (aR (ah (bv false) (ae Ae [(v3 0),(c3 (.int 3))]) (c3 (.int 0)))))) (ai (aw 7 (ah aV (c3 (.int 1)) (ae Ae [(v3 0),(ah af (cr [(c3 (.int 4)),(v3 4)]) (ae Ae [(v3 0),(c3 (.int 2))]))])))
  (dj (ko "list" bB (v3 5) [(aI [(c3 (.str "again")),(v3 7),(ae s0 [(v3 0),(v3 1),(v3 2),(ah bp (v3 3) (c3 (.int 1))),(v3 4)])])]))) (bH (lM (aR (ah uh (ah af (v3 2) (c3 (.int 0))) (c3 (.int 0)))) (aR (ah (bv false) (v3 5) (cr [])))) (ai (aw 8 (ae Ae [(v3 0),(ao dG [(ah af (v3 1) (c3 (.int 1)))])]))
  (dj (ko "list" bB (v3 5) [(aI [(c3 (.str "do")),(v3 8),(ae Ck [(v3 0),(ah af (ah af (ah af (v3 1) (c3 (.int 1))) (v3 8)) (c3 (.int 1))),(cr [(c3 (.int 3))]),(ah af (cr [(c3 (.int 3)),(v3 4)]) (ae Ae [(v3 0),(c3 (.int 2))]))])])]))) a9))))
  (aC (ao aK [(v3 5)]))))
end C
namespace Zv
open PySem
open Sem (wp)
end Zv
namespace L2
open PySem PySem.Spec PyProof.Rows
end L2
namespace L3
open PySem L2
end L3
namespace L2
open PySem PySem.Spec PyProof.Rows
end L2
namespace L3
open PySem L2
end L3
namespace C
open PySem L2 L3
end C
namespace L3
open PySem L2 Xc
end L3
namespace L3
open PySem L2
end L3
namespace L2
open PySem PySem.Spec PyProof.Rows Xc
end L2
namespace L3
open PySem L2 Xc
section
variable {P:Program} {w:World} {K:Vo} {mg:Vr} {base:Heap}
structure a_ (K:Vo) (mg:Vr) (x:Str) (st:Stmt) (ps:Vs):Prop where
 ex:∃f fd,yz K mg x st ps f fd
structure AJ (P:Program) (w:World) (K:Vo) (mg:Vr) (base:Heap) (k:Nat) (x:Str) (n:Nat) (sp:ay):Prop where
 ex:∃f fd ps,ps.length=n/\Ex P w K mg base k f fd ps sp/\mg x=some (.ref f)/\PySem.W.keepIn K (.ref f)=true/\Binds K fd ps []
def dR{x:Str}{st:Stmt}{ps:Vs}{k n:Nat}{t:bz}{sp:ay}(N:Vs)(O:a_ K mg x st ps)
  (hbody:∀(f:Addr) (cdv:Value) (A:Around) (outer:List Env) (s:Shared) (H:Hp) (E:XK),Room k (A.deeper (PyProof.Rows.envOfC x (aH st) s.heap.objs.size f cdv))->N.Nodup->jb (zk P w K mg base N x st f cdv A outer s H E) (bJ st) t) (e:sp=aY N.length t)
  (hn:ps.length=n:=by rfl) (S:fx N ps (aH st):=by exact⟨rfl,rfl,rfl,by decide +kernel,rfl,by decide +kernel,by decide +kernel⟩):AJ P w K mg base (k+1) x n sp:=by
 subst e
 obtain⟨f,fd,o⟩:=O.ex
 exact⟨f,fd,ps,hn,zE o.F S fun cdv A outer s H E hr=>hbody f cdv A outer s H E hr S.nd,o.m,o.k,o.b⟩
def zZ{x:Str}{st:Stmt}{ps:Vs}{k:Nat}{t:bz}{sp:ay}{f:Addr}{fd:FuncData}(N:Vs)(o:yz K mg x st ps f fd)
  (hbody:∀(f:Addr) (cdv:Value) (A:Around) (outer:List Env) (s:Shared) (H:Hp) (E:XK),Room k (A.deeper (PyProof.Rows.envOfC x (aH st) s.heap.objs.size f cdv))->N.Nodup->jb (zk P w K mg base N x st f cdv A outer s H E) (bJ st) t) (e:sp=aY N.length t)
  (S:fx N ps (aH st):=by exact⟨rfl,rfl,rfl,by decide +kernel,rfl,by decide +kernel,by decide +kernel⟩):Ex P w K mg base (k+1) f fd ps sp:=by
 subst e
 exact zE o.F S fun cdv A outer s H E hr=>hbody f cdv A outer s H E hr S.nd
def nQ:ay:=fun _ _ _ _=>False
theorem AJ.zero{x:Str}{st:Stmt}{ps:Vs}{k n:Nat}(O:a_ K mg x st ps)(hn:ps.length=n:=by rfl):AJ P w K mg base k x n nQ:=by
 obtain⟨f,fd,o⟩:=O.ex
 exact⟨f,fd,ps,hn,.zero rfl,o.m,o.k,o.b⟩
theorem jm{b n:Nat}{x:Str}{st:Stmt}{ps:Vs}{r:Nat->ay}(O:a_ K mg x st ps)(h:∀j,AJ P w K mg base (b+j) x n (r j)->AJ P w K mg base (b+j+1) x n (r (j+1)))(h0:r 0=nQ)(hn:ps.length=n:=by rfl):∀j,AJ P w K mg base (b+j) x n (r j)
 |0=>by rw[h0];exact .zero O hn
 |j+1=>h j (jm O h h0 hn j)
end
section
variable {X:Cx} {a b e o:Expr} {es:List Expr} {ta tb te to:aX} {ts:List aX} {x c m f:Str} {p pos apos cpos:Pos} {j k n:Nat} {sp:ay}
def c4(O:AJ X.prog X.w X.K X.mg X.base k x n sp)(hr:Room j X.A)(ha:kl X (e::es) ts)(hj:k<=j:=by omega)(hl:ts.length=n:=by rfl)(hg:Gl X x:=by rfl)(he:starEach (e::es) X.env=(false,eval e X.env)::starEach es X.env:=by rfl)(hdb:(x == ("__debug__":Str))=false:=by decide)(hpl:(backTo pos (starEach es X.env)).any (·.1)=false:=by rfl) :
  bu X (.Call (.Name x p) (e::es) [] pos) (ae sp ts):=by
 obtain⟨f,fd,ps,hn,F,h1,h2,h3⟩:=O.ex
 exact vA F (hr.mono hj) hg h1 h2 h3 he ha (hl.trans hn.symm) hdb hpl
def cB{id:String}{r:nM}(hc:fN X (.builtin id) r)(hm:X.mg x=none)(ha:kl X (e::es) ts)(hg:Gl X x:=by rfl)(hv:bootBuiltins x=some (.builtin id):=by decide +kernel)(he:starEach (e::es) X.env=(false,eval e X.env)::starEach es X.env:=by rfl)
  (hnn:x ≠ "__name__":=by decide) (hdb:(x == ("__debug__":Str))=false:=by decide) (hpl:(backTo pos (starEach es X.env)).any (·.1)=false:=by rfl):bu X (.Call (.Name x p) (e::es) [] pos) (ao r ts):=tt hc hg hm hv he ha hnn hdb hpl
def cT{id:String}{r:nM}(hc:fN X (.type id) r)(hm:X.mg x=none)(ha:kl X (e::es) ts)(hg:Gl X x:=by rfl)(hv:bootBuiltins x=some (.type id):=by decide +kernel)(he:starEach (e::es) X.env=(false,eval e X.env)::starEach es X.env:=by rfl)
  (hnn:x ≠ "__name__":=by decide) (hdb:(x == ("__debug__":Str))=false:=by decide) (hpl:(backTo pos (starEach es X.env)).any (·.1)=false:=by rfl):bu X (.Call (.Name x p) (e::es) [] pos) (ao r ts):=tw hc hg hm hv he ha hnn hdb hpl
def lc{r:List Expr}(ha:bu X a ta)(hr:kl X r ts)(hs:starEach (a::r) X.env=(false,eval a X.env)::starEach r X.env:=by rfl):kl X (a::r) (ta::ts):=qE hs ha hr
def l1(ha:bu X a ta)(hs:starEach [a] X.env=(false,eval a X.env)::starEach [] X.env:=by rfl):kl X [a] [ta]:=qE hs ha jc
def aE{i:Int}{q:Nat}{p2:Pos}(hr:Room j X.A)(ha:bu X a ta)(hs:iS (.Constant (.int i) q p2):=by exact fun _ _=>rfl):bu X (.Subscript a (.Constant (.int i) q p2) pos) (ah af ta (c3 (.int i))):=xJ (zD (sd hr)) ha aa hs
def eF(hr:Room j X.A)(ha:bu X a ta)(hb:bu X b tb)(hs:iS b:=by exact fun _ _=>rfl):bu X (.Subscript a b pos) (ah af ta tb):=xJ (zD (sd hr)) ha hb hs
def dS(hr:Room j X.A)(ha:bu X a ta)(hb:bu X b tb):mY X (.Compare a [.Eq] [b] pos) (aR (ah (bv false) ta tb)):=bw (l4 (iI hr)) ha hb (aQ _)
def zF(hr:Room j X.A)(ha:bu X a ta)(hb:bu X b tb):mY X (.Compare a [.NotEq] [b] pos) (aR (ah (bv true) ta tb)):=bw (xH (iI hr)) ha hb (aQ _)
def s4(i:Nat){pos':Pos}(nd:X.N.Nodup)(he:bu X e te)(hi:X.N[i]?=some x:=by rfl)(hx:tZ X.env.scope x:=by first|exact Or.inl rfl|exact Or.inr rfl)(hs:swapsWith e (some (.Name x pos')) pos.line X.env=pure false:=by rfl)
  (hf:X.fn x=true\/X.env.scope.names.lookup x=some .local:=by first|exact .inl rfl|exact .inr rfl|assumption):mZ X (.Assign [.Name x pos'] e pos) (aw i te):=xN nd hi hx he hs hf
def gn(i:Nat)(nd:X.N.Nodup)(hi:X.N[i]?=some x:=by rfl)(hx:tZ X.env.scope x:=by first|exact Or.inl rfl|exact Or.inr rfl)(hf:X.fn x=true\/X.env.scope.names.lookup x=some .local:=by first|exact .inl rfl|exact .inr rfl|assumption):sa X (.Name x pos) (.n i):=zV i nd hi hx hf
end
structure wq (T:String) (name:Str) (id:String):Prop where
 pa:PlainAttrs T
 slot:Slot T name id
 ty:typeOf (.builtin id)=pure (.type "method_descriptor")
section
variable {X:Cx} {e o:Expr} {es:List Expr} {to:aX} {ts:List aX} {name:Str} {T id:String} {p pos apos cpos:Pos} {r:r_}
def dt:wq "list" "append" "list.append":=⟨PySem.F.plainAttrs_list,PySem.F.slot_list_append,PySem.F.type_list_append⟩
def vG:wq "list" "pop" "list.pop":=⟨PySem.F.plainAttrs_list,PySem.F.slot_list_pop,PySem.F.type_list_pop⟩
def nR:wq "str" "join" "str.join":=⟨PySem.F.plainAttrs_str,PySem.F.slot_str_join,PySem.F.type_str_join⟩
def qW:wq "str" "index" "str.index":=⟨PySem.F.plainAttrs_str,PySem.F.slot_str_index,PySem.F.type_str_index⟩
def ul(k:wq T name id)(hm:ue X id r)(ho:bu X o to)(ha:kl X (e::es) ts)(hs:starEach (e::es) X.env=(false,eval e X.env)::starEach es X.env:=by rfl)
  (hbase:attributeBase o name X.env (eval o X.env)=eval o X.env:=by rfl)
  (hfew:((backTo cpos (starEach (e::es) X.env)).all (fun x=>!x.1)&&(backToKw cpos (keywordEach [] X.env)).all (fun x=>x.1.isSome)
   && decide ((e::es).length+([]:List Keyword).length+(if ([]:List Keyword).isEmpty then 0 else 1) < 30))=true:=by rfl)
  (hline:(apos.endLine == cpos.line)=true:=by rfl) (hplain:(backTo cpos (starEach es X.env)).any (·.1)=false:=by rfl):bu X (.Call (.Attribute o name apos) (e::es) [] cpos) (ko T r to ts):=zg k.pa k.slot k.ty hm hs ho ha hbase hfew hline hplain
def zp(k:wq T name id)(hm:ue X id r)(ho:bu X o to)
  (hbase:attributeBase o name X.env (eval o X.env)=eval o X.env:=by rfl) (hline:(apos.endLine == cpos.line)=true:=by rfl):bu X (.Call (.Attribute o name apos) [] [] cpos) (ko T r to []):=xL k.pa k.slot k.ty hm ho hbase hline
end
section
variable {X:Cx} {tg iter elt:Expr} {ifs:List Expr} {scope:Scope} {pos:Pos} {ti:qR} {g:Tg} {tc:iP} {te:aX}
def pJ(fs:Vs)(own:Nat)(fr:List Nat)(N:Vs)(hi:tF X tg iter ti)(hg:∀B,sa (X.BE N scope fs B) tg g)(hf:∀B,wo (X.BE N scope fs B) ifs tc)(he:∀B,bu (X.BE N scope fs B) elt te)
  (DX:g.under own=true:=by rfl) (hc:X.calm=true:=by rfl) (hclos:closureFor scope X.env=pure (bX X.env fs):=by rfl) (hcell:∀y∈scope.names,y.2 ≠ .cell:=by decide +kernel) (hkind:scope.kind = .function:=by rfl)
  (hnames:∀x∈scope.names,x.2 = .local->scope.names.lookup x.1=some .local:=by decide +kernel) (hcl:bP X.env fs:=by repeat' first|exact trivial|exact⟨_,rfl⟩|constructor) (hhas:kO (relabel scope X.env).names (bX X.env fs)=true:=by rfl)
  (hlen:N.length=own+fr.length:=by rfl) (hN:(N.drop own).map some=fr.map (fun j=>X.N[j]?):=by rfl) (hF:AN X.env scope (bX X.env fs) (N.drop own):=by repeat' first|exact trivial|exact .inl rfl|exact .inr rfl|exact rfl|apply And.intro)
  (hs:∀x,foldedSetIterable iter X.env x=pure x:=by intro _;rfl):bu X (.ListComp elt [⟨tg,iter,ifs,0⟩] scope pos) (bb ti g tc te own fr):=vy fs own fr N DX hc hclos hcell hkind hnames hcl hhas hlen hN hF hi hg hf he hs
def vH(fs:Vs)(own:Nat)(fr:List Nat)(N:Vs)(i:Nat){y:Str}{py spos:Pos}(hX:X.N.Nodup)(hi:tF X tg iter ti)(hg:∀B,sa (X.BE N scope fs B) tg g)(hf:∀B,wo (X.BE N scope fs B) ifs tc)(he:∀B,bu (X.BE N scope fs B) elt te)
  (hix:X.N[i]?=some y:=by rfl) (hy:X.env.scope.names.lookup y=some .local:=by rfl) (hsw:swapsWith (.ListComp elt [⟨tg,iter,ifs,0⟩] scope pos) (some (.Name y py)) spos.line X.env=pure true:=by rfl)
  (DX:g.under own=true:=by rfl) (hc:X.calm=true:=by rfl) (hclos:closureFor scope X.env=pure (bX X.env fs):=by rfl) (hcell:∀y∈scope.names,y.2 ≠ .cell:=by decide +kernel) (hkind:scope.kind = .function:=by rfl)
  (hnames:∀x∈scope.names,x.2 = .local->scope.names.lookup x.1=some .local:=by decide +kernel) (hcl:bP X.env fs:=by repeat' first|exact trivial|exact⟨_,rfl⟩|constructor) (hhas:kO (relabel scope X.env).names (bX X.env fs)=true:=by rfl)
  (hlen:N.length=own+fr.length:=by rfl) (hN:(N.drop own).map some=fr.map (fun j=>X.N[j]?):=by rfl) (hF:AN X.env scope (bX X.env fs) (N.drop own):=by repeat' first|exact trivial|exact .inl rfl|exact .inr rfl|exact rfl|apply And.intro)
  (hs:∀x,foldedSetIterable iter X.env x=pure x:=by intro _;rfl):mZ X (.Assign [.Name y py] (.ListComp elt [⟨tg,iter,ifs,0⟩] scope pos) spos) (aw i (bb ti g tc te own fr)):=vz fs own fr N hX hix hy hsw DX hc hclos hcell hkind hnames hcl hhas hlen hN hF hi hg hf he hs
end
end L3
namespace L2
open PySem PySem.Spec PyProof.Rows
end L2
namespace L3
open PySem L2
end L3
namespace CY
open PySem L2 L3
end CY
namespace L3
open PySem L2
theorem md:∀{a b:List Char},a.map Char.toNat=b.map Char.toNat->a=b
 |[],[],_=>rfl
 |[],_::_,h=>by simp at h
 |_::_,[],h=>by simp at h
 |x::a,y::b,h=>by
  simp only[Ir,List.cons.injEq]at h
  rw[md h.2,Char.toNat_inj.mp h.1]
def aG{a b:String}:(Str.ofString a=Str.ofString b)↔a=b:=by
 refine⟨fun h=>?_,fun h=>by rw[h]⟩
 rw[Str.ofString_eq_toList,Str.ofString_eq_toList]at h
 have h':a.toList.map Char.toNat=b.toList.map Char.toNat:=by
  have:=IS (fun s:Str=>s.cps.toList) h
  simpa using this
 exact String.toList_inj.mp (md h')
def qX{i j:Int}(h1:-(2 ^ 64) < i)(h2:i < 2 ^ 64):IntMulOk i j:=(show DT i j from .inl ⟨h1,h2⟩).ok
def jo{i j:Int}(h1:-(2 ^ 64) < j)(h2:j < 2 ^ 64):IntMulOk i j:=(show DT i j from .inr ⟨h1,h2⟩).ok
def fh{i j:Int}(h:0<=j):i.fmod j=i % j:=Int.fmod_eq_emod_of_nonneg i h
def um{i j:Int}(h:0<=j):i.fdiv j=i / j:=Int.fdiv_eq_ediv_of_nonneg i h
def vI{i j:Int}(h:0 < j)(h2:j < 2 ^ 64):km i j:=⟨by omega,K2 (show j.natAbs < 2 ^ 64 by omega) (JX (by decide) (by decide))⟩
def AI(d l:Addr)(S S':av):Prop:=∀a o,S a=some o->a≠d->a≠l->S' a=some o
def AI.refl{d l:Addr}{S:av}:AI d l S S:=fun _ _ h _ _=>h
def AI.trans{d l:Addr}{S S1 S2:av}(a:AI d l S S1)(b:AI d l S1 S2):AI d l S S2:=fun x o h h1 h2=>b x o (a x o h h1 h2) h1 h2
def AI.upd{d l:Addr}{S:av}{o:SO}:AI d l S (am S d o):=fun x u h h1 h2=>by rw[ak h1];exact h
def AI.Hj{d l:Addr}{S:av}{o:SO}:AI d l S (am S l o):=fun x u h h1 h2=>by rw[ak h2];exact h
def AI.new{d l p:Addr}{S:av}{o:SO}(h:S p=none):AI d l S (am S p o):=fun x u hx h1 h2=>by rw[ak (fun e=>by rw[e,h]at hx;cases hx)];exact hx
end L3
local macro_rules | `(tactic| walk_at "x")=>`(tactic| ((try dsimp only [L3.ai,L3.aw,L3.aC,L3.dj,L3.bH,L3.a9,L3.ah,L3.v3,L3.c3,L3.lk,L3.bR,L3.ao,L3.ae,L3.ko,L3.aR,L3.jW,L3.lM,L3.qG,L3.oJ,L3.il,L3.oP,L3.je,L3.aI,L3.cr,L3.pH,L3.iQ,L3.af,L3.m8,L3.cu,L3.qK,L3.oK,L3.oM,L3.dE,L3.fM,L3.bp,L3.eI,L3.eE,L3.oV,L3.pI,L3.mG,L3.uh,L3.bv,L3.aV,L3.cm,L3.dG,L3.oN,L3.eV,L3.gy,L3.aK,L3.m7,List.set_cons_zero,List.set_cons_succ,List.set_nil,L3.wm,L3.fU,L3.oO,L3.bb,L3.ba,L3.eX,L3.cp,L3.k4,L3.Tg.put,L3.Tg.A7,L3.oQ,L3.l9,L3.im,L3.l_,L3.dH,L3.oS,L3.bB,List.reduceReplicate,List.map_cons,List.map_nil,List.cons_append,List.nil_append]); (try simp only [L3.ai,L3.aw,L3.aC,L3.dj,L3.bH,L3.a9,L3.ah,L3.v3,L3.c3,L3.lk,L3.bR,L3.ao,L3.ae,L3.ko,L3.aR,L3.jW,L3.lM,L3.qG,L3.oJ,L3.il,L3.oP,L3.je,L3.aI,L3.cr,L3.pH,L3.iQ,L3.af,L3.m8,L3.cu,L3.qK,L3.oK,L3.oM,L3.dE,L3.fM,L3.bp,L3.eI,L3.eE,L3.oV,L3.pI,L3.mG,L3.uh,L3.bv,L3.aV,L3.cm,L3.dG,L3.oN,L3.eV,L3.gy,L3.aK,L3.m7,List.set_cons_zero,List.set_cons_succ,List.set_nil,L3.wm,L3.fU,L3.oO,L3.bb,L3.ba,L3.eX,L3.cp,L3.k4,L3.Tg.put,L3.Tg.A7,L3.oQ,L3.l9,L3.im,L3.l_,L3.dH,L3.oS,L3.bB,List.reduceReplicate,Ir,Ku,List.cons_append,List.nil_append])))
namespace C
open PySem L2 L3
noncomputable def bG(seed number:Int)(l:Addr):List (bE×PV):=[(Sum.inr "seed",.int seed),(Sum.inr "number",.int number),(Sum.inr "left",.ref l)]
structure B9 (S:av) (d l:Addr) (seed number:Int) (left:Vu):Prop where
 d:S d=some (.dct (bG seed number l))
 l:S l=some (.lst (left.map PV.int))
 s0:0<=seed
 s1:seed < 2147483647
 nm:0<=number
 lf:∀x∈left,0<=x
 ln:left.length<=100
def Aj(S:av)(d l:Addr):Prop:=∃seed number left,B9 S d l seed number left
def B9.ne{S:av}{d l:Addr}{seed number:Int}{left:Vu}(D:B9 S d l seed number left):d≠l:=fun e=>by
 have h:=D.d
 rw[e,D.l]at h
 cases h
def Aj.new{S:av}{d l p:Addr}{o:SO}(D:Aj S d l)(h:S p=none):Aj (am S p o) d l:=by
 obtain⟨s,n,f,D⟩:=D
 refine⟨s,n,f,?_,?_,D.s0,D.s1,D.nm,D.lf,D.ln⟩
 ·rw[ak (fun e=>by have:=D.d;rw[e,h]at this;cases this)];exact D.d
 ·rw[ak (fun e=>by have:=D.l;rw[e,h]at this;cases this)];exact D.l
def Aj.upd{S:av}{d l p:Addr}{o:SO}(D:Aj S d l)(h1:p≠d)(h2:p≠l):Aj (am S p o) d l:=by
 obtain⟨s,n,f,D⟩:=D
 exact⟨s,n,f,by rw[ak h1.symm];exact D.d,by rw[ak h2.symm];exact D.l,D.s0,D.s1,D.nm,D.lf,D.ln⟩
def Aj.free{S:av}{d l p:Addr}(D:Aj S d l)(h:S p=none):p≠d/\p≠l:=by
 obtain⟨s,n,f,D⟩:=D
 exact⟨(fun e=>by have:=D.d;rw[<-e,h]at this;cases this),(fun e=>by have:=D.l;rw[<-e,h]at this;cases this)⟩
def jp(s n m:Int)(l:Addr):kY (bG s n l) (Sum.inr "number") (.int m)=bG s m l:=by
 simp[kY,bG,aG]
def qY(s n m:Int)(l:Addr):kY (bG s n l) (Sum.inr "seed") (.int m)=bG m n l:=by
 simp[kY,bG,aG]
def vJ(s n:Int)(l:Addr):jX (bG s n l) (Sum.inr "seed")=some (.int s):=by simp[jX,bG,aG]
def qZ(s n:Int)(l:Addr):jX (bG s n l) (Sum.inr "number")=some (.int n):=by simp[jX,bG,aG]
def vK(s n:Int)(l:Addr):jX (bG s n l) (Sum.inr "left")=some (.ref l):=by simp[jX,bG,aG]
abbrev bo(w:ay):Prop:=∀{S:av} {d l:Addr} {m:Int} {Q:bQ} {E:cg},Aj S d l->0 < m->m < 2 ^ 62->(∀r S',0<=r->r < m->Aj S' d l->AI d l S S'->Q (.int r) S')->w [.ref d,.int m] S Q E
def Af:bo (aY 5 eZ):=by
  intro S d l m Q E D h0 h1 k
  obtain⟨seed,number,left,D⟩:=D
  have hne:=D.ne
  have hsz:∀a b,(bG a b l).length < sizeLine:=fun _ _=>dg (by show 3<=1000;decide)
  have fin:∀num Dm S1,B9 S1 d l seed num Dm->AI d l S S1->¬(num=0/\0 < Dm.length)->
      (if 0 < num then km num m/\(bG seed num l).length < sizeLine/\m≠0/\Q (PV.int (num.fmod m)) (am S1 d (SO.dct (bG seed (num.fdiv m) l)))
       else IntMulOk seed 48271/\(2147483647:Int)≠0/\IntMulOk ((seed * 48271+7919).fmod 2147483647) 40692/\(2147483399:Int)≠0/\(bG seed num l).length < sizeLine/\
        IntMulOk (((seed * 48271+7919).fmod 2147483647 * 40692+104729).fmod 2147483399) (((seed * 48271+7919).fmod 2147483647 * 40692+104729).fmod 2147483399)/\(2147483563:Int)≠0/\
        IntMulOk ((seed * 48271+7919).fmod 2147483647) ((seed * 48271+7919).fmod 2147483647)/\(2147483629:Int)≠0/\
        IntMulOk (((seed * 48271+7919).fmod 2147483647 * (seed * 48271+7919).fmod 2147483647).fmod 2147483629) 2147483563/\m≠0/\
        Q (PV.int ((((seed * 48271+7919).fmod 2147483647 * (seed * 48271+7919).fmod 2147483647).fmod 2147483629 * 2147483563+((((seed * 48271+7919).fmod 2147483647 * 40692+104729).fmod 2147483399) * (((seed * 48271+7919).fmod 2147483647 * 40692+104729).fmod 2147483399)).fmod 2147483563).fmod m))
          (am S1 d (SO.dct (bG (((seed * 48271+7919).fmod 2147483647 * 40692+104729).fmod 2147483399) num l)))):=by
    intro num Dm S1 D1 O1 hz
    split
    . rename_i hp
      rw[fh (Jx h0),um (Jx h0)]
      refine⟨vI h0 (by omega),hsz _ _,by omega,k _ _ (KR _ (by omega)) (Kg _ h0) ⟨seed,num / m,Dm,ac,by rw[ak hne.symm];exact D1.l,D1.s0,D1.s1,Kc D1.nm (Jx h0),D1.lf,D1.ln⟩ (O1.trans .upd)⟩
    . have e1:∀x:Int,x.fmod 2147483647=x % 2147483647:=fun x=>fh (by decide)
      have e2:∀x:Int,x.fmod 2147483399=x % 2147483399:=fun x=>fh (by decide)
      simp only[e1,e2,fh (Jx h0)]
      have p1:=D1.s0
      have p2:=D1.s1
      refine⟨jo (by decide) (by decide),by decide,jo (by decide) (by decide),by decide,hsz _ _,qX (by omega) (by omega),by decide,qX (by omega) (by omega),by decide,jo (by decide) (by decide),by omega,
        k _ _ (KR _ (by omega)) (Kg _ h0) ⟨_,num,Dm,ac,by rw[ak hne.symm];exact D1.l,by omega,by omega,D1.nm,D1.lf,D1.ln⟩ (O1.trans .upd)⟩
  unfold aY eZ
  rw[show ax 5 [PV.ref d,PV.int m]=[some (.ref d),some (.int m),none,none,none] from rfl]
  simp only[ai]
  refine⟨fun n σ S'=>σ=[some (.ref d),some (.int m),none,none,none]/\∃number left,B9 S' d l seed number left/\left.length=n/\AI d l S S',⟨_,rfl,number,left,D,rfl,.refl⟩,?_⟩
  rintro n σ S1 ⟨rfl,num,Dm,D1,hn,O1⟩
  walk_at "x"
  simp only[D1.d,D1.l,qZ,vK,vJ,qY,jp,ac,HW,HP]
  have hlen:(List.map PV.int Dm).length=Dm.length:=HQ ..
  rw[hlen]
  split
  . rename_i hz
    subst hz
    split
    . rename_i hl
      refine⟨fun σ S'=>σ=[some (.ref d),some (.int m),none,none,none]/\∃number left,B9 S' d l seed number left/\left.length < n/\AI d l S S',?_,?_⟩
      . rintro σ' S' ⟨rfl,a,b,h2,h3,h4⟩
        exact⟨_,h3,rfl,a,b,h2,rfl,h4⟩
      . have hl':0 < Dm.length:=by omega
        obtain⟨pre,x,rfl⟩:∃pre x,Dm=pre++[x]:=by
          refine⟨Dm.dropLast,Dm.getLast (by intro e;rw[e]at hl';simp at hl'),(List.dropLast_concat_getLast _).symm⟩
        refine⟨trivial,?_⟩
        rw[show(List.map PV.int (pre++[x]))[(pre++[x]).length - 1]?=some (.int x) by simp,show(List.map PV.int (pre++[x])).dropLast=pre.map PV.int by simp]
        simp only[ak hne,D1.d,jp]
        refine⟨hsz _ _,trivial,x,pre,⟨ac,by rw[ak hne.symm,ac],D1.s0,D1.s1,D1.lf x (by simp),fun y hy=>D1.lf y (by simp[hy]),by have:=D1.ln;simp at this;omega⟩,?_,O1.trans (AI.Hj.trans .upd)⟩
        rw[<-hn];simp
    . rename_i hl
      exact fin 0 Dm S1 D1 O1 (fun z=>hl (by omega))
  . rename_i hz
    rw[if_neg (by decide)]
    exact fin num Dm S1 D1 O1 (fun z=>hz z.1)
end C
namespace L3
open PySem L2
def Ext(S S':av):Prop:=∀a o,S a=some o->S' a=some o
def Ext.refl{S:av}:Ext S S:=fun _ _ h=>h
def Ext.trans{S S1 S2:av}(a:Ext S S1)(b:Ext S1 S2):Ext S S2:=fun x o h=>b x o (a x o h)
def Ext.new{S:av}{p:Addr}{o:SO}(h:S p=none):Ext S (am S p o):=fun x u hx=>by rw[ak (fun e=>by rw[e,h]at hx;cases hx)];exact hx
def Ext.free{S S':av}(e:Ext S S'){p:Addr}(h:S' p=none):S p=none:=by
 cases q:S p with
 |none=>rfl
 |some o=>rw[e p o q]at h;cases h
theorem dU{g:Tg}{tc:iP}{te:aX}{σ':bY}{keep:av->Prop}{fin:List PV->av->Prop}{S:av}(f:PV->PV)(c:PV->Bool)(hk:keep S):∀(items ys:List PV),
  (∀x∈items,∃σ2,g.put x σ'=some σ2/\(∀Q:Bool->av->Prop,Q (c x) S->tc σ2 S Q eC)/\(c x=true->∀Q:bQ,Q (f x) S->te σ2 S Q eC))->ys.length+items.length<=sizeLine->fin (ys++(items.filter c).map f) S->dk g tc te σ' keep fin items ys S
 |[],ys,_,hl,hf=>⟨hk,by simpa using hl,by simpa using hf⟩
 |x::r,ys,h,hl,hf=>by
  obtain⟨σ2,e,h1,h2⟩:=h x (by simp)
  refine⟨hk,by simp at hl;omega,?_⟩
  rw[e]
  refine h1 _ ?_
  cases hc:c x with
  |true=>
   rw[if_pos rfl]
   refine h2 hc _ (dU f c hk r (ys++[f x]) (fun y hy=>h y (by simp[hy])) (by simp at hl ⊢;omega) ?_)
   rw[Le,hc,if_pos rfl]at hf
   simpa using hf
  |false=>
   rw[if_neg (by decide)]
   refine dU f c hk r ys (fun y hy=>h y (by simp[hy])) (by simp at hl ⊢;omega) ?_
   rw[Le,hc,if_neg (by decide)]at hf
   exact hf
def oW{g:Tg}{te:aX}{σ':bY}{keep:av->Prop}{fin:List PV->av->Prop}{S:av}(f:PV->PV){items:List PV}(hk:keep S)
  (h:∀x∈items,∃σ2,g.put x σ'=some σ2/\∀Q:bQ,Q (f x) S->te σ2 S Q eC) (hl:items.length<=sizeLine) (hf:fin (items.map f) S):dk g bZ te σ' keep fin items [] S:=by
 refine dU f (fun _=>true) hk items [] (fun x hx=>?_) (by simpa using hl) (by rw[List.filter_eq_self.mpr (fun _ _=>rfl)];exact hf)
 obtain⟨σ2,e,k⟩:=h x hx
 exact⟨σ2,e,fun Q q=>q,fun _=>k⟩
theorem ky{g:Tg}{tc:iP}{te:aX}{σ':bY}{keep:av->Prop}{fin:List PV->av->Prop}{items:List PV}(Iv:List PV->List PV->av->Prop)(hk:∀done ys S,Iv done ys S->keep S/\ys.length<=sizeLine)
  (step:∀done x rest ys S (K:List PV->av->Prop),items=done++x::rest->Iv done ys S->(∀ys' S',Iv (done++[x]) ys' S'->K ys' S')->match g.put x σ' with
   |some σ2=>tc σ2 S (fun b S3=>if b=true then te σ2 S3 (fun y S4=>K (ys++[y]) S4) eC else K ys S3) eC
   |none=>False)
  (hf:∀ys S,Iv items ys S->fin ys S):∀(rest done ys:List PV) (S:av),items=done++rest->Iv done ys S->dk g tc te σ' keep fin rest ys S
 |[],done,ys,S,e,h=>by
  rw[JP]at e
  exact⟨(hk _ _ _ h).1,(hk _ _ _ h).2,hf ys S (e▸h)⟩
 |x::rest,done,ys,S,e,h=>by
  refine⟨(hk _ _ _ h).1,(hk _ _ _ h).2,?_⟩
  exact step done x rest ys S (fun ys' S'=>dk g tc te σ' keep fin rest ys' S') e h fun ys' S' h'=>ky Iv hk step hf rest (done++[x]) ys' S' (by rw[e];simp) h'
theorem me{g:Tg}{tb:bz}{D:lY}{keep:av->Prop}{items:List PV}(Iv:List PV->bY->av->Prop)(hk:∀done σ S,Iv done σ S->keep S)
  (step:∀done x rest σ S (K:bY->av->Prop),items=done++x::rest->Iv done σ S->(∀σ' S',Iv (done++[x]) σ' S'->K σ' S')->match g.put x σ with
   |some σ'=>tb { D with nx:=K,ct:=K,bk:=D.nx } σ' S
   |none=>False)
  (hd:∀σ S,Iv items σ S->D.nx σ S):∀(rest done:List PV) (σ:bY) (S:av),items=done++rest->Iv done σ S->l5 g tb D keep rest σ S
 |[],done,σ,S,e,h=>by
  rw[JP]at e
  exact⟨hk _ _ _ h,hd σ S (e▸h)⟩
 |x::rest,done,σ,S,e,h=>
  ⟨hk _ _ _ h,step done x rest σ S (l5 g tb D keep rest) e h fun σ' S' h'=>me Iv hk step hd rest (done++[x]) σ' S' (by rw[e];simp) h'⟩
def bK{g:Tg}{tb:bz}{D:lY}{keep:av->Prop}{items:List PV}{σ:bY}{S:av}(Iv:List PV->bY->av->Prop)(h0:Iv [] σ S)(hk:∀done σ S,Iv done σ S->keep S)
  (step:∀done x rest σ S (K:bY->av->Prop),items=done++x::rest->Iv done σ S->(∀σ' S',Iv (done++[x]) σ' S'->K σ' S')->match g.put x σ with
   |some σ'=>tb { D with nx:=K,ct:=K,bk:=D.nx } σ' S
   |none=>False)
  (hd:∀σ S,Iv items σ S->D.nx σ S):l5 g tb D keep items σ S:=me Iv hk step hd items [] σ S rfl h0
def jq{g:Tg}{tc:iP}{te:aX}{σ':bY}{keep:av->Prop}{fin:List PV->av->Prop}{items:List PV}{S:av}(Iv:List PV->List PV->av->Prop)(h0:Iv [] [] S)(hk:∀done ys S,Iv done ys S->keep S/\ys.length<=sizeLine)
  (step:∀done x rest ys S (K:List PV->av->Prop),items=done++x::rest->Iv done ys S->(∀ys' S',Iv (done++[x]) ys' S'->K ys' S')->match g.put x σ' with
   |some σ2=>tc σ2 S (fun b S3=>if b=true then te σ2 S3 (fun y S4=>K (ys++[y]) S4) eC else K ys S3) eC
   |none=>False)
  (hf:∀ys S,Iv items ys S->fin ys S):dk g tc te σ' keep fin items [] S:=ky Iv hk step hf items [] [] S rfl h0
def au{t u:bz}{D:lY}{σ:bY}{S:av}(h:∀N:bY->av->Prop,(∀σ S,u D σ S->N σ S)->t { D with nx:=N } σ S):ai t u D σ S:=h (u D) fun _ _ q=>q
def eM{n:Nat}{b:bz}{args:List PV}{S:av}{Q:bQ}{E:cg}(h:b { nx:=fun _ S'=>Q .non S',rt:=Q,ex:=eC } (ax n args) S):aY n b args S Q E:=h
def q_{α β:Type}(f:α->β)(xs:List α)(lo hi:Option Int):AT (xs.map f) lo hi=(AT xs lo hi).map f:=by
 unfold AT
 rw[HQ,List.map_take,List.map_drop]
def rd{α:Type}(xs:List α)(lo hi:Option Int):(AT xs lo hi).length<=xs.length:=by
 unfold AT
 rw[Jm,Jo]
 omega
def cx{n:Nat}(h:n<=1000):n<=sizeLine:=Kn (dg h)
section
variable {α:Type} {a b c d e:α} {l:List α}
def g_:AS (a::l) 0=some a:=by simp[AS,mF]
def eJ:AS (a::b::l) 1=some b:=bA (j:=1) rfl
def oX:AS (a::b::c::l) 2=some c:=bA (j:=2) rfl
def vL:AS [a] (-1)=some a:=rfl
def vM:AS [a,b] (-1)=some b:=rfl
def vN:AS [a,b,c] (-1)=some c:=rfl
def vO:AS [a,b,c,d] (-1)=some d:=rfl
def vP:AS [a,b,c,d,e] (-1)=some e:=rfl
def vQ:AS [a,b] (-2)=some a:=rfl
def vR:AS [a,b,c] (-2)=some b:=rfl
def vS:AS [a,b,c,d] (-2)=some c:=rfl
def vT:AS [a,b,c,d,e] (-2)=some d:=rfl
end
def cq(lo:Int)(n:Nat):(bf lo n).length=n:=by simp[bf]
end L3
namespace C
open PySem L2 L3
abbrev mf(w:ay):Prop:=∀{S:av} {ns:Vu} {b:Int} {Q:bQ} {E:cg},ns.length<=63->0<=b->b < 1000->(∀d l S',S d=none->S l=none->Aj S' d l->Ext S S'->Q (.ref d) S')->w [.cl (ns.map PV.int),.int b] S Q E
def CM:mf (aY 5 eY):=by
 intro S ns b Q E hn h0 h1 k
 unfold aY eY
 rw[show ax 5 [PV.cl (ns.map PV.int),PV.int b]=[some (.cl (ns.map PV.int)),some (.int b),none,none,none] from rfl]
 walk_at "x"
 intro p hp
 rw[ac]
 dsimp only
 rw[q_]
 have hx:(AT ns (some b) (some 63)).length<=63:=Ib (rd _ _ _) hn
 generalize AT ns (some b) (some 63)=xs at hx
 refine oW (fun v=>match v with | .int i=>.int (if 0 - i > i then 0 - i else i)|v=>v) ac (fun x hx=>?_) (cx (by rw[HQ];omega)) ?_
 ·obtain⟨i,hi,rfl⟩:=Ii.mp hx
  refine⟨[some (.int i)],rfl,fun Q q=>?_⟩
  walk_at "x"
  exact q
 intro p2 hp2
 rw[ac]
 dsimp only
 rw[Im]
 have e0:(xs.map ((fun v=>match v with | .int i=>.int (if 0 - i > i then 0 - i else i)|v=>v) ∘ PV.int))=(xs.map fun i=>if 0 - i > i then 0 - i else i).map PV.int:=by
  rw[Im];rfl
 rw[e0]
 have hy:((xs.map fun i=>if 0 - i > i then 0 - i else i)).length<=63:=by rw[HQ];exact hx
 have EM:∀y∈xs.map (fun i:Int=>if 0 - i > i then 0 - i else i),0<=y:=by
  intro y hy
  obtain⟨i,_,rfl⟩:=Ii.mp hy
  split<;>omega
 generalize (xs.map fun i=>if 0 - i > i then 0 - i else i)=ys at hy EM
 have h2:p2≠p:=fun e=>by rw[e,ac]at hp2;cases hp2
 have hp2':S p2=none:=by rw[<-hp2,ak h2]
 refine bK (fun done σ S'=>S'=am (am S p (.lst (xs.map PV.int))) p2 (.lst (ys.map PV.int))/\∃v2 n,0<=n/\n < 2147483647/\σ=[some (.cl (ns.map PV.int)),some (.int b),v2,some (.ref p2),some (.int n)]) ⟨rfl,none,7919+b,by omega,by omega,rfl⟩ (fun done σ S' h=>by rw[h.1];exact ac) ?_ ?_
 ·rintro done x rest σ S' K e ⟨rfl,v2,n,n0,n1,rfl⟩ hK
  obtain⟨i,hi,rfl⟩:∃i,i∈ys/\x = .int i:=by
   have:x∈ys.map PV.int:=by rw[e];simp
   obtain⟨i,hi,rfl⟩:=Ii.mp this
   exact⟨i,hi,rfl⟩
  walk_at "x"
  refine⟨jo (by decide) (by decide),by decide,by decide,hK _ _ ⟨rfl,_,_,?_,?_,rfl⟩⟩
  ·rw[fh (by decide)];omega
  ·rw[fh (i:=(n * 48271+_)) (by decide)];omega
 ·rintro σ S' ⟨rfl,v2,n,n0,n1,rfl⟩
  walk_at "x"
  intro d hd
  have hd2:d≠p2:=fun e=>by rw[e,ac]at hd;cases hd
  rw[ak hd2]at hd
  have hd1:d≠p:=fun e=>by rw[e,ac]at hd;cases hd
  rw[ak hd1]at hd
  rw[ak hd2.symm,ac]
  dsimp only
  refine dU (fun v=>v) (fun v=>match v with | .int i=>decide (10 ^ 18<=i)|_=>false) (by rw[ak hd2.symm,ac]) _ [] (fun x hx=>?_) (by rw[HQ];exact cx (by simp;omega)) ?_
  ·obtain⟨i,hi,rfl⟩:=Ii.mp hx
   refine⟨[some (.int i)],rfl,fun Q q=>?_,fun _ Q q=>?_⟩
   ·walk_at "x"
    exact⟨⟨by decide,by decide,by decide⟩,q⟩
   ·walk_at "x"
    exact q
  intro p3 hp3
  rw[ac]
  intro l hl
  have e3:([]++List.map (fun v:PV=>v) (List.filter (fun v=>match v with | .int i=>decide (10 ^ 18<=i)|_=>false) (List.map PV.int ys)))=(ys.filter fun i=>decide (10 ^ 18<=i)).map PV.int:=by
   rw[IK,List.map_id',List.filter_map]
   rfl
  rw[e3]at hl ⊢
  rw[<-List.map_reverse]
  generalize GB:am (am (am (am S p (SO.lst (List.map PV.int xs))) p2 (SO.lst (List.map PV.int ys))) d (SO.dct [])) p3 (SO.lst (List.map PV.int (List.filter (fun i=>decide (10 ^ 18<=i)) ys)))=S3 at hl ⊢
  have GC:S3 d=some (.dct []):=by rw[<-GB,ak (fun e=>by rw[<-e,ac]at hp3;cases hp3),ac]
  have GD:l≠d:=fun e=>by rw[e,GC]at hl;cases hl
  have FZ:Ext S S3:=by
   rw[<-GB]
   refine(Ext.new hp).trans ((Ext.new hp2).trans ((Ext.new ?_).trans (.new hp3)))
   rw[ak hd2,ak hd1];exact hd
  refine⟨by rw[ak GD.symm];exact GC,?_⟩
  have e4:l6 [(PV.str "seed",PV.int n),(PV.str "number",PV.int 0),(PV.str "left",PV.ref l)]=some (bG n 0 l):=rfl
  rw[e4]
  have e5:k5 [] (bG n 0 l)=bG n 0 l:=by simp[k5,bG,kY,aG]
  dsimp only
  rw[e5]
  refine k d l _ hd (FZ.free hl) ⟨n,0,_,ac,by rw[ak GD,ac],n0,n1,Il _,fun y hy=>?_,?_⟩ ?_
  ·exact EM y (KN.mp (List.mem_reverse.mp hy)).1
  ·rw[List.length_reverse]
   exact Ib (List.length_filter_le _ _) (by omega)
  ·intro a o ha
   have had:a≠d:=fun e=>by rw[e,hd]at ha;cases ha
   rw[ak had,ak (fun e=>by rw[e,FZ.free hl]at ha;cases ha)]
   exact FZ a o ha
end C
namespace L3
open PySem L2
theorem jr(S:av):∀zs:List Str,Bx S (zs.map PV.str) (zs.map PyData.str)
 |[]=>.nil
 |z::r=>.cons (.str z) (jr S r)
theorem fi:∀{zs:Vs},(∀z∈zs,PyData.strOk z=true)->PyData.canLayAll0 (zs.map PyData.str)=true
 |[],_=>rfl
 |z::r,h=>by
  show(PyData.canLay0 (.str z)&&PyData.canLayAll0 (r.map PyData.str))=true
  rw[fi fun y hy=>h y (by simp[hy])]
  have:PyData.canLay0 (.str z)=true:=h z (by simp)
  rw[this];rfl
def jt(z:Str)(zs:Vs):iF (.str z) (zs.map PyData.str)=decide (z∈zs):=by
 unfold iF
 rw[List.any_map,J9,List.any_eq_true,decide_eq_true_iff]
 constructor
 ·rintro⟨y,hy,e⟩
  have e':(y == z)=true:=e
  exact(eq_of_beq e')▸hy
 ·intro h
  exact⟨z,h,beq_self_eq_true z⟩
def nS{neg:Bool}{z:Str}{zs:Vs}{a:Addr}{S:av}{Q:bQ}(hS:S a=some (.lst (zs.map PV.str)))(hz:PyData.strOk z=true)(hzs:∀y∈zs,PyData.strOk y=true)(q:Q (.bl (neg != decide (z∈zs))) S):nL neg (.str z) (.ref a) S Q:=by
 unfold nL
 simp only[hS]
 exact⟨_,_,.str z,jr S zs,hz,fi hzs,by show 0<=150;decide,by rw[jt];exact q⟩
def fj{neg:Bool}{z:Str}{zs:Vs}{S:av}{Q:bQ}(hz:PyData.strOk z=true)(hzs:∀y∈zs,PyData.strOk y=true)(q:Q (.bl (neg != decide (z∈zs))) S):nL neg (.str z) (.tup (zs.map PV.str)) S Q:=by
 unfold nL
 exact⟨_,_,.str z,jr S zs,hz,fi hzs,by show 0<=150;decide,by rw[jt];exact q⟩
end L3
namespace C
open PySem L2 L3 Wd
abbrev iV(w:ay):Prop:=∀{S:av} {t b:Int} {Q:bQ} {E:cg},0 < b->b.natAbs < 2 ^ 8000->Q (.tup [.int (M3.bn t b),.int (M3.aO t b)]) S->w [.int t,.int b] S Q E
def Ct:iV (aY 4 fX):=by
 intro S t b Q E hb hs k
 unfold aY fX
 rw[show ax 4 [PV.int t,PV.int b]=[some (.int t),some (.int b),none,none] from rfl]
 simp only[ai]
 walk_at "x"
 refine⟨fun n σ S'=>S'=S/\∃x y:Int,σ=[some (.int t),some (.int b),some (.int x),some (.int y)]/\0<=x/\0<=y/\Int.gcd x y=Int.gcd t b/\y.toNat=n,⟨_,rfl,_,b,rfl,by split<;>omega,by omega,?_,rfl⟩,?_⟩
 ·split
  ·rw[show(0 - t) = -t by omega,Int.neg_gcd]
  ·rfl
 rintro n σ S' ⟨rfl,x,y,rfl,hx,hy,hg,rfl⟩
 walk_at "x"
 simp only[HP]
 split
 ·rename_i hp
  refine⟨fun σ' C_=>C_=S'/\∃x' y':Int,σ'=[some (.int t),some (.int b),some (.int x'),some (.int y')]/\0<=x'/\0<=y'/\Int.gcd x' y'=Int.gcd t b/\y'.toNat < y.toNat,?_,?_⟩
  ·rintro σ' C_ ⟨rfl,x',y',rfl,h1,h2,h3,h4⟩
   exact⟨_,h4,rfl,x',y',rfl,h1,h2,h3,rfl⟩
  ·walk_at "x"
   have e:x.fmod y=x % y:=fh hy
   have l1:=KR x (b:=y) (by omega)
   have l2:=Kg x hp
   refine⟨by omega,trivial,y,x.fmod y,rfl,hy,by omega,?_,by omega⟩
   rw[M3.lX];exact hg
 ·rename_i hp
  have EM:y=0:=by omega
  subst EM
  have F0:x=(Int.gcd t b:Int):=by
   rw[<-hg]
   rw[Int.gcd_zero_right]
   omega
  subst F0
  have gp:(0:Int) < (Int.gcd t b:Int):=Ka.mpr (M3.fz (by omega))
  have gl:=M3.qz (t:=t) (b:=b) (by omega)
  have cd:∀z,km z (Int.gcd t b:Int):=fun z=>⟨by omega,Ke (by omega) hs⟩
  refine⟨cd _,cd _,?_⟩
  have d1:=(M3.lW (t:=t) (b:=b) (by omega))
  rw[if_neg (by omega)]at d1
  rw[d1.1,d1.2]
  exact k
structure oY (x y:Int):Prop where
 low:M3.yv x y
 x0:0<=x
 x1:x<=999
 y1:y<=9
def ip{n:Nat}(h:n < 2 ^ 64):n < 2 ^ 8000:=K2 h (JX (by decide) (by decide))
abbrev ju(w:ay):Prop:=∀{S:av} {d l:Addr} {Q:bQ} {E:cg},Aj S d l->(∀x y S',oY x y->Aj S' d l->AI d l S S'->Q (.tup [.int x,.int y]) S')->w [.ref d] S Q E
def CN{wd wl:ay}(Af:bo wd)(Ct:iV wl):ju (aY 2 (e7 wd wl)):=by
 intro S d l Q E D k
 unfold aY e7
 rw[show ax 2 [PV.ref d]=[some (.ref d),none] from rfl]
 walk_at "x"
 refine Af D (by decide) (by decide) fun r S1 r0 r1 D1 O1=>?_
 simp only[HW,HP]
 split
 ·exact k 0 1 S1 ⟨⟨by decide,by decide⟩,by decide,by decide,by decide⟩ D1 O1
 ·split
  ·refine Af D1 (by decide) (by decide) fun r2 S2 a0 a1 D2 O2=>?_
   exact k _ 1 S2 ⟨⟨by decide,Int.gcd_one_right _⟩,by omega,by omega,by decide⟩ D2 (O1.trans O2)
  ·refine Af D1 (by decide) (by decide) fun r2 S2 a0 a1 D2 O2=>Af D2 (by decide) (by decide) fun r3 S3 b0 b1 D3 O3=>?_
   refine Ct (by omega) (ip (by omega)) ?_
   have z:=M3.qB (t:=r2) (b:=1+r3) (T:=999) (B:=9) (by omega) (by omega) (by omega) (by omega) (by omega) (by decide) (by decide)
   refine k _ _ S3 ⟨M3.kS (by omega),?_,z.2.1,z.2.2.2⟩ D3 (O1.trans (O2.trans O3))
   unfold M3.bn
   rw[if_neg (by omega)]
   exact Kc a0 (by omega)
def oZ{r:Int}(h0:0<=r)(h1:r < 26):∃c,AS abc.cps.toList r=some c/\97<=c/\c<=122:=by
 obtain⟨n,rfl⟩:=JK h0
 have q:=kR n
 rw[Nat.mod_eq_of_lt (by omega)]at q
 exact⟨_,q,by omega,by omega⟩
def nb{z:Str}(h:CZ z):PyData.strOk z=true:=by
 unfold PyData.strOk
 rw[Array.all_eq_true']
 intro c hc
 have:=h.sm c (by simpa using hc)
 simp;omega
def tL:∀z∈AV,PyData.strOk z=true:=by decide +kernel
theorem iq:∀zs:List Str,texts (zs.map PV.str)=some zs
 |[]=>rfl
 |z::r=>by show(texts (r.map PV.str)).map (z::·)=_;rw[iq r];rfl
def o0:("":Str).length=0:=by decide +kernel
def kz{cs:List Nat}(h:cs.length<=1000):((cs.map kP).map (·.length)).sum+(cs.map kP).length * ("":Str).length<=1000000:=by
 rw[sW,o0]
 omega
def jv{w__law_draw:ay}(Af:bo w__law_draw){S:av}{d l:Addr}{σ:bY}{n:Int}{fin:List PV->av->Prop}(D:Aj S d l)(hn:n.toNat<=100)(h1:lk σ 1=some (.ref d))(h2:lk σ 2=some (.str abc))(hσ:∃x,σ=[x,some (.ref d),some (.str abc)])
  (k:∀(cs:List Nat) S',cs.length=n.toNat->(∀c∈cs,97<=c/\c<=122)->Aj S' d l->AI d l S S'->fin ((cs.map kP).map PV.str) S') :
  dk (Tg.n 0) bZ (ah af (v3 2) (ae w__law_draw [v3 1,c3 (.int 26)])) σ (fun _=>True) fin (bf 0 n.toNat) [] S:=by
 obtain⟨x0,rfl⟩:=hσ
 refine jq (fun done ys S'=>∃cs:List Nat,ys=(cs.map kP).map PV.str/\cs.length=done.length/\done.length<=n.toNat/\(∀c∈cs,97<=c/\c<=122)/\Aj S' d l/\AI d l S S') ⟨[],rfl,rfl,IM _,by simp,D,.refl⟩ ?_ ?_ ?_
 ·rintro done ys S' ⟨cs,rfl,e,hd,_⟩
  exact⟨trivial,cx (by rw[HQ,HQ,e];omega)⟩
 ·rintro done x rest ys S' K e ⟨cs,rfl,e2,hd,hc,D',O'⟩ hK
  have hlen:done.length+1<=n.toNat:=by
   have:=IS List.length e
   rw[cq,HY,Ic]at this
   omega
  walk_at "x"
  simp only[bZ,JO]
  refine Af D' (by decide) (by decide) fun r S2 r0 r1 D2 O2=>⟨iT.1,?_⟩
  obtain⟨c,ec,c0,c1⟩:=oZ r0 r1
  rw[ec]
  refine hK _ _ ⟨cs++[c],by simp,by simp[e2],by simpa using hlen,fun y hy=>?_,D2,O'.trans O2⟩
  rcases Iu.mp hy with hy|hy
  ·exact hc y hy
  ·rw[IB.mp hy];exact⟨c0,c1⟩
 ·rintro ys S' ⟨cs,rfl,e,hd,hc,D',O'⟩
  exact k cs S' (by rw[e,cq]) hc D' O'
theorem mh{f:Str->List Nat}(r:List Nat):∀xs:List Str,(xs.map f).Nodup->(xs.filter fun z=>f z == r).length<=1
 |[],_=>IM _
 |x::xs,h=>by
  rw[Ir,JE]at h
  rw[Le]
  by_cases e:(f x == r)=true
  ·rw[if_pos e]
   have no:(xs.filter fun z=>f z == r)=[]:=by
    refine List.filter_eq_nil_iff.mpr fun z hz q=>h.1 ?_
    rw[eq_of_beq e,<-eq_of_beq q]
    exact Ii.mpr ⟨z,hz,rfl⟩
   rw[no]
   exact HN _
  ·rw[if_neg e]
   exact mh r xs h.2
def re(r:List Nat):(AV.filter fun z=>z.cps.toList.tail == r).length<=1:=mh (f:=fun z=>z.cps.toList.tail) r AV (by decide +kernel)
def ng(r:List Nat)(c:Nat)(ns:Vs)(h:ns.length < 17):∃j,j < 26/\cand r (c+j) ∉ AV++ns:=by
 obtain⟨j,hj,free⟩:=oH r c ((AV.filter fun z=>z.cps.toList.tail == r)++ns) (by rw[HY];have:=re r;omega)
 refine⟨j,hj,fun hm=>free ?_⟩
 rcases Iu.mp hm with q|q
 ·exact JF _ (KN.mpr ⟨q,by simp[cand]⟩)
 ·exact Io _ q
abbrev fA(w:ay):Prop:=∀{S:av} {d l:Addr} {m:Int} {Q:bQ} {E:cg},Aj S d l->0<=m->m<=17->(∀p (ns:Vs) S',ns.length=m.toNat->ns.Nodup->(∀z∈ns,CZ z/\z ∉ AV)->S p=none->p≠d->p≠l->S' p=some (.lst (ns.map PV.str))->Aj S' d l->AI d l S S'->Q (.ref p) S')->w [.ref d,.int m] S Q E
def BA{wd:ay}(Af:bo wd):fA (aY 11 (dJ wd)):=by
 intro S d l m Q E D h0 h1 k
 unfold dJ
 refine eM ?_
 rw[show ax 11 [PV.ref d,PV.int m]=[some (.ref d),some (.int m),none,none,none,none,none,none,none,none,none] from rfl]
 refine au fun N hN=>?_
 walk_at "x"
 refine hN _ _ (au fun N hN=>?_)
 walk_at "x"
 intro pT hT
 have dT:=D.free hT
 have D0:Aj (am S pT (.lst (AV.map PV.str))) d l:=D.new hT
 have GE:(am S pT (.lst (AV.map PV.str))) pT=some (.lst (AV.map PV.str)):=ac
 have O0:AI d l S (am S pT (.lst (AV.map PV.str))):=.new hT
 have eK:[PV.str "jars",PV.str "deed",PV.str "rest",PV.str "pay",PV.str "put",PV.str "then",PV.str "either",PV.str "take",PV.str "often",PV.str "use"]=AV.map PV.str:=rfl
 rw[eK]
 generalize am S pT (.lst (AV.map PV.str))=S0 at D0 GE O0 ⊢
 refine hN _ _ (au fun N hN=>?_)
 walk_at "x"
 refine⟨trivial,Af D0 (by decide) (by decide) fun n S1 n0 n1 D1 O1=>⟨by omega,by omega,?_⟩⟩
 refine jv Af D1 (by omega) rfl rfl ⟨_,rfl⟩ fun cs S2 hl hc D2 O2 pj hj=>?_
 simp only[kq,ac,iq]
 refine⟨kz (by omega),?_⟩
 rw[show Txt.join (Str.ofString "") (cs.map kP)=⟨cs.toArray⟩from ja cs]
 refine hN _ _ (au fun N hN=>?_)
 walk_at "x"
 have hcl:cs.length<=5:=by omega
 have lc:(⟨cs.toArray⟩:Str).length=cs.length:=HU
 refine⟨by rw[lc];exact cx (by omega),Af (D2.new hj) (by rw[lc];omega) (by rw[lc];omega) fun at' S3 a0 a1 D3 O3=>Af D3 (by decide) (by decide) fun tu S4 t0 t1 D4 O4=>Af D4 (by decide) (by decide) fun nr S5 r0 r1 D5 O5=>?_⟩
 rw[lc]at a1
 obtain⟨an,rfl⟩:=JK a0
 obtain⟨tn,rfl⟩:=JK t0
 refine hN _ _ (au fun N hN=>?_)
 walk_at "x"
 intro q hq
 have dq:=D5.free hq
 have OA:AI d l S0 S5:=O1.trans (O2.trans ((AI.new hj).trans (O3.trans (O4.trans O5))))
 have F1:=OA _ _ GE dT.1 dT.2
 have GF:pT≠q:=fun e=>by rw[e,hq]at F1;cases F1
 have GG:S q=none:=by
  cases e:S q with
  |none=>rfl
  |some o=>rw[OA _ _ (O0 _ _ e dq.1 dq.2) dq.1 dq.2]at hq;cases hq
 refine hN _ _ (au fun N hN=>?_)
 simp only[cp,dH,v3,lk]
 refine⟨by omega,by omega,?_⟩
 refine bK (fun done σ S'=>∃(ns:Vs) (v4 v10:Option PV) (near:Bool),σ=[some (.ref d),some (.int m),some (.str abc),some (.ref pT),v4,some (.str ⟨cs.toArray⟩),some (.int an),some (.int tn),some (.bl near),some (.ref q),v10]/\ns.length=done.length/\ns.Nodup/\(∀z∈ns,CZ z/\z ∉ AV)/\S' q=some (.lst (ns.map PV.str))/\S' pT=some (.lst (AV.map PV.str))/\Aj S' d l/\AI d l S S')
  ⟨[],_,_,_,rfl,rfl,List.nodup_nil,(fun z hz=>nomatch hz),ac,by rw[ak GF];exact F1,D5.new hq,O0.trans (OA.trans (.new hq))⟩ (fun _ _ _ _=>trivial) ?_ ?_
 ·rintro done x rest σ S6 K e ⟨ns,v4,v10,near,rfl,F2,F3,w6,Fp,F4,D6,O6⟩ hK
  have hlen:done.length < m.toNat:=by
   have:=IS List.length e
   rw[cq,HY,Ic]at this
   omega
  have hx:x = .int (0+(done.length:Nat)):=by
   have h2:=IS (fun l=>l[done.length]?) e
   simp only[Jc (HN _),Nat.sub_self,List.getElem?_cons_zero]at h2
   unfold bf at h2
   rw[Ia,J5 hlen]at h2
   simpa using h2.symm
  subst hx
  -- the tail: a word is changed Hk it is new,then laid down
  have ql:∀(z:Str) (v4:Option PV) (S7:av),CZ z->S7 q=some (.lst (ns.map PV.str))->S7 pT=some (.lst (AV.map PV.str))->Aj S7 d l->AI d l S S7->
    ai (fV (lM (aR (ah (nL false) (v3 10) (v3 3))) (aR (ah (nL false) (v3 10) (v3 9)))) (aw 10 (ah aV (ah af (v3 2) (ah eI (ah aV (ko "str" ij (v3 2) [(ah af (v3 10) (c3 (.int 0)))]) (c3 (.int 1))) (c3 (.int 26)))) (cu (v3 10) (oK (c3 (.int 1))) qK))))
     (dj (ko "list" bB (v3 9) [(v3 10)])) { nx:=K,rt:=Q,ex:=eC,bk:=N,ct:=K } [some (.ref d),some (.int m),some (.str abc),some (.ref pT),v4,some (.str ⟨cs.toArray⟩),some (.int an),some (.int tn),some (.bl near),some (.ref q),some (.str z)] S7:=by
   intro z v4 S7 hz GH GI D7 O7
   obtain⟨i,r,rfl,hi,Hl,hrs⟩:=hz.cand
   obtain⟨j,hj,free⟩:=ng r i ns (by omega)
   refine⟨fun mm σ S'=>∃t,σ=[some (.ref d),some (.int m),some (.str abc),some (.ref pT),v4,some (.str ⟨cs.toArray⟩),some (.int an),some (.int tn),some (.bl near),some (.ref q),some (.str (cand r (i+t)))]/\S'=S7/\t<=j/\mm=j - t,⟨j,0,rfl,rfl,IM _,rfl⟩,?_⟩
   rintro mm σ S' ⟨t,rfl,rfl,ht,rfl⟩
   have hw:=qy Hl hrs (i+t)
   have F5:∀y∈ns,PyData.strOk y=true:=fun y hy=>nb (w6 y hy).1
   have go:t < j->∃N:bY->av->Prop,(∀σ' C_,N σ' C_->∃m',m' < j - t/\∃t',σ'=[some (.ref d),some (.int m),some (.str abc),some (.ref pT),v4,some (.str ⟨cs.toArray⟩),some (.int an),some (.int tn),some (.bl near),some (.ref q),some (.str (cand r (i+t')))]/\C_=S'/\t'<=j/\m'=j - t')/\
     N ([some (.ref d),some (.int m),some (.str abc),some (.ref pT),v4,some (.str ⟨cs.toArray⟩),some (.int an),some (.int tn),some (.bl near),some (.ref q),some (.str (cand r (i+(t+1))))]) S':=fun lt=>
    ⟨fun σ' C_=>σ'=[some (.ref d),some (.int m),some (.str abc),some (.ref pT),v4,some (.str ⟨cs.toArray⟩),some (.int an),some (.int tn),some (.bl near),some (.ref q),some (.str (cand r (i+(t+1))))]/\C_=S',fun σ' C_ ⟨e1,e2⟩=>⟨j - (t+1),by omega,t+1,e1,e2,by omega,rfl⟩,rfl,rfl⟩
   have Fq:((((i+t) % 26:Nat):Int)+1).fmod 26=(((i+t+1) % 26:Nat):Int):=by rw[fh (by decide)];omega
   walk_at "x"
   refine nS GI (nb hw) tL ?_
   simp only[HW,HP]
   split
   ·rename_i g
    have lt:t < j:=Nat.lt_of_le_of_ne ht fun e=>by subst e;exact free (JF _ g)
    obtain⟨N,hN,hn⟩:=go lt
    rw[if_pos trivial]
    refine⟨N,hN,trivial,hw.line,?_⟩
    rw[ki]
    simp only[ij,qw _ (Nat.mod_lt _ (by decide))]
    refine⟨by decide,iT.1,?_⟩
    rw[Fq,kR (i+t+1)]
    refine⟨hw.line,?_,?_⟩
    ·rw[fy]
     exact cx (show 1+r.toArray.size<=1000 by rw[HU];omega)
    ·rw[fy,kj]
     exact hn
   ·rename_i g
    refine nS GH (nb hw) F5 ?_
    simp only[HW,HP]
    split
    ·rename_i g2
     have lt:t < j:=Nat.lt_of_le_of_ne ht fun e=>by subst e;exact free (Io _ g2)
     obtain⟨N,hN,hn⟩:=go lt
     refine⟨N,hN,trivial,hw.line,?_⟩
     rw[ki]
     simp only[ij,qw _ (Nat.mod_lt _ (by decide))]
     refine⟨by decide,iT.1,?_⟩
     rw[Fq,kR (i+t+1)]
     refine⟨hw.line,?_,?_⟩
     ·rw[fy]
      exact cx (show 1+r.toArray.size<=1000 by rw[HU];omega)
     ·rw[fy,kj]
      exact hn
    ·rename_i g2
     simp only[GH]
     refine⟨trivial,by rw[HQ];exact dg (by omega),hK _ _ ⟨ns++[cand r (i+t)],_,_,_,rfl,by simp[F2],List.nodup_append.mpr ⟨F3,by simp,fun a ha b hb e=>?_⟩,fun z hz=>?_,by rw[KS];exact ac,by rw[ak GF];exact GI,D7.upd dq.1 dq.2,fun a o ha h1 h2=>?_⟩⟩
     ·rw[IB.mp hb]at e
      exact g2 (e▸ha)
     ·rcases Iu.mp hz with hz|hz
      ·exact w6 z hz
      ·rw[IB.mp hz]
       exact⟨hw,g⟩
     ·rw[ak (fun e=>by rw[e,GG]at ha;cases ha)]
      exact O7 a o ha h1 h2
  obtain⟨pw,Hm,pl2⟩:=sX hcl hc (a:=an) (i:=(tn+done.length) % 26) (by omega) (Nat.mod_lt _ (by decide))
  have Fq:((tn:Int)+(0+(done.length:Int))).fmod 26=(((tn+done.length) % 26:Nat):Int):=by rw[fh (by decide)];omega
  have GJ:(⟨cs.toArray⟩:Str).length<=sizeLine:=by rw[lc];exact cx (by omega)
  simp only[Tg.put]
  refine au fun N2 BY=>?_
  walk_at "x"
  refine⟨GJ,by decide,iT.1,?_⟩
  rw[Fq,kR (tn+done.length)]
  refine⟨Ib (Nat.add_le_add Hm (HN 1)) (by decide),GJ,Ib (Nat.le_of_eq (Array.size_append).symm) (Ib pw.len (by decide)),?_⟩
  refine BY _ _ (au fun N3 DC=>?_)
  walk_at "x"
  split
  ·refine⟨trivial,Af D6 (by decide) (by decide) fun n2 Sa m0 m1 Da Oa=>⟨by omega,by omega,?_⟩⟩
   refine jv Af Da (by omega) rfl rfl ⟨_,rfl⟩ fun Ez Sb hl2 hc2 Db Ob Hn hj2=>?_
   simp only[kq,ac,iq]
   refine⟨kz (by omega),?_⟩
   rw[show Txt.join (Str.ofString "") (Ez.map kP)=⟨Ez.toArray⟩from ja Ez]
   refine DC _ _ ?_
   have wz:CZ (⟨Ez.toArray⟩:Str):=⟨fun e=>by have e':Ez=[]:=e;rw[e']at hl2;simp at hl2;omega,by show Ez.length<=6;omega,hc2⟩
   have OB:AI d l S6 (am Sb Hn (.lst ((Ez.map kP).map PV.str))):=Oa.trans (Ob.trans (.new hj2))
   exact ql _ _ _ wz (OB _ _ Fp dq.1 dq.2) (OB _ _ F4 dT.1 dT.2) (Db.new hj2) (O6.trans OB)
  ·exact DC _ _ (ql _ _ S6 pw Fp F4 D6 O6)
 ·rintro σ S6 ⟨ns,v4,v10,near,rfl,F2,F3,w6,Fp,F4,D6,O6⟩
  refine hN _ _ ?_
  walk_at "x"
  exact k q ns S6 (by rw[F2,cq]) F3 w6 GG dq.1 dq.2 Fp D6 O6
inductive Bd where
 |rest|pay (x y:Int)|put (z:Str) (m:Int)|use (z:Str)|BU (a:Bd)|Ak (a b:Bd)|BK (a b:Bd)|BZ (z:Str) (m:Int) (a b:Bd)
noncomputable def Bd.pv:Bd->PV
 | .rest=>.tup [.str "rest"]
 | .pay x y=>.tup [.str "pay",.tup [.int x,.int y]]
 | .put z m=>.tup [.str "put",.str z,.int m]
 | .use z=>.tup [.str "use",.str z]
 | .BU a=>.tup [.str "often",a.pv]
 | .Ak a b=>.tup [.str "then",a.pv,b.pv]
 | .BK a b=>.tup [.str "either",a.pv,b.pv]
 | .BZ z m a b=>.tup [.str "take",.str z,.int m,a.pv,b.pv]
noncomputable def Bd.dep:Bd->Nat
 | .BU a=>a.dep+1
 | .Ak a b=>max a.dep b.dep+1
 | .BK a b=>max a.dep b.dep+1
 | .BZ _ _ a b=>max a.dep b.dep+1
 |_=>1
noncomputable def Bd.size:Bd->Nat
 | .BU a=>a.size+1
 | .Ak a b=>a.size+b.size+1
 | .BK a b=>a.size+b.size+1
 | .BZ _ _ a b=>a.size+b.size+1
 |_=>1
noncomputable def Bd.good(js us:Vs):Bd->Prop
 | .rest=>True
 | .pay x y=>oY x y
 | .put z m=>z∈js/\1<=m/\m<=9
 | .use z=>z∈us
 | .BU a=>a.good js us
 | .Ak a b=>a.good js us/\b.good js us
 | .BK a b=>a.good js us/\b.good js us
 | .BZ z m a b=>z∈js/\1<=m/\m<=9/\a.good js us/\b.good js us
def Bd.A6(t:Bd):1<=t.dep:=by cases t<;>simp[Bd.dep]
theorem Bd.AK:∀t:Bd,t.dep<=t.size
 | .rest=>HN _
 | .pay _ _=>HN _
 | .put _ _=>HN _
 | .use _=>HN _
 | .BU a=>by have:=a.AK;simp only[Bd.dep,Bd.size];omega
 | .Ak a b=>by have:=a.AK;have:=b.AK;simp only[Bd.dep,Bd.size];omega
 | .BK a b=>by have:=a.AK;have:=b.AK;simp only[Bd.dep,Bd.size];omega
 | .BZ _ _ a b=>by have:=a.AK;have:=b.AK;simp only[Bd.dep,Bd.size];omega
def cN{α:Type}{xs:List α}{r:Int}(h0:0<=r)(h1:r < xs.length):∃v,AS xs r=some v/\v∈xs:=by
 obtain⟨n,rfl⟩:=JK h0
 have hn:n < xs.length:=by omega
 exact⟨xs[n],bA (by simp[hn]),List.getElem_mem hn⟩
noncomputable def Bd.leaf:Bd->Prop
 | .rest=>True
 | .pay _ _=>True
 | .put _ _=>True
 |_=>False
def Bd.B1{t:Bd}(h:t.leaf):t.dep=1/\t.size=1:=by cases t<;>first|exact⟨rfl,rfl⟩|exact h.elim
abbrev gB(w:ay):Prop:=∀{S:av} {d l:Addr} {js:Vs} {Q:bQ} {E:cg},Aj S d l->js.length < 2 ^ 61->(∀(t:Bd) S',t.leaf->t.good js []->Aj S' d l->AI d l S S'->Q t.pv S')->w [.ref d,.tup (js.map PV.str)] S Q E
def BF{wd wc:ay}(Af:bo wd)(CN:ju wc):gB (aY 4 (e_ wd wc)):=by
 intro S d l js Q E D hj k
 unfold e_
 refine eM ?_
 rw[show ax 4 [PV.ref d,PV.tup (js.map PV.str)]=[some (.ref d),some (.tup (js.map PV.str)),none,none] from rfl]
 refine au fun N hN=>?_
 walk_at "x"
 refine Af D (by decide) (by decide) fun r S1 r0 r1 D1 O1=>?_
 refine hN _ _ (au fun N hN=>?_)
 walk_at "x"
 simp only[HW,HP]
 split
 ·exact k .rest S1 trivial trivial D1 O1
 refine hN _ _ (au fun N hN=>?_)
 walk_at "x"
 simp only[HW,HP,HQ]
 have pay:wc [.ref d] S1 (fun x S=>Q (.tup [.str "pay",x]) S) eC:=CN D1 fun x y S2 c D2 O2=>k (.pay x y) S2 trivial c D2 (O1.trans O2)
 split
 ·rw[if_pos trivial];exact pay
 split
 ·exact pay
 rename_i hr hz
 refine hN _ _ (au fun N hN=>?_)
 walk_at "x"
 refine Af D1 (by decide) (by decide) fun r2 S2 a0 a1 D2 O2 p hp=>Af (D2.new hp) (by decide) (by decide) fun r3 S3 b0 b1 D3 O3=>?_
 have dp:=D2.free hp
 have hp3:=O3 _ _ (ac (S:=S2) (o:=.lst [.int 1,.int 2,.int (1+r2)])) dp.1 dp.2
 simp only[hp3]
 obtain⟨v,hv,hm⟩:=cN (xs:=[PV.int 1,.int 2,.int (1+r2)]) b0 (by simpa using b1)
 rw[hv]
 obtain⟨m,rfl,m0,m1⟩:∃m,v = .int m/\1<=m/\m<=9:=by
  simp only[HZ,Ie,Je]at hm
  rcases hm with rfl|rfl|rfl
  ·exact⟨1,rfl,by omega,by omega⟩
  ·exact⟨2,rfl,by omega,by omega⟩
  ·exact⟨1+r2,rfl,by omega,by omega⟩
 refine hN _ _ ?_
 walk_at "x"
 simp only[HQ]
 refine Af D3 (by omega) (by omega) fun r4 S4 c0 c1 D4 O4=>?_
 obtain⟨w,hw,Dt⟩:=cN (xs:=js.map PV.str) c0 (by rw[HQ];exact c1)
 dsimp only
 rw[hw]
 obtain⟨z,hz,rfl⟩:=Ii.mp Dt
 exact k (.put z m) S4 trivial ⟨hz,m0,m1⟩ D4 (O1.trans (O2.trans ((AI.new hp).trans (O3.trans O4))))
def AL(d l x:Addr)(S S':av):Prop:=∀a o,S a=some o->a≠d->a≠l->a≠x->S' a=some o
theorem _root_.L3.AI.x{d l x:Addr}{S S':av}(h:AI d l S S'):AL d l x S S':=fun a o e h1 h2 _=>h a o e h1 h2
def AL.trans{d l x:Addr}{S S1 S2:av}(a:AL d l x S S1)(b:AL d l x S1 S2):AL d l x S S2:=fun y o h h1 h2 h3=>b y o (a y o h h1 h2 h3) h1 h2 h3
def AL.upd{d l x:Addr}{S:av}{o:SO}:AL d l x S (am S x o):=fun y u h h1 h2 h3=>by rw[ak h3];exact h
abbrev fk(n:Nat)(w:ay):Prop:=∀{S:av} {d l x:Addr} {js:Vs} {left down:Int} {Q:bQ} {E:cg},Aj S d l->S x=some (.lst [.int left])->x≠d->x≠l->js.length < 2 ^ 61->0<=left->left < 2 ^ 61->0<=down->down < n->
  (∀(t:Bd) S' left',t.good js []->(t.dep:Int)<=down+1->0<=left'->(t.size:Int)+left'<=left+1->Aj S' d l->S' x=some (.lst [.int left'])->AL d l x S S'->Q t.pv S')->w [.ref d,.tup (js.map PV.str),.ref x,.int down] S Q E
def B2{wd wl rb:ay}(Af:bo wd)(BF:gB wl)(n:Nat)(ih:fk n rb):fk (n+1) (aY 8 (fb wd wl rb)):=by
 intro S d l x js left down Q E D hx hxd BV hj h0 h1 h2 h3 k
 unfold fb
 refine eM ?_
 rw[show ax 8 [PV.ref d,PV.tup (js.map PV.str),PV.ref x,PV.int down]=[some (.ref d),some (.tup (js.map PV.str)),some (.ref x),some (.int down),none,none,none,none] from rfl]
 refine au fun N hN=>?_
 walk_at "x"
 refine Af D (by decide) (by decide) fun r S1 r0 r1 D1 O1=>?_
 have E5:=O1 _ _ hx hxd BV
 refine hN _ _ (au fun N hN=>?_)
 walk_at "x"
 have a0:AS [PV.int left] 0=some (.int left):=rfl
 simp only[HW,HP,E5,a0]
 have lf:wl [.ref d,.tup (js.map PV.str)] S1 Q eC:=BF D1 hj fun t S2 hl hg D2 O2=>k t S2 left hg (by rw[(Bd.B1 hl).1];omega) h0 (by rw[(Bd.B1 hl).2];omega) D2 (O2 _ _ E5 hxd BV) (O1.x.trans O2.x)
 split
 ·rw[if_pos trivial];exact lf
 split
 ·rw[if_pos trivial];exact lf
 split
 ·exact lf
 rename_i hd hl hf
 refine hN _ _ (au fun N hN=>?_)
 simp only[bH,aR,ah,v3,c3,lk,pI,dE,HP]
 have GK:mF [PV.int left].length 0=some 0:=rfl
 split
 ·refine au fun N2 BY=>?_
  walk_at "x"
  simp only[E5,a0,GK]
  refine BY _ _ ?_
  walk_at "x"
  refine ih (left:=left - 1) (D1.upd hxd BV) ac hxd BV hj (by omega) (by omega) (by omega) (by omega) fun t S2 l2 hg hdp q0 q1 D2 F6 O2=>?_
  exact k (.BU t) S2 l2 hg (by simp only[Bd.dep];omega) q0 (by simp only[Bd.size];omega) D2 F6 (O1.x.trans (AL.upd.trans O2))
 ·refine hN _ _ (au fun N hN=>?_)
  walk_at "x"
  simp only[E5,a0,GK]
  refine hN _ _ (au fun N hN=>?_)
  walk_at "x"
  refine ih (left:=left - 2) (D1.upd hxd BV) ac hxd BV hj (by omega) (by omega) (by omega) (by omega) fun ta S2 l2 ga da q0 q1 D2 F6 O2=>?_
  refine hN _ _ (au fun N hN=>?_)
  walk_at "x"
  refine ih (left:=l2) D2 F6 hxd BV hj q0 (by omega) (by omega) (by omega) fun tb S3 l3 gb db p0 p1 D3 F7 O3=>?_
  have OA:AL d l x S S3:=O1.x.trans (AL.upd.trans (O2.trans O3))
  refine hN _ _ (au fun N hN=>?_)
  walk_at "x"
  simp only[HP]
  split
  ·exact k (.Ak ta tb) S3 l3 ⟨ga,gb⟩ (by simp only[Bd.dep];omega) p0 (by simp only[Bd.size];omega) D3 F7 OA
  refine hN _ _ (au fun N hN=>?_)
  walk_at "x"
  simp only[HW,HP,HQ]
  have ei:Q (Bd.BK ta tb).pv S3:=k (.BK ta tb) S3 l3 ⟨ga,gb⟩ (by simp only[Bd.dep];omega) p0 (by simp only[Bd.size];omega) D3 F7 OA
  split
  ·rw[if_pos trivial];exact ei
  split
  ·exact ei
  rename_i hz8 hz
  refine hN _ _ (au fun N hN=>?_)
  walk_at "x"
  refine Af D3 (by decide) (by decide) fun r2 S4 e0 e1 D4 O4 p hp=>Af (D4.new hp) (by decide) (by decide) fun r3 S5 b0 b1 D5 O5=>?_
  have dp:=D4.free hp
  have hp3:=O5 _ _ (ac (S:=S4) (o:=.lst [.int 1,.int 1,.int 2,.int (1+r2)])) dp.1 dp.2
  simp only[hp3]
  obtain⟨v,hv,hm⟩:=cN (xs:=[PV.int 1,.int 1,.int 2,.int (1+r2)]) b0 (by simpa using b1)
  rw[hv]
  obtain⟨m,rfl,m0,m1⟩:∃m,v = .int m/\1<=m/\m<=9:=by
   simp only[HZ,Ie,Je]at hm
   rcases hm with rfl|rfl|rfl|rfl
   ·exact⟨1,rfl,by omega,by omega⟩
   ·exact⟨1,rfl,by omega,by omega⟩
   ·exact⟨2,rfl,by omega,by omega⟩
   ·exact⟨1+r2,rfl,by omega,by omega⟩
  refine hN _ _ ?_
  walk_at "x"
  simp only[HQ]
  refine Af D5 (by omega) (by omega) fun r4 S6 c0 c1 D6 O6=>?_
  obtain⟨w,hw,Dt⟩:=cN (xs:=js.map PV.str) c0 (by rw[HQ];exact c1)
  dsimp only
  rw[hw]
  obtain⟨z,hz,rfl⟩:=Ii.mp Dt
  have F8:=O4 _ _ F7 hxd BV
  have Ho:x≠p:=fun e=>by rw[e,hp]at F8;cases F8
  have Hq:=O6 _ _ (O5 _ _ (show am S4 p _ x=some (.lst [.int l3]) by rw[ak Ho];exact F8) hxd BV) hxd BV
  exact k (.BZ z m ta tb) S6 l3 ⟨hz,m0,m1,ga,gb⟩ (by simp only[Bd.dep];omega) p0 (by simp only[Bd.size];omega) D6 Hq (OA.trans (O4.x.trans ((AI.new hp).x.trans (O5.x.trans O6.x))))
end C
local macro_rules | `(tactic| walk_at "w")=>`(tactic| simp only [L3.ai,L3.aw,L3.aC,L3.dj,L3.bH,L3.a9,L3.ah,L3.v3,L3.c3,L3.lk,L3.bR,L3.ao,L3.ae,L3.ko,L3.aR,L3.jW,L3.lM,L3.qG,L3.oJ,L3.il,L3.oP,L3.je,L3.aI,L3.cr,L3.pH,L3.iQ,L3.af,L3.m8,L3.cu,L3.qK,L3.oK,L3.oM,L3.dE,L3.fM,L3.bp,L3.eI,L3.eE,L3.oV,L3.pI,L3.mG,L3.uh,L3.bv,L3.aV,L3.cm,L3.dG,L3.oN,L3.eV,L3.gy,L3.aK,L3.m7,List.set_cons_zero,List.set_cons_succ,List.set_nil,L3.wm,L3.fU,L3.oO,L3.bb,L3.ba,L3.eX,L3.cp,L3.k4,L3.Tg.put,L3.Tg.A7,L3.oQ,L3.l9,L3.im,L3.l_,L3.dH,L3.oS,L3.bB,List.reduceReplicate,Ir,Ku,List.cons_append,List.nil_append,L3.g_,L3.eJ,L3.oX,L3.vL,L3.vM,L3.vN,L3.vO,L3.vP,L3.vQ,L3.vR,L3.vS,L3.vT,L3.aG,String.reduceEq,Lb,decide_false,HW,KH,Bool.not_true,Bool.not_false,JO,Li,K8,reduceIte,ite_true,ite_false])
local macro_rules | `(tactic| walk_at "y")=>`(tactic| ((try walk_at "x"); (try walk_at "w")))
namespace C
open PySem L2 L3 Wd
noncomputable def Bd.Ai:Bd->Nat
 | .Ak a b=>a.Ai * b.Ai
 | .BK a b=>a.Ai+b.Ai
 | .BZ _ _ a b=>a.Ai+b.Ai
 |_=>1
noncomputable def Bd.An:Bd->Nat
 | .BU a=>a.Ai+a.An
 | .Ak a b=>a.An+b.An
 | .BK a b=>a.An+b.An
 | .BZ _ _ a b=>a.An+b.An
 |_=>0
theorem Bd.AG:∀t:Bd,t.Ai<=2 ^ t.size
 | .rest=>by simp[Bd.Ai,Bd.size]
 | .pay _ _=>by simp[Bd.Ai,Bd.size]
 | .put _ _=>by simp[Bd.Ai,Bd.size]
 | .use _=>by simp[Bd.Ai,Bd.size]
 | .BU a=>by simp only[Bd.Ai,Bd.size];exact Nat.one_le_two_pow
 | .Ak a b=>by
  simp only[Bd.Ai,Bd.size]
  refine Ib (Nat.mul_le_mul a.AG b.AG) ?_
  rw[<-Nat.pow_add]
  exact Js (by decide) (by omega)
 | .BK a b=>by
  simp only[Bd.Ai,Bd.size]
  have h1:2 ^ a.size<=2 ^ (a.size+b.size):=Js (by decide) (by omega)
  have h2:2 ^ b.size<=2 ^ (a.size+b.size):=Js (by decide) (by omega)
  have:=a.AG
  have:=b.AG
  rw[Nat.pow_succ]
  omega
 | .BZ _ _ a b=>by
  simp only[Bd.Ai,Bd.size]
  have h1:2 ^ a.size<=2 ^ (a.size+b.size):=Js (by decide) (by omega)
  have h2:2 ^ b.size<=2 ^ (a.size+b.size):=Js (by decide) (by omega)
  have:=a.AG
  have:=b.AG
  rw[Nat.pow_succ]
  omega
def Bd.Dq{t:Bd}(h:t.size<=60):(t.Ai:Int) < 2 ^ 64:=by
 have h1:=t.AG
 have h2:2 ^ t.size<=2 ^ 60:=Js (by decide) h
 omega
abbrev b7(n:Nat)(w:ay):Prop:=∀{S:av} {t:Bd} {Q:bQ} {E:cg},t.dep<=n->t.size<=60->Q (.int t.Ai) S->w [t.pv] S Q E
def o8{s0:ay}(n:Nat)(ih:b7 n s0):b7 (n+1) (aY 1 (bT s0)):=by
 intro S t Q E hd hs k
 unfold bT
 refine eM ?_
 rw[show ax 1 [t.pv]=[some t.pv] from rfl]
 cases t with
 |Ak a b=>
  simp only[Bd.dep,Bd.size]at hd hs
  simp only[Bd.pv]
  walk_at "w"
  refine ih (by omega) (by omega) (ih (by omega) (by omega) ⟨qX (by omega) (Bd.Dq (by omega)),?_⟩)
  simpa [Bd.Ai]using k
 |BK a b=>
  simp only[Bd.dep,Bd.size]at hd hs
  simp only[Bd.pv]
  walk_at "w"
  refine ih (by omega) (by omega) (ih (by omega) (by omega) ?_)
  simpa [Bd.Ai]using k
 |BZ z m a b=>
  simp only[Bd.dep,Bd.size]at hd hs
  simp only[Bd.pv]
  walk_at "w"
  refine ih (by omega) (by omega) (ih (by omega) (by omega) ?_)
  simpa [Bd.Ai]using k
 |_=>
  simp only[Bd.pv]
  walk_at "w"
  exact k
abbrev dW(n:Nat)(w:ay):Prop:=∀{S:av} {t:Bd} {Q:bQ} {E:cg},t.dep<=n->t.size<=60->Q (.int t.An) S->w [t.pv] S Q E
def gC:∀y∈(["then","either","take"]:Vs),PyData.strOk y=true:=by decide +kernel
def gD:∀y∈(["rest","pay","put","use","often","then","either","take"]:Vs),PyData.strOk y=true:=by decide +kernel
def o9{x0 s0:ay}(n m:Nat)(hp:b7 m x0)(ih:dW n s0)(hnm:n<=m):dW (n+1) (aY 1 (bN x0 s0)):=by
 intro S t Q E hd hs k
 unfold bN
 refine eM ?_
 rw[show ax 1 [t.pv]=[some t.pv] from rfl]
 have e3:[PV.str "then",PV.str "either",PV.str "take"]=(["then","either","take"]:Vs).map PV.str:=rfl
 cases t with
 |BU a=>
  simp only[Bd.dep,Bd.size]at hd hs
  simp only[Bd.pv]
  walk_at "y"
  refine hp (by omega) (by omega) (ih (by omega) (by omega) ?_)
  simpa [Bd.An]using k
 |Ak a b=>
  simp only[Bd.dep,Bd.size]at hd hs
  simp only[Bd.pv]
  walk_at "y"
  rw[e3]
  refine fj (gD _ (by simp)) gC ?_
  simp[aG]
  refine ih (by omega) (by omega) (ih (by omega) (by omega) ?_)
  simpa [Bd.An]using k
 |BK a b=>
  simp only[Bd.dep,Bd.size]at hd hs
  simp only[Bd.pv]
  walk_at "y"
  rw[e3]
  refine fj (gD _ (by simp)) gC ?_
  simp[aG]
  refine ih (by omega) (by omega) (ih (by omega) (by omega) ?_)
  simpa [Bd.An]using k
 |BZ z m a b=>
  simp only[Bd.dep,Bd.size]at hd hs
  simp only[Bd.pv]
  walk_at "y"
  rw[e3]
  refine fj (gD _ (by simp)) gC ?_
  simp[aG]
  refine ih (by omega) (by omega) (ih (by omega) (by omega) ?_)
  simpa [Bd.An]using k
 |_=>
  simp only[Bd.pv]
  walk_at "y"
  rw[e3]
  refine fj (gD _ (by simp)) gC ?_
  simp[aG]
  simpa [Bd.An]using k
abbrev dX(w:ay):Prop:=∀{S:av} {d l:Addr} {js:Vs} {size bound:Int} {Q:bQ} {E:cg},Aj S d l->js.length < 2 ^ 61->1<=size->size<=60->
  (∀(t:Bd) S',t.good js []->t.dep<=6->t.size<=60->(t.size:Int)<=max size 4->((t.Ai:Int)+t.An<=bound\/(t.Ai:Int)+t.An<=2)->Aj S' d l->AI d l S S'->Q t.pv S')->w [.ref d,.tup (js.map PV.str),.int size,.int bound] S Q E
def li{x0 x1 x2 x3:ay}(n:Nat)(hn:6<=n)(B2:fk n x0)(E6:b7 n x1)(E7:dW n x2)(BF:gB x3):dX (aY 5 (b4 x0 x1 x2 x3)):=by
 intro S d l js size bound Q E D hj h1 h2 k
 unfold b4
 refine eM ?_
 rw[show ax 5 [PV.ref d,PV.tup (js.map PV.str),PV.int size,PV.int bound]=[some (.ref d),some (.tup (js.map PV.str)),some (.int size),some (.int bound),none] from rfl]
 refine au fun N hN=>?_
 walk_at "x"
 intro p hp
 have dp:=D.free hp
 refine B2 (D.new hp) ac dp.1 dp.2 hj (by omega) (by omega) (by decide) (by omega) fun t S1 l1 hg hd q0 q1 D1 E5 O1=>?_
 have GL:AI d l S S1:=fun a o ha h1 h2=>O1 a o (by rw[ak (fun e=>by rw[e,hp]at ha;cases ha)];exact ha) h1 h2 (fun e=>by rw[e,hp]at ha;cases ha)
 refine hN _ _ (au fun N hN=>?_)
 simp only[bH,aR,ah,ae,bR,v3,lk,List.set_cons_zero,List.set_cons_succ,mG,aV,dE]
 refine E6 (by omega) (by omega) (E7 (by omega) (by omega) ?_)
 simp only[HP]
 split
 ·walk_at "x"
  refine BF D1 hj fun t2 S2 hl2 E4 D2 O2=>BF D2 hj fun t3 S3 hl3 Hr D3 O3=>?_
  refine hN _ _ ?_
  walk_at "x"
  have e2:=Bd.B1 hl2
  have e3:=Bd.B1 hl3
  refine k (.Ak (.BU t2) t3) S3 ⟨E4,Hr⟩ (by simp only[Bd.dep];omega) (by simp only[Bd.size];omega) (by simp only[Bd.size];omega) (.inr ?_) D3 (GL.trans (O2.trans O3))
  have c2:t2.Ai=1/\t2.An=0:=by cases t2<;>first|exact⟨rfl,rfl⟩|exact hl2.elim
  have c3:t3.Ai=1/\t3.An=0:=by cases t3<;>first|exact⟨rfl,rfl⟩|exact hl3.elim
  simp only[Bd.Ai,Bd.An,c2,c3]
  decide
 ·rename_i hb
  walk_at "x"
  refine hN _ _ ?_
  walk_at "x"
  exact k t S1 hg (by omega) (by omega) (by omega) (.inl (by omega)) D1 GL
structure Sh (S:av) (v:PV) (d:PyData) (n k:Nat):Prop where
 dat:Dat S v d
 lay:d.canLay0=true
 EA:d.showable=true
 dep:d.depth<=k
 len:d.shown.length<=n
structure C6 (S:av) (vs:List PV) (ds:List PyData) (n k:Nat):Prop where
 dat:Bx S vs ds
 lay:PyData.canLayAll0 ds=true
 EA:PyData.showableAll ds=true
 dep:PyData.depthAll ds<=k
 len:piled (PyData.shownAll ds)<=n
def Sh.le{S:av}{v:PV}{d:PyData}{n k m j:Nat}(h:Sh S v d n k)(a:n<=m)(b:k<=j):Sh S v d m j:=⟨h.dat,h.lay,h.EA,Ib h.dep b,Ib h.len a⟩
def C6.le{S:av}{v:List PV}{d:List PyData}{n k m j:Nat}(h:C6 S v d n k)(a:n<=m)(b:k<=j):C6 S v d m j:=⟨h.dat,h.lay,h.EA,Ib h.dep b,Ib h.len a⟩
theorem Sh.int{S:av}{i:Int}(h:i.natAbs.log2 < 1920):Sh S (.int i) (.int i) 1921 0:=
 ⟨.int i,by simp[PyData.canLay0],by simpa [PyData.showable]using h,by simp[PyData.depth],by rw[PyData.shown_int];exact PyProof.Rows.int_text_len_1921 h⟩
theorem C6.nil{S:av}:C6 S [] [] 0 0:=⟨.nil,by simp[PyData.canLayAll0],by simp[PyData.showableAll],by simp[PyData.depthAll],by simp[PyData.shownAll,piled]⟩
theorem Sh.cons{S:av}{v:PV}{d:PyData}{n k:Nat}{vs:List PV}{ds:List PyData}{m:Nat}(a:Sh S v d n k)(b:C6 S vs ds m k):C6 S (v::vs) (d::ds) (n+2+m) k:=
 ⟨.cons a.dat b.dat,by simp[PyData.canLayAll0,a.lay,b.lay],by simp[PyData.showableAll,a.EA,b.EA],by simp only[PyData.depthAll];exact Nat.max_le.mpr ⟨a.dep,b.dep⟩,by
  rw[PyData.shownAll_cons,piled_cons]
  have:=a.len
  have:=b.len
  omega⟩
theorem Sh.tup{S:av}{n k:Nat}{vs:List PV}{ds:List PyData}(a:C6 S vs ds n k):Sh S (.tup vs) (.tuple ds) (n+3) (k+1):=
 ⟨.tup a.dat,by simp[PyData.canLay0,a.lay],by simp[PyData.showable,a.EA],by simp only[PyData.depth];exact Nat.succ_le_succ a.dep,by
  rw[PyData.shown_tuple,strLen_append,strLen_append]
  have e1:((("(":String):Str)).length=1:=rfl
  have e3:(((if ds.length == 1 then ",)" else ")":String):Str)).length<=2:=by split<;>decide
  have q:=a.len
  rcases ds with _|⟨d,ds⟩
  ·have:(Str.join ", " (PyData.shownAll [])).length=0:=by simp[PyData.shownAll];rfl
   omega
  ·have:=join_length_add (PyData.shownAll (d::ds)) (by simp[PyData.shownAll])
   omega⟩
theorem C6.map{α:Type}{S:av}{n k:Nat}(f:α->PV)(g:α->PyData):∀{xs:List α},(∀x∈xs,Sh S (f x) (g x) n k)->C6 S (xs.map f) (xs.map g) (xs.length * (n+2)) k
 |[],_=>C6.nil.le (IM _) (IM _)
 |x::r,h=>((h x (by simp)).cons (C6.map f g fun y hy=>h y (by simp[hy]))).le (by rw[Ic,Nat.succ_mul];omega) (HN _)
def Sh.dict{S:av}{v:PV}{d:PyData}{n k:Nat}(h:Sh S v d n k):d.hasDict=false:=PyData.hasDict_of_canLay d h.lay
def vU:(2:Nat) ^ 24<=sizeLine:=by decide
def mi{S:av}{vs:List PV}{d:PyData}{n k:Nat}{Q:bQ}(h:Sh S (.tup vs) d n k)(hn:n<=2 ^ 24)(hk:k<=100)(q:Q (.str d.shown) S):kn [.tup vs] S Q:=by
 unfold kn
 exact⟨d,h.dat,h.EA,h.dict,Ib h.dep hk,Ib h.len (Ib hn vU),q⟩
def C6.E8{S:av}(k:Nat):C6 S [] [] 0 k:=.le .nil (HN _) (IM _)
noncomputable def jx(p:Str×Bd):PV:=.tup [.str p.1,p.2.pv]
noncomputable def de(js:Vs)(ds:List (Str×Bd)):PV:=.tup [.tup (js.map PV.str),.tup (ds.map jx)]
structure xY (js:Vs) (us:Vs) (ds:List (Str×Bd)):Prop where
 jl:js.length<=16
 dl:ds.length<=16
 jw:∀z∈js,CZ z
 uw:∀z∈us,CZ z
 dw:∀p∈ds,CZ p.1
 gd:∀p∈ds,p.2.good js us
 dp:∀p∈ds,p.2.dep<=60
 sz:∀p∈ds,p.2.size<=60
def rf{α:Type}{xs:List α}{n:Nat}(h:n<=xs.length):AT xs none (some (n:Int))=xs.take n:=by
 unfold AT
 rw[HT.pZ,HT.sG,List.drop_zero,Nat.min_eq_left h]
 rfl
def gE{x:PV}{n:Nat}{a b:List PV}(e:bf 0 n=a++x::b):x = .int a.length/\a.length < n:=by
 have h1:(bf 0 n)[a.length]?=some x:=by rw[e];simp
 unfold bf at h1
 rw[Ia]at h1
 have hl:a.length < n:=by
  have:=IS List.length e
  rw[cq,HY,Ic]at this
  omega
 rw[J5 hl]at h1
 simp at h1
 exact⟨h1.symm,hl⟩
def nh{α:Type}{xs:List α}{n:Nat}{v:α}(h:xs[n]?=some v):AS xs (n:Int)=some v:=bA h
noncomputable def heads:List Str:=["rest","pay","put","use","often","then","either","take"]
def o_:∀z∈heads,PyData.strOk z=true:=by decide +kernel
structure BD (n:Nat) (js us:Vs) (ds:List (Str×Bd)):Prop extends xY js us ds where
 jn:js.Nodup
 dn:(ds.map Prod.fst).Nodup
 dq:∀p∈ds,p.2.dep<=n
inductive Cp (L:Nat):Nat->PV->Prop
 |int {n:Nat} (i:Int):Cp L n (.int i)
 |tup {n:Nat} {xs:List PV}:xs.length<=L->(∀x∈xs,Cp L n x)->Cp L (n+1) (.tup xs)
def Cp.mono{L M n m:Nat}{v:PV}(h:Cp L n v)(hL:L<=M):n<=m->Cp M m v:=by
 induction h generalizing m with
 |int i=>exact fun _=>.int i
 |@tup n xs hl _ ih=>
  intro hm
  cases m with
  |zero=>omega
  |succ m=>exact .tup (Ib hl hL) fun x hx=>ih x hx (by omega)
theorem lj{S:av}:∀{xs:List PV},(∀x∈xs,∃d,Dat S x d/\d.canLay0=true)->∃ds,Bx S xs ds/\PyData.canLayAll0 ds=true/\ds.length=xs.length
 |[],_=>⟨[],.nil,by simp[PyData.canLayAll0],rfl⟩
 |x::r,h=>by
  obtain⟨d,hd,hc⟩:=h x (by simp)
  obtain⟨ds,hds,hcs,hl⟩:=lj fun y hy=>h y (IZ _ hy)
  exact⟨d::ds,.cons hd hds,by simp[PyData.canLayAll0,hc,hcs],by simp[hl]⟩
inductive Dn (L:Nat):Nat->PV->Prop
 |int {n:Nat} (i:Int):Dn L n (.int i)
 |str {n:Nat} {z:Str}:PyData.strOk z=true->Dn L n (.str z)
 |tup {n:Nat} {xs:List PV}:xs.length<=L->(∀x∈xs,Dn L n x)->Dn L (n+1) (.tup xs)
def Cp.x{L n:Nat}{v:PV}(h:Cp L n v):Dn L n v:=by
 induction h with
 |int i=>exact .int i
 |tup hl _ ih=>exact .tup hl ih
def Dn.mono{L M n m:Nat}{v:PV}(h:Dn L n v)(hL:L<=M):n<=m->Dn M m v:=by
 induction h generalizing m with
 |int i=>exact fun _=>.int i
 |str h=>exact fun _=>.str h
 |@tup n xs hl _ ih=>
  intro hm
  cases m with
  |zero=>omega
  |succ m=>exact .tup (Ib hl hL) fun x hx=>ih x hx (by omega)
def Dn.dat{L n:Nat}{v:PV}{S:av}(h:Dn L n v):∃d,Dat S v d/\d.canLay0=true:=by
 induction h with
 |int i=>exact⟨_,.int i,by simp[PyData.canLay0]⟩
 |str h=>exact⟨_,.str _,by simpa [PyData.canLay0]using h⟩
 |tup _ _ ih=>
  obtain⟨ds,hds,hcs,_⟩:=lj ih
  exact⟨_,.tup hds,by simpa [PyData.canLay0]using hcs⟩
noncomputable def aN:Bd->PV->Bool
 | .BU a,.tup gs=>gs.all fun g=>match g with | .tup [.int m,tr]=>decide (1<=m)&&aN a tr|_=>false
 | .Ak a b,.tup [x,y]=>aN a x&&aN b y
 | .BK a b,.tup [.int i,y]=>if i=0 then aN a y else if i=1 then aN b y else false
 | .BZ _ _ a b,.tup [.int i,y]=>if i=0 then aN a y else if i=1 then aN b y else false
 | .rest,.tup []=>true
 | .pay _ _,.tup []=>true
 | .put _ _,.tup []=>true
 | .use _,.tup []=>true
 |_,_=>false
noncomputable def pg(a:Bd):PV->Bool
 | .tup [.int m,tr]=>decide (1<=m)&&aN a tr
 |_=>false
def mj(a b:Bd)(x y:PV):aN (.Ak a b) (.tup [x,y])=(aN a x&&aN b y):=rfl
def rg(a b:Bd)(i:Int)(y:PV):aN (.BK a b) (.tup [.int i,y])=if i=0 then aN a y else if i=1 then aN b y else false:=rfl
def rh(z:Str)(m:Int)(a b:Bd)(i:Int)(y:PV):aN (.BZ z m a b) (.tup [.int i,y])=if i=0 then aN a y else if i=1 then aN b y else false:=rfl
def ml(a:Bd)(gs:List PV):aN (.BU a) (.tup gs)=gs.all (pg a):=rfl
abbrev jy(w:ay):Prop:=∀{S:av} {a b:Bd} {hd:List PV} {i:Int} {y:PV} {Q:bQ} {E:cg},(i=0\/i=1)->hd.length<=3->Q (if i=0 then a.pv else b.pv) S->w [.tup (hd++[a.pv,b.pv]),.tup [.int i,y]] S Q E
def B_:jy (aY 2 jh):=by
 intro S a b hd i y Q E hi hl k
 unfold jh
 refine eM ?_
 rw[show ax 2 [PV.tup (hd++[a.pv,b.pv]),PV.tup [.int i,y]]=[some (.tup (hd++[a.pv,b.pv])),some (.tup [.int i,y])] from rfl]
 walk_at "y"
 have e:AS (hd++[a.pv,b.pv]) (-2+i)=some (if i=0 then a.pv else b.pv):=by
  unfold AS mF
  rcases hi with rfl|rfl
  ·rw[if_neg (by omega),if_pos (by simp;omega)]
   have:(-2+0+((hd++[a.pv,b.pv]).length:Int)).toNat=hd.length:=by simp;omega
   rw[this,if_pos rfl]
   show(hd++[a.pv,b.pv])[hd.length]?=some a.pv
   simp
  ·rw[if_neg (by omega),if_pos (by simp;omega)]
   have:(-2+1+((hd++[a.pv,b.pv]).length:Int)).toNat=hd.length+1:=by simp;omega
   rw[this,if_neg (by decide)]
   show(hd++[a.pv,b.pv])[hd.length+1]?=some b.pv
   simp
 rw[e]
 exact k
def ni{xs:List PV}(h:xs.length=2):∃x y,xs=[x,y]:=by
 match xs,h with
 |[x,y],_=>exact⟨x,y,rfl⟩
def ll{a b:Bd}{xs:List PV}(h:xs.length≠2):aN (.Ak a b) (.tup xs)=false:=by
 match xs,h with
 |[],_=>rfl
 |[_],_=>rfl
 |[_,_],h=>exact absurd rfl h
 |_::_::_::_,_=>rfl
def lm{a b:Bd}{xs:List PV}(h:xs.length≠2):aN (.BK a b) (.tup xs)=false:=by
 match xs,h with
 |[],_=>rfl
 |[x],_=>cases x<;>rfl
 |[_,_],h=>exact absurd rfl h
 |x::_::_::_,_=>cases x<;>rfl
def lp{z:Str}{m:Int}{a b:Bd}{xs:List PV}(h:xs.length≠2):aN (.BZ z m a b) (.tup xs)=false:=by
 match xs,h with
 |[],_=>rfl
 |[x],_=>cases x<;>rfl
 |[_,_],h=>exact absurd rfl h
 |x::_::_::_,_=>cases x<;>rfl
def gF(t:Bd)(z:Str):aN t (.str z)=false:=by cases t<;>rfl
def gG(t:Bd)(i:Int):aN t (.int i)=false:=by cases t<;>rfl
noncomputable def Bd.plain:Bd->Bool
 | .rest=>true
 | .pay _ _=>true
 | .put _ _=>true
 | .use _=>true
 |_=>false
def nj{t:Bd}(h:t.plain=true)(xs:List PV):aN t (.tup xs)=decide (xs=[]):=by
 cases t<;>simp[Bd.plain]at h<;>(cases xs with
  |nil=>show true=_;simp
  |cons=>show false=_;simp)
noncomputable def Bd.hd:Bd->Str
 | .rest=>"rest" | .pay _ _=>"pay" | .put _ _=>"put" | .use _=>"use" | .BU _=>"often" | .Ak _ _=>"then" | .BK _ _=>"either" | .BZ _ _ _ _=>"take"
noncomputable def Bd.tl:Bd->List PV
 | .rest=>[] | .pay x y=>[.tup [.int x,.int y]] | .put z m=>[.str z,.int m] | .use z=>[.str z] | .BU a=>[a.pv] | .Ak a b=>[a.pv,b.pv] | .BK a b=>[a.pv,b.pv] | .BZ z m a b=>[.str z,.int m,a.pv,b.pv]
def Bd.DD(t:Bd):t.pv = .tup (.str t.hd::t.tl):=by cases t<;>rfl
def Bd.E9(t:Bd):PyData.strOk t.hd=true:=by cases t<;>exact o_ _ (by simp[heads,Bd.hd])
def Bd.Dd(t:Bd):t.hd=("then":Str)↔∃a b,t = .Ak a b:=by cases t<;>simp[Bd.hd,aG]
def Bd.De(t:Bd):t.hd=("often":Str)↔∃a,t = .BU a:=by cases t<;>simp[Bd.hd,aG]
def nT{a b:PV}{hd:List PV}{i:Int}(hi:i=0\/i=1):AS (hd++[a,b]) (i - 2)=some (if i=0 then a else b):=by
 unfold AS mF
 rcases hi with rfl|rfl
 ·rw[if_neg (by omega),if_pos (by simp;omega)]
  have:(0 - 2+((hd++[a,b]).length:Int)).toNat=hd.length:=by simp;omega
  rw[this,if_pos rfl]
  show(hd++[a,b])[hd.length]?=some a
  simp
 ·rw[if_neg (by omega),if_pos (by simp;omega)]
  have:(1 - 2+((hd++[a,b]).length:Int)).toNat=hd.length+1:=by simp;omega
  rw[this,if_neg (by decide)]
  show(hd++[a,b])[hd.length+1]?=some b
  simp
def Cp.nil{L n:Nat}:Cp L (n+1) (.tup []):=.tup (IM _) (by simp)
def Cp.two{L n:Nat}{a b:PV}(hL:2<=L)(ha:Cp L n a)(hb:Cp L n b):Cp L (n+1) (.tup [a,b]):=.tup hL fun x hx=>by
 simp only[HZ,Ie,Je]at hx
 rcases hx with rfl|rfl
 ·exact ha
 ·exact hb
mutual
noncomputable def pK:PV->Nat
 | .tup xs=>1+Ca xs
 |_=>1
noncomputable def Ca:List PV->Nat
 |[]=>0
 |x::r=>pK x+Ca r
end
def mn:PyData.strOk ("do":Str)=true/\PyData.strOk ("again":Str)=true:=by decide +kernel
theorem iJ:∀xs ys,Ca (xs++ys)=Ca xs+Ca ys
 |[],ys=>by simp[Ca]
 |x::r,ys=>by rw[List.cons_append];simp only[Ca];rw[iJ r ys];omega
abbrev f_(w:ay):Prop:=∀{S:av} {d l:Addr} {most many size:Nat} {Q:bQ} {E:cg},Aj S d l->most<=8->1<=many->many<=4->1<=size->size<=60->
  (∀js ds S',BD 6 js [] ds->1<=ds.length->ds.length<=many->js.length<=8->Aj S' d l->AI d l S S'->Q (de js ds) S')->w [.ref d,.int most,.int many,.int size] S Q E
def ph{xw xd xb:ay}(BA:fA xw)(Af:bo xd)(E_:dX xb):f_ (aY 9 (dL xw xd xb)):=by
 intro S0 d l most many size Q E D0 hmo hm1 hm4 hs1 hs2 k
 unfold dL
 refine eM ?_
 rw[show ax 9 [PV.ref d,PV.int most,PV.int many,PV.int size]=[some (.ref d),some (.int most),some (.int many),some (.int size),none,none,none,none,none] from rfl]
 refine au fun N hN=>?_
 walk_at "x"
 refine BA D0 (by decide) (by decide) fun p ns S hl hnd hw0 _ DE hpl hp D O0=>?_
 have hl8':ns.length=8:=hl
 have Hs:8<=ns.length:=by omega
 have Fa:ns.length<=100:=by omega
 have hw:∀z∈ns,CZ z:=fun z hz=>(hw0 z hz).1
 refine hN _ _ ?_
 refine au fun N hN=>?_
 walk_at "x"
 refine Af (m:=most+1) D (by omega) (by omega) fun r S1 r0 r1 D1 O1=>?_
 obtain⟨j,rfl⟩:∃j:Nat,r=(j:Int):=⟨r.toNat,by omega⟩
 have hp1:=O1 _ _ hp DE hpl
 rw[hp1]
 dsimp only
 rw[rf (by rw[HQ];omega),<-List.map_take]
 intro p2 hp2
 rw[ac]
 dsimp only
 have D2:Aj (am S1 p2 (.lst ((ns.take j).map PV.str))) d l:=D1.new hp2
 have O2:AI d l S (am S1 p2 (.lst ((ns.take j).map PV.str))):=O1.trans (.new hp2)
 have hp2':=AI.new (o:=.lst ((ns.take j).map PV.str)) hp2 _ _ hp1 DE hpl
 generalize am S1 p2 (.lst ((ns.take j).map PV.str))=S2 at D2 O2 hp2'
 refine hN _ _ (au fun N hN=>?_)
 walk_at "x"
 intro p3 hp3
 have EB:=D2.free hp3
 refine Af (D2.new hp3) (by decide) (by decide) fun f S3 f0 f1 D3 O3=>?_
 have e3:=O3 _ _ (ac (S:=S2) (o:=.lst [.int 0,.int 4])) EB.1 EB.2
 have F9:=O3 _ _ (AI.new hp3 _ _ hp2' DE hpl) DE hpl
 have Ht:AI d l S S3:=O2.trans ((AI.new hp3).trans O3)
 simp only[e3]
 obtain⟨v,hv,GM⟩:=cN (xs:=[PV.int 0,.int 4]) f0 (by simpa using f1)
 rw[hv]
 obtain⟨g,rfl,hg⟩:∃g:Nat,v = .int g/\g<=4:=by
  simp only[HZ,Ie,Je]at GM
  rcases GM with rfl|rfl
  ·exact⟨0,rfl,by omega⟩
  ·exact⟨4,rfl,by omega⟩
 refine hN _ _ (au fun N hN=>?_)
 walk_at "x"
 refine Af (m:=many) D3 (by omega) (by omega) fun r4 S4 a0 a1 D4 O4=>?_
 obtain⟨mm,em⟩:∃mm:Nat,1+r4=(mm:Int):=⟨(1+r4).toNat,by omega⟩
 dsimp only
 rw[em]
 have Du:=O4 _ _ F9 DE hpl
 refine hN _ _ (au fun N hN=>?_)
 walk_at "x"
 refine⟨by omega,by omega,?_⟩
 rw[Iw]
 have hjl:(ns.take j).length<=8:=by rw[Jm];omega
 refine jq (fun done ys S'=>∃ds:List (Str×Bd),ys=ds.map jx/\ds.length=done.length/\ds.map Prod.fst=(ns.drop g).take done.length/\done.length<=mm/\(∀q∈ds,q.2.good (ns.take j) []/\q.2.dep<=6/\q.2.size<=60)/\Aj S' d l/\AI d l S4 S') ⟨[],rfl,rfl,rfl,IM _,by simp,D4,.refl⟩ ?_ ?_ ?_
 ·rintro done ys S' ⟨ds,rfl,e,_,hd,_⟩
  exact⟨trivial,cx (by rw[HQ,e];omega)⟩
 ·rintro done x rest ys S' K e ⟨ds,rfl,e2,e3,hd,hc,D',O'⟩ hK
  obtain⟨rfl,hi⟩:=gE e
  walk_at "x"
  try simp only[bZ,JO]
  have hp':=O' _ _ Du DE hpl
  simp only[hp']
  have hlt:g+done.length < ns.length:=by omega
  have hat:AS (ns.map PV.str) ((g:Int)+(done.length:Int))=some (.str ns[g+done.length]):=by
   have:((g:Int)+(done.length:Int))=((g+done.length:Nat):Int):=by omega
   rw[this]
   exact nh (by rw[Ia,IL hlt];rfl)
  rw[hat]
  dsimp only
  refine⟨vI (by omega) (by omega),E_ D' (by omega) (by omega) (by omega) fun t S5 tg td tz tz2 _ D5 F_=>?_⟩
  refine hK _ _ ⟨ds++[(ns[g+done.length],t)],by simp[jx],by simp[e2],?_,by rw[HY];exact hi,fun y hy=>?_,D5,O'.trans F_⟩
  ·rw[KS,e3,HY,Jk,List.take_succ,Kf,IL hlt]
   rfl
  ·rcases Iu.mp hy with hy|hy
   ·exact hc y hy
   ·rw[IB.mp hy];exact⟨tg,td,tz⟩
 rintro ys S5 ⟨ds,rfl,e,ef,_,hds,D5,O5⟩
 rw[cq]at e ef
 intro p6 Fb
 refine hN _ _ ?_
 walk_at "x"
 rw[ac]
 dsimp only
 have sub:∀q∈ds,q.1∈ns:=fun q hq=>by
  have:q.1∈ds.map Prod.fst:=Ii.mpr ⟨q,hq,rfl⟩
  rw[ef]at this
  exact JW (Jr this)
 refine k (ns.take j) ds _ ⟨⟨by omega,by omega,fun z hz=>hw z (Jr hz),by simp,fun q hq=>hw _ (sub q hq),fun q hq=>(hds q hq).1,fun q hq=>by have:=(hds q hq).2.1;omega,fun q hq=>(hds q hq).2.2⟩,hnd.sublist (JR _ _),by rw[ef];exact hnd.sublist ((JR _ _).trans (List.drop_sublist _ _)),fun q hq=>(hds q hq).2.1⟩ (by omega) (by omega) hjl (D5.new Fb) (O0.trans (Ht.trans (O4.trans (O5.trans (.new Fb)))))
def xZ:∀z∈(["either","take"]:Vs),PyData.strOk z=true:=by decide +kernel
mutual
/-- no great whole number within -/
noncomputable def cE(b:Nat):PV->Bool
 | .int i=>decide (i.natAbs<=b)
 | .tup xs=>intBs b xs
 |_=>true
noncomputable def intBs(b:Nat):List PV->Bool
 |[]=>true
 |x::r=>cE b x&&intBs b r
end
theorem intBs_iff{b:Nat}:∀{xs:List PV},intBs b xs=true↔∀x∈xs,cE b x=true
 |[]=>by simp[intBs]
 |x::r=>by simp[intBs,intBs_iff (xs:=r)]
def mo{b:Nat}{i:Int}(h:i.natAbs<=b):cE b (.int i)=true:=by simp[cE,h]
def rj{b:Nat}{xs:List PV}(h:∀x∈xs,cE b x=true):cE b (.tup xs)=true:=by simp only[cE];exact intBs_iff.mpr h
def aS{b:Nat}{xs:List PV}(h:cE b (.tup xs)=true):∀x∈xs,cE b x=true:=by simp only[cE]at h;exact intBs_iff.mp h
def jz{b:Nat}{x y:PV}(hx:cE b x=true)(hy:cE b y=true):cE b (.tup [x,y])=true:=by simp[cE,intBs,hx,hy]
def vV{a b:Bd}{v w:PV}{l l1 l2:Int}(h1:l1<=l)(h2:l2<=l1)(z1:pK v<=3 * a.size * (1+(l - l1).toNat))(z2:pK w<=3 * b.size * (1+(l1 - l2).toNat)):pK (.tup [v,w])<=3 * (Bd.Ak a b).size * (1+(l - l2).toNat):=by
 simp only[pK,Ca,Bd.size]
 have e:(l - l2).toNat=(l - l1).toNat+(l1 - l2).toNat:=by omega
 rw[e]
 generalize (l - l1).toNat=u at *
 generalize (l1 - l2).toNat=w at *
 have p1:3 * a.size * (1+u)<=3 * a.size * (1+(u+w)):=K1 _ (by omega)
 have p2:3 * b.size * (1+w)<=3 * b.size * (1+(u+w)):=K1 _ (by omega)
 have p3:3 * (a.size+b.size+1) * (1+(u+w))=3 * a.size * (1+(u+w))+3 * b.size * (1+(u+w))+3 * (1+(u+w)):=by
  rw[show 3 * (a.size+b.size+1)=3 * a.size+3 * b.size+3 by omega,KL,KL]
 omega
def vW{a b c:Bd}{n u:Nat}{v:PV}{i:Int}(hs:n=a.size+b.size+1)(hc:c.size<=a.size+b.size)(z:pK v<=3 * c.size * (1+u)):pK (.tup [.int i,v])<=3 * n * (1+u):=by
 simp only[pK,Ca]
 have p1:3 * c.size * (1+u)<=3 * (a.size+b.size) * (1+u):=Nat.mul_le_mul_right _ (K1 _ hc)
 have p3:3 * n * (1+u)=3 * (a.size+b.size) * (1+u)+3 * (1+u):=by
  rw[hs,show 3 * (a.size+b.size+1)=3 * (a.size+b.size)+3 by omega,KL]
 omega
abbrev gH(n:Nat)(w:ay):Prop:=∀{S:av} {d l x:Addr} {t:Bd} {left wide:Int} {Q:bQ} {E:cg},Aj S d l->S x=some (.lst [.int left])->x≠d->x≠l->0<=left->1<=wide->wide<=2 ^ 60->t.dep<=n->
  (∀v S' left',aN t v=true->Cp 3 (2 * t.dep) v->cE (2 ^ 60) v=true->0<=left'->left'<=left->pK v<=3 * t.size * (1+(left - left').toNat)->Aj S' d l->S' x=some (.lst [.int left'])->AL d l x S S'->Q v S')->w [.ref d,t.pv,.ref x,.int wide] S Q E
def tM{xd s0:ay}(Af:bo xd)(n:Nat)(ih:gH n s0):gH (n+1) (aY 9 (cw xd s0)):=by
 intro S d l x t left wide Q E D hx hxd BV h0 hw1 D_ hd k
 unfold cw
 refine eM ?_
 rw[show ax 9 [PV.ref d,t.pv,PV.ref x,PV.int wide]=[some (.ref d),some t.pv,some (.ref x),some (.int wide),none,none,none,none,none] from rfl]
 refine au fun N hN=>?_
 simp only[bH,aR,ah,v3,lk,c3]
 rw[Bd.DD]
 simp only[af,g_,bv,HW,HP]
 by_cases ht:t.hd=("then":Str)
 ·rw[if_pos ht]
  obtain⟨a,b,rfl⟩:=(Bd.Dd t).mp ht
  simp only[Bd.dep]at hd
  walk_at "y"
  simp only[Bd.tl,eJ,oX]
  refine ih (t:=a) D hx hxd BV h0 hw1 D_ (by omega) fun v1 S1 l1 i1 t1 n1 q0 q1 z1 D1 x1 O1=>?_
  refine ih (t:=b) D1 x1 hxd BV q0 hw1 D_ (by omega) fun v2 S2 l2 i2 t2 n2 r0 r1 z2 D2 x2 O2=>?_
  exact k (.tup [v1,v2]) S2 l2 (by rw[mj,i1,i2];rfl) ((Cp.two (by decide) (t1.mono (HN _) (show _<=2 * max a.dep b.dep by omega)) (t2.mono (HN _) (by omega))).mono (HN _) (by simp only[Bd.dep];omega)) (jz n1 n2) r0 (by omega) (vV q1 r1 z1 z2) D2 x2 (O1.trans O2)
 rw[if_neg ht]
 refine hN _ _ (au fun N hN=>?_)
 simp only[bH,lM,aR,ah,v3,lk,c3]
 simp only[af,g_,bv,HW,HP]
 have two:∀(hd2:List PV) (a b:Bd) (N':bY->av->Prop),.str t.hd::t.tl=hd2++[a.pv,b.pv]->a.dep<=n->b.dep<=n->(t.dep=max a.dep b.dep+1)->(t.size=a.size+b.size+1)->(∀(i:Int) y,aN t (.tup [.int i,y])=if i=0 then aN a y else if i=1 then aN b y else false)->
   ai (aw 5 (ae xd [v3 0,c3 (.int 2)])) (aC (aI [v3 5,ae s0 [v3 0,ah af (v3 1) (ah bp (v3 5) (c3 (.int 2))),v3 2,v3 3]])) { nx:=N',rt:=Q,ex:=eC } [some (.ref d),some (.tup (.str t.hd::t.tl)),some (.ref x),some (.int wide),none,none,none,none,none] S:=by
  intro hd2 a b N' e hda hdb Fc hsz GN
  rw[e]
  refine au fun N2 BY=>?_
  walk_at "x"
  refine Af D (by decide) (by decide) fun i S1 i0 i1 D1 O1=>?_
  refine BY _ _ ?_
  have hi:i=0\/i=1:=by omega
  walk_at "x"
  rw[nT hi]
  have go:∀c:Bd,c.dep<=n->c.dep<=max a.dep b.dep->c.size<=a.size+b.size->(∀y,aN t (.tup [.int i,y])=aN c y)->s0 [.ref d,c.pv,.ref x,.int wide] S1 (fun v S2=>Q (.tup [.int i,v]) S2) eC:=fun c hc hc2 hc3 ec=>by
   refine ih (t:=c) D1 (O1 _ _ hx hxd BV) hxd BV h0 hw1 D_ hc fun v1 S2 l1 j1 t1 n1 q0 q1 z1 D2 x1 O2=>?_
   exact k (.tup [.int i,v1]) S2 l1 (by rw[ec,j1]) ((Cp.two (by decide) (.int i) t1).mono (HN _) (by rw[Fc];omega)) (jz (mo (by rcases hi with rfl|rfl<;>decide)) n1) q0 q1 (vW hsz hc3 z1) D2 x1 (O1.x.trans O2)
  rcases hi with rfl|rfl
  ·exact go a hda (Nat.le_max_left _ _) (by omega) fun y=>by rw[GN];rfl
  ·exact go b hdb (Nat.le_max_right _ _) (by omega) fun y=>by rw[GN];rfl
 by_cases he:t.hd=("either":Str)
 ·rw[if_pos he,if_pos trivial]
  cases t with
  |BK a b=>simp only[Bd.dep]at hd;exact two [.str "either"] a b _ rfl (by omega) (by omega) rfl rfl (fun _ _=>rfl)
  |_=>simp[Bd.hd,aG]at he
 rw[if_neg he]
 by_cases hk:t.hd=("take":Str)
 ·rw[if_pos hk]
  cases t with
  |BZ z mm a b=>simp only[Bd.dep]at hd;exact two [.str "take",.str z,.int mm] a b _ rfl (by omega) (by omega) rfl rfl (fun _ _=>rfl)
  |_=>simp[Bd.hd,aG]at hk
 rw[if_neg hk]
 refine hN _ _ (au fun N hN=>?_)
 walk_at "x"
 intro pf hpf
 have B3:=D.free hpf
 have hpx:pf≠x:=fun h=>by rw[h,hx]at hpf;cases hpf
 have D1:Aj (am S pf (.lst [])) d l:=D.new hpf
 have x1:(am S pf (.lst [])) x=some (.lst [.int left]):=by rw[ak hpx.symm];exact hx
 have O1:AL d l x S (am S pf (.lst [])):=(AI.new hpf).x
 have f1:(am S pf (.lst [])) pf=some (.lst []):=ac
 generalize am S pf (.lst [])=S1 at D1 x1 O1 f1
 refine hN _ _ (au fun N hN=>?_)
 simp only[cp,dH,ah,ae,bR,ao,v3,lk,c3]
 refine Af D1 (by decide) (by decide) fun r S2 r0 r1 D2 O2=>?_
 have x2:=O2 _ _ x1 hxd BV
 have f2:=O2 _ _ f1 B3.1 B3.2
 have Fr:=O1.trans (O2.x (x:=x))
 simp only[af,g_,bv,gy,cm,HW,HP]
 by_cases ho:t.hd=("often":Str)
 ·rw[if_pos ho]
  refine⟨qX (by omega) (by omega),by omega,by omega,?_⟩
  obtain⟨a,rfl⟩:=(Bd.De t).mp ho
  simp only[Bd.dep]at hd
  obtain⟨rr,er⟩:∃rr:Nat,r * 1=(rr:Int):=⟨r.toNat,by omega⟩
  rw[er,Iw]
  refine bK (fun done σ S'=>∃(vs:List PV) (l2:Int) (x6 x7:Option PV),σ=[some (.ref d),some (Bd.BU a).pv,some (.ref x),some (.int wide),none,none,some (.ref pf),x6,x7]/\vs.length<=done.length/\done.length<=rr/\(∀v∈vs,pg a v=true/\Cp 3 (2 * a.dep+1) v/\cE (2 ^ 60) v=true)/\0<=l2/\l2<=left/\Ca vs<=(3 * a.size+2) * (left - l2).toNat/\Aj S' d l/\S' x=some (.lst [.int l2])/\S' pf=some (.lst vs)/\AL d l x S S') ⟨[],left,_,_,rfl,HN _,IM _,by simp,h0,Il _,by simp[Ca],D2,x2,f2,Fr⟩ (fun _ _ _ _=>trivial) ?_ ?_
  ·rintro done y rest σ S3 K e ⟨vs,l2,x6,x7,rfl,hv,hdl,hvs,q0,q1,hsz,D3,x3,f3,O3⟩ hK
   obtain⟨rfl,hi⟩:=gE e
   simp only[Tg.put,List.set_cons_succ,List.set_cons_zero]
   simp only[bH,aR,ah,v3,lk,c3,af,x3,g_,mG,dE,HP]
   by_cases hl2:0 < l2
   ·rw[if_pos hl2]
    refine au fun N2 BY=>?_
    walk_at "x"
    simp only[x3,g_,mF]
    have e1:(if (0:Int)<=0 then if (0:Int) < (([PV.int l2]:List PV).length:Nat) then some (0:Int).toNat else none else if -((([PV.int l2]:List PV).length:Nat):Int)<=0 then some (0+((([PV.int l2]:List PV).length:Nat):Int)).toNat else none)=some 0:=rfl
    rw[e1]
    dsimp only
    have D4:Aj (am S3 x (.lst [.int (l2 - 1)])) d l:=D3.upd hxd BV
    have x4:(am S3 x (.lst [.int (l2 - 1)])) x=some (.lst [.int (l2 - 1)]):=ac
    have f4:(am S3 x (.lst [.int (l2 - 1)])) pf=some (.lst vs):=by rw[ak hpx];exact f3
    have O4:AL d l x S (am S3 x (.lst [.int (l2 - 1)])):=O3.trans .upd
    refine BY _ _ ?_
    show ai _ _ _ _ (am S3 x (.lst [.int (l2 - 1)]))
    generalize am S3 x (.lst [.int (l2 - 1)])=S4 at D4 x4 f4 O4
    refine au fun N3 DC=>?_
    walk_at "x"
    intro pl hpl
    have Fd:=D4.free hpl
    have Ga:pf≠pl:=fun h=>by rw[h,hpl]at f4;cases f4
    have Gb:x≠pl:=fun h=>by rw[h,hpl]at x4;cases x4
    refine Af (D4.new hpl) (by decide) (by decide) fun g S5 g0 g1 D5 O5=>?_
    have p5:=O5 _ _ (ac (S:=S4) (o:=.lst [.int 3,.int wide])) Fd.1 Fd.2
    have x5:=O5 _ _ (by rw[ak Gb];exact x4) hxd BV
    have f5:=O5 _ _ (by rw[ak Ga];exact f4) B3.1 B3.2
    have Fs:AL d l x S S5:=O4.trans ((AI.new hpl).trans O5).x
    simp only[p5]
    obtain⟨w,hw,Dt⟩:=cN (xs:=[PV.int 3,.int wide]) g0 (by simpa using g1)
    rw[hw]
    obtain⟨ww,rfl,Gc,Gd⟩:∃ww,w = .int ww/\1<=ww/\ww<=2 ^ 60:=by
     simp only[HZ,Ie,Je]at Dt
     rcases Dt with rfl|rfl
     ·exact⟨3,rfl,by omega,by omega⟩
     ·exact⟨wide,rfl,hw1,D_⟩
    dsimp only
    refine Af D5 (by omega) (by omega) fun m S6 m0 m1 D6 O6=>?_
    have DO:=O6 _ _ x5 hxd BV
    have f6:=O6 _ _ f5 B3.1 B3.2
    have EN:=Fs.trans (O6.x (x:=x))
    refine DC _ _ ?_
    walk_at "x"
    unfold Bd.pv
    simp only[eJ,f6,true_and]
    refine ih (t:=a) D6 DO hxd BV (by omega) hw1 D_ (by omega) fun v S7 l7 i7 t7 n7 a0 a1 z7 D7 Ea O7=>?_
    have f7:=O7 _ _ f6 B3.1 B3.2 hpx
    simp only[f7]
    refine⟨HX (show _ < 1000 by omega) (by decide),?_⟩
    refine hK _ _ ⟨vs++[.tup [.int (1+m),v]],l7,_,_,rfl,by simp;omega,by rw[HY];exact hi,fun w hw=>?_,a0,by omega,?_,D7.upd B3.1 B3.2,by rw[ak hpx.symm];exact Ea,ac,?_⟩
    ·rcases Iu.mp hw with hw|hw
     ·exact hvs w hw
     ·rw[IB.mp hw]
      exact⟨by simp[pg,i7];omega,Cp.two (by decide) (.int _) t7,jz (mo (by omega)) n7⟩
    ·rw[iJ]
     simp only[pK,Ca]
     have e:(left - l7).toNat=(left - l2).toNat+(1+(l2 - 1 - l7).toNat):=by omega
     rw[e]
     generalize (left - l2).toNat=u at *
     generalize (l2 - 1 - l7).toNat=w at *
     have p1:(3 * a.size+2) * (u+(1+w))=(3 * a.size+2) * u+(3 * a.size * (1+w)+2 * (1+w)):=by rw[Nat.mul_add,KL (3 * a.size) 2 (1+w)]
     omega
    ·intro b o hb h1 h2 h3
     have Ge:b≠pf:=fun h=>by rw[h,hpf]at hb;cases hb
     rw[ak Ge]
     exact O7 _ _ (EN _ _ hb h1 h2 h3) h1 h2 h3
   ·rw[if_neg hl2]
    exact hK _ _ ⟨vs,l2,_,_,rfl,by simp;omega,by rw[HY];exact hi,hvs,q0,q1,hsz,D3,x3,f3,O3⟩
  ·rintro σ S3 ⟨vs,l2,x6,x7,rfl,hv,hdl,hvs,q0,q1,hsz,D3,x3,f3,O3⟩
   refine hN _ _ ?_
   walk_at "x"
   simp only[f3]
   refine k (.tup vs) S3 l2 ?_ (.tup (by omega) fun v hv=>(hvs v hv).2.1) (rj fun v hv=>(hvs v hv).2.2) q0 q1 ?_ D3 x3 O3
   case refine_2=>
    simp only[pK,Bd.size]
    generalize (left - l2).toNat=u at *
    have p1:3 * (a.size+1) * (1+u)=3 * a.size * u+3 * a.size+3 * u+3:=by rw[show 3 * (a.size+1)=3 * a.size+3 by omega,KL,Nat.mul_add (3 * a.size)];omega
    have p2:(3 * a.size+2) * u=3 * a.size * u+2 * u:=KL _ _ _
    omega
   rw[ml,I9]
   exact fun v hv=>(hvs v hv).1
 ·rw[if_neg ho]
  refine⟨qX (by omega) (by omega),by omega,by omega,?_⟩
  rw[JY]
  refine⟨trivial,?_⟩
  refine hN _ _ ?_
  walk_at "x"
  simp only[f2]
  have hp:t.plain=true:=by
   cases t with
   |BU a=>exact absurd rfl ho
   |Ak=>exact absurd rfl ht
   |BK=>exact absurd rfl he
   |BZ=>exact absurd rfl hk
   |_=>rfl
  refine k (.tup []) S2 left (by rw[nj hp];rfl) (Cp.nil.mono (HN _) (show 0+1<=_ by have:=t.A6;omega)) rfl h0 (Il _) (by simp[pK,Ca];have:=t.A6;have:=t.AK;omega) D2 x2 Fr
abbrev lq(w:ay):Prop:=∀{S:av} {d l:Addr} {Q:bQ} {E:cg},Aj S d l->(∀js ds S',BD 6 js [] ds->1<=ds.length->ds.length<=4->js.length<=8->Aj S' d l->AI d l S S'->Q (de js ds) S')->w [.ref d] S Q E
def Df{xd xh xw xb:ay}(Af:bo xd)(Fe:f_ xh)(BA:fA xw)(n:Nat)(hn6:6<=n)(B2:fk n xb):lq (aY 4 (b5 xd xh xw xb)):=by
 intro Sa d l Q E Da k
 unfold b5
 refine eM ?_
 rw[show ax 4 [PV.ref d]=[some (.ref d),none,none,none] from rfl]
 refine au fun N hN=>?_
 walk_at "x"
 refine Af Da (by decide) (by decide) fun r9 S0 _ _ D0 Oa=>?_
 simp only[HW,HP]
 split
 ·exact Fe (most:=4) (many:=4) (size:=20) D0 (by decide) (by decide) (by decide) (by decide) (by decide) fun js ds S' a b c e f g=>k js ds S' a b c e f (Oa.trans g)
 refine hN _ _ (au fun N hN=>?_)
 walk_at "x"
 refine BA D0 (by decide) (by decide) fun p ns S hl hnd hw0 _ DE hpl hp D O0=>?_
 have hl8':ns.length=8:=hl
 have Hs:8<=ns.length:=by omega
 have Fa:ns.length<=100:=by omega
 have hw:∀z∈ns,CZ z:=fun z hz=>(hw0 z hz).1
 refine hN _ _ ?_
 refine au fun N hN=>?_
 walk_at "x"
 refine Af (m:=5) D (by omega) (by omega) fun r S1 r0 r1 D1 O1=>?_
 obtain⟨j,rfl⟩:∃j:Nat,r=(j:Int):=⟨r.toNat,by omega⟩
 have hp1:=O1 _ _ hp DE hpl
 rw[hp1]
 dsimp only
 rw[rf (by rw[HQ];omega),<-List.map_take]
 intro p2 hp2
 rw[ac]
 dsimp only
 have D2:Aj (am S1 p2 (.lst ((ns.take j).map PV.str))) d l:=D1.new hp2
 have O2:AI d l S (am S1 p2 (.lst ((ns.take j).map PV.str))):=O1.trans (.new hp2)
 have hp2':=AI.new (o:=.lst ((ns.take j).map PV.str)) hp2 _ _ hp1 DE hpl
 generalize am S1 p2 (.lst ((ns.take j).map PV.str))=S2 at D2 O2 hp2'
 refine hN _ _ (au fun N hN=>?_)
 walk_at "x"
 refine Af (m:=4) D2 (by omega) (by omega) fun r4 S4 a0 a1 D4 O4=>?_
 obtain⟨mm,em⟩:∃mm:Nat,1+r4=(mm:Int):=⟨(1+r4).toNat,by omega⟩
 dsimp only
 rw[em]
 have Du:=O4 _ _ hp2' DE hpl
 have hg:(4:Nat)<=4:=HN _
 refine hN _ _ ?_
 walk_at "x"
 refine⟨by omega,by omega,?_⟩
 rw[Iw]
 have hjl:(ns.take j).length<=8:=by rw[Jm];omega
 refine jq (fun done ys S'=>∃ds:List (Str×Bd),ys=ds.map jx/\ds.length=done.length/\ds.map Prod.fst=(ns.drop 4).take done.length/\done.length<=mm/\(∀q∈ds,q.2.good (ns.take j) []/\q.2.dep<=6/\q.2.size<=60)/\Aj S' d l/\AI d l S4 S') ⟨[],rfl,rfl,rfl,IM _,by simp,D4,.refl⟩ ?_ ?_ ?_
 ·rintro done ys S' ⟨ds,rfl,e,_,hd,_⟩
  exact⟨trivial,cx (by rw[HQ,e];omega)⟩
 ·rintro done x rest ys S' K e ⟨ds,rfl,e2,e3,hd,hc,D',O'⟩ hK
  obtain⟨rfl,hi⟩:=gE e
  walk_at "x"
  try simp only[bZ,JO]
  have hp':=O' _ _ Du DE hpl
  simp only[hp']
  have hlt:4+done.length < ns.length:=by omega
  have hat:AS (ns.map PV.str) (4+(done.length:Int))=some (.str ns[4+done.length]):=by
   have:(4+(done.length:Int))=((4+done.length:Nat):Int):=by omega
   rw[this]
   exact nh (by rw[Ia,IL hlt];rfl)
  rw[hat]
  dsimp only
  intro px hx
  have dx:=D'.free hx
  refine B2 (D'.new hx) ac dx.1 dx.2 (by omega) (by omega) (by omega) (by decide) (by omega) fun t S5 l1 tg td q0 q1 D5 hx5 O5=>?_
  have F_:AI d l S' S5:=fun a o ha h1 h2=>O5 a o (by rw[ak (fun e=>by rw[e,hx]at ha;cases ha)];exact ha) h1 h2 (fun e=>by rw[e,hx]at ha;cases ha)
  refine hK _ _ ⟨ds++[(ns[4+done.length],t)],by simp[jx],by simp[e2],?_,by rw[HY];exact hi,fun y hy=>?_,D5,O'.trans F_⟩
  ·rw[KS,e3,HY,Jk,List.take_succ,Kf,IL hlt]
   rfl
  ·rcases Iu.mp hy with hy|hy
   ·exact hc y hy
   ·rw[IB.mp hy];exact⟨tg,show t.dep<=6 by omega,show t.size<=60 by omega⟩
 rintro ys S5 ⟨ds,rfl,e,ef,_,hds,D5,O5⟩
 rw[cq]at e ef
 intro p6 Fb
 rw[ac]
 dsimp only
 have sub:∀q∈ds,q.1∈ns:=fun q hq=>by
  have:q.1∈ds.map Prod.fst:=Ii.mpr ⟨q,hq,rfl⟩
  rw[ef]at this
  exact JW (Jr this)
 refine k (ns.take j) ds _ ⟨⟨by omega,by omega,fun z hz=>hw z (Jr hz),by simp,fun q hq=>hw _ (sub q hq),fun q hq=>(hds q hq).1,fun q hq=>by have:=(hds q hq).2.1;omega,fun q hq=>(hds q hq).2.2⟩,hnd.sublist (JR _ _),by rw[ef];exact hnd.sublist ((JR _ _).trans (List.drop_sublist _ _)),fun q hq=>(hds q hq).2.1⟩ (by omega) (by omega) hjl (D5.new Fb) (Oa.trans (O0.trans (O2.trans (O4.trans (O5.trans (.new Fb))))))
noncomputable def cf(n:Int):PV:=.tup [.int (M3.bn n 2520),.int (M3.aO n 2520)]
def iW:(.tup [.int 0,.int 1]:PV)=cf 0:=by
 have h1:M3.bn 0 2520=0:=by decide +kernel
 have h2:M3.aO 0 2520=1:=by decide +kernel
 unfold cf
 rw[h1,h2]
def nk(n:Int):M3.yv (M3.bn n 2520) (M3.aO n 2520):=M3.kS (by decide)
def fm(n:Int):M3.bn n 2520 * 2520=n * M3.aO n 2520:=M3.oI (by decide)
def cY(n:Int):0 < M3.aO n 2520/\M3.aO n 2520<=2520:=by
 refine⟨(nk n).pos,?_⟩
 unfold M3.aO
 rw[if_neg (by decide)]
 exact Lf _ (by decide)
def fB{n:Int}(h:0<=n):0<=M3.bn n 2520:=by
 unfold M3.bn
 rw[if_neg (by decide)]
 exact Kc h (Int.natCast_nonneg _)
def x_{n B:Int}(h0:0<=n)(h:n<=B):M3.bn n 2520<=B:=by
 unfold M3.bn
 rw[if_neg (by decide)]
 exact Lg (Lf _ h0) h
def nU{x y:Int}(h:oY x y):(.tup [.int x,.int y]:PV)=cf (x * (2520 / y)):=by
 have hy:y=1\/y=2\/y=3\/y=4\/y=5\/y=6\/y=7\/y=8\/y=9:=by have:=h.low.pos;have:=h.y1;omega
 have e:2520 / y * y=2520:=by rcases hy with rfl|rfl|rfl|rfl|rfl|rfl|rfl|rfl|rfl<;>decide
 have u:=M3.fT h.low (x:=x * (2520 / y)) (y:=2520) (by decide) (by rw[KG,e])
 unfold cf
 rw[u.1,u.2]
def nV(n m:Int):(.tup [.int (M3.bn (M3.bn n 2520 * M3.aO m 2520+M3.bn m 2520 * M3.aO n 2520) (M3.aO n 2520 * M3.aO m 2520)),.int (M3.aO (M3.bn n 2520 * M3.aO m 2520+M3.bn m 2520 * M3.aO n 2520) (M3.aO n 2520 * M3.aO m 2520))]:PV)=cf (n+m):=by
 have u:=M3.fT (nk (n+m)) (x:=M3.bn n 2520 * M3.aO m 2520+M3.bn m 2520 * M3.aO n 2520) (y:=M3.aO n 2520 * M3.aO m 2520) (Int.mul_pos (cY n).1 (cY m).1) (by
  have h1:=fm n;have h2:=fm m;have h3:=fm (n+m)
  generalize M3.bn n 2520=a at *;generalize M3.aO n 2520=b at *;generalize M3.bn m 2520=c at *;generalize M3.aO m 2520=d at *
  generalize M3.bn (n+m) 2520=L at *;generalize M3.aO (n+m) 2520=B at *
  grind)
 unfold cf
 rw[u.1,u.2]
def rm(n m:Int):(.tup [.int (M3.bn (M3.bn n 2520 * m) (M3.aO n 2520 * 1)),.int (M3.aO (M3.bn n 2520 * m) (M3.aO n 2520 * 1))]:PV)=cf (n * m):=by
 have u:=M3.fT (nk (n * m)) (x:=M3.bn n 2520 * m) (y:=M3.aO n 2520 * 1) (by rw[JU];exact(cY n).1) (by
  have h1:=fm n;have h3:=fm (n * m)
  generalize M3.bn n 2520=a at *;generalize M3.aO n 2520=b at *
  generalize M3.bn (n * m) 2520=L at *;generalize M3.aO (n * m) 2520=B at *
  grind)
 unfold cf
 rw[u.1,u.2]
abbrev Ty:=Int×List (Int×Int)
noncomputable def jn(p q:Int×Int):Int×Int:=(p.1+q.1,if q.2 - p.1 > p.2 then q.2 - p.1 else p.2)
noncomputable def Ty.join(t u:Ty):Ty:=(t.1+u.1,List.zipWith jn t.2 u.2)
noncomputable def ag(m:Int)(p:Int×Int):Int×Int:=(p.1 * m,p.2+(if -p.1 * (m - 1) > 0 then -p.1 * (m - 1) else 0))
noncomputable def Ty.again(m:Int)(t:Ty):Ty:=(t.1 * m,t.2.map (ag m))
noncomputable def zl(js:Vs):List (Int×Int):=js.map fun _=>(0,0)
noncomputable def z0(js:Vs):Ty:=(0,zl js)
def jA(e m:Int)(hm:1<=m):-e * (m - 1)=e - e * m/\(0<=e->e<=e * m)/\(e < 0->e * m<=e):=by
 refine⟨by grind,fun h=>?_,fun h=>?_⟩
 ·have:=Iz hm h;omega
 ·have:=Iz hm (show 0 <= -e by omega);rw[KJ,KJ]at this;omega
def tN{a b:Int}(p:Int×Int)(ha:1<=a)(hb:1<=b):jn (ag a p) (ag b p)=ag (a+b) p:=by
 obtain⟨e,d⟩:=p
 obtain⟨a1,a2,a3⟩:=jA e a ha
 obtain⟨b1,b2,b3⟩:=jA e b hb
 obtain⟨c1,c2,c3⟩:=jA e (a+b) (by omega)
 have c4:e * (a+b)=e * a+e * b:=Lc _ _ _
 simp only[jn,ag,a1,b1,c1,c4]
 generalize e * a=x at *
 generalize e * b=y at *
 refine Kq rfl ?_
 dsimp only
 by_cases he:0<=e
 ·have:=a2 he;have:=b2 he
  rw[if_neg (show ¬(e - y > 0) by omega),if_neg (show ¬(e - x > 0) by omega),if_neg (show ¬(e - (x+y) > 0) by omega)]
  split<;>omega
 ·have:=a3 (by omega);have:=b3 (by omega)
  rw[if_pos (show e - (x+y) > 0 by omega)]
  by_cases h1:e - y > 0
  ·rw[if_pos h1]
   by_cases h2:e - x > 0
   ·rw[if_pos h2];split<;>omega
   ·rw[if_neg h2];split<;>omega
  ·rw[if_neg h1]
   by_cases h2:e - x > 0
   ·rw[if_pos h2];split<;>omega
   ·rw[if_neg h2];split<;>omega
def kA{m:Int}{p:Int×Int}(h:0<=p.2):0<=(ag m p).2:=by
 simp only[ag]
 split<;>omega
noncomputable def pw(m:Int)(p:Int×Int):Int×Int:=if m=0 then (0,0) else ag m p
def Cq{a b:Int}{p:Int×Int}(ha:0<=a)(hb:1<=b)(h:0<=p.2):jn (pw a p) (pw b p)=pw (a+b) p:=by
 unfold pw
 rw[if_neg (show ¬b=0 by omega),if_neg (show ¬a+b=0 by omega)]
 by_cases h0:a=0
 ·subst h0
  rw[if_pos rfl,Kw]
  have:=kA (m:=b) h
  simp only[jn]
  refine Kq (Kw _) ?_
  dsimp only
  split<;>omega
 ·rw[if_neg h0]
  exact tN p (by omega) hb
noncomputable def Ty.pw(m:Int)(t:Ty):Ty:=(t.1 * m,t.2.map (C.pw m))
def Ty.Ok(js:Vs)(t:Ty):Prop:=t.2.length=js.length/\0<=t.1/\∀p∈t.2,0<=p.2
theorem gJ{α β:Type}(f:α->α->β):∀l:List α,List.zipWith f l l=l.map fun x=>f x x
 |[]=>rfl
 |x::r=>by rw[List.zipWith_cons_cons,gJ f r];rfl
theorem Ty.Cq{a b:Int}{js:Vs}{t:Ty}(ha:0<=a)(hb:1<=b)(h:t.Ok js):(t.pw a).join (t.pw b)=t.pw (a+b):=by
 unfold Ty.pw Ty.join
 refine Kq ?_ ?_
 ·exact(Lc _ _ _).symm
 ·dsimp only
  rw[List.zipWith_map,gJ]
  exact IP fun p hp=>C.Cq ha hb (h.2.2 p hp)
def Ty.EC{t:Ty}{js:Vs}(h:t.Ok js):t.pw 1=t:=by
 unfold Ty.pw
 refine Kq (JU _) ?_
 dsimp only
 refine(IP fun p hp=>?_).trans (List.map_id _)
 unfold C.pw ag
 rw[if_neg (by decide)]
 refine Kq (JU _) ?_
 dsimp only
 rw[if_neg (by simp)]
 exact Lh _
def Ty.CO(t:Ty):t.pw 0=(0,t.2.map fun _=>(0,0)):=by
 unfold Ty.pw
 refine Kq (JY _) ?_
 dsimp only
 exact IP fun p hp=>by unfold C.pw;rw[if_pos rfl]
def Ty.DF{t:Ty}{m:Int}(hm:1<=m):t.pw m=t.again m:=by
 unfold Ty.pw Ty.again
 refine Kq rfl (IP fun p hp=>?_)
 unfold C.pw
 rw[if_neg (by omega)]
theorem jB{α β γ:Type}{f:α->β->γ}:∀{xs:List α} {ys:List β} {z:γ},z∈List.zipWith f xs ys->∃x∈xs,∃y∈ys,z=f x y
 |[],_,z,h=>by simp at h
 |_::_,[],z,h=>by simp at h
 |x::r,y::s,z,h=>by
  rw[List.zipWith_cons_cons,HZ]at h
  rcases h with rfl|h
  ·exact⟨x,by simp,y,by simp,rfl⟩
  ·obtain⟨a,ha,b,hb,e⟩:=jB h
   exact⟨a,by simp[ha],b,by simp[hb],e⟩
theorem Ty.Ok.join{js:Vs}{t u:Ty}(h:t.Ok js)(g:u.Ok js):(t.join u).Ok js:=by
 refine⟨?_,?_,fun p hp=>?_⟩
 ·show(List.zipWith jn t.2 u.2).length=_
  rw[List.length_zipWith,h.1,g.1,Nat.min_self]
 ·exact Int.add_nonneg h.2.1 g.2.1
 ·obtain⟨x,hx,y,hy,rfl⟩:=jB hp
  have:=h.2.2 x hx
  simp only[jn]
  split<;>omega
theorem Ty.Ok.again{js:Vs}{t:Ty}{m:Int}(h:t.Ok js)(hm:1<=m):(t.again m).Ok js:=by
 refine⟨?_,Jg h.2.1 (by omega),fun p hp=>?_⟩
 ·show(t.2.map (ag m)).length=_
  rw[HQ,h.1]
 ·obtain⟨x,hx,rfl⟩:=Ii.mp hp
  exact kA (h.2.2 x hx)
def fo(js:Vs):(z0 js).Ok js:=⟨HQ _,Il _,fun p hp=>by obtain⟨x,hx,rfl⟩:=Ii.mp hp;exact Il _⟩
def pk{js:Vs}{t:Ty}(h:t.Ok js):(z0 js).join t=t:=by
 unfold Ty.join z0
 refine Kq (Kw _) ?_
 dsimp only
 have:∀(l:List (Int×Int)) (ks:Vs),l.length=ks.length->(∀p∈l,0<=p.2)->List.zipWith jn (zl ks) l=l:=fun l=>by
  induction l with
  |nil=>intro ks _ _;exact List.zipWith_nil_right
  |cons p r ih=>
   intro ks hl hp
   cases ks with
   |nil=>cases hl
   |cons k ks=>
    show jn (0,0) p::List.zipWith jn (zl ks) r=_
    rw[ih ks (by simpa using hl) fun q hq=>hp q (by simp[hq])]
    have:=hp p (by simp)
    congr 1
    simp only[jn]
    refine Kq (Kw _) ?_
    dsimp only
    split<;>omega
 exact this t.2 js h.1 h.2.2
def Ty.CB(B:Int)(t:Ty):Prop:=t.1<=B/\∀p∈t.2,-B<=p.1/\p.1<=B/\p.2<=B
def Ty.CB.mono{B D:Int}{t:Ty}(h:t.CB B)(g:B<=D):t.CB D:=⟨Lg h.1 g,fun p hp=>by have:=h.2 p hp;omega⟩
theorem Ty.CB.join{B D:Int}{t u:Ty}(h:t.CB B)(g:u.CB D)(hB:0<=B)(hD:0<=D):(t.join u).CB (B+D):=by
 refine⟨Int.add_le_add h.1 g.1,fun p hp=>?_⟩
 obtain⟨x,hx,y,hy,rfl⟩:=jB hp
 have:=h.2 x hx
 have:=g.2 y hy
 simp only[jn]
 split<;>omega
theorem Ty.CB.again{B m:Int}{t:Ty}(h:t.CB B)(hB:0<=B)(hm:1<=m):(t.again m).CB (B * m):=by
 refine⟨Ih h.1 (by omega),fun p hp=>?_⟩
 obtain⟨⟨e,d⟩,hx,rfl⟩:=Ii.mp hp
 obtain⟨h1,h2,h3⟩:=h.2 _ hx
 dsimp only at h1 h2 h3
 have m1:=Ih h1 (show 0<=m by omega)
 have m2:=Ih h2 (show 0<=m by omega)
 have m3:=Ih h1 (show 0<=m - 1 by omega)
 rw[KJ]at m1 m3
 have e1:B * (m - 1)=B * m - B:=by rw[Int.mul_sub,JU]
 have e2:-e * (m - 1) = -(e * (m - 1)):=KJ _ _
 simp only[ag]
 refine⟨m1,m2,?_⟩
 rw[e2]
 have:B<=B * m:=by have:=Iz hm hB;omega
 split<;>omega
theorem aP{α:Type}{g:Tg}{te:aX}{σ':bY}{keep:av->Prop}{fin:List PV->av->Prop}{S:av}(enc f:α->PV)(hk:keep S):∀(xs:List α) (ys:List PV),
  (∀x∈xs,∃σ2,g.put (enc x) σ'=some σ2/\∀Q:bQ,Q (f x) S->te σ2 S Q eC)->ys.length+xs.length<=sizeLine->fin (ys++xs.map f) S->dk g bZ te σ' keep fin (xs.map enc) ys S
 |[],ys,_,hl,hf=>⟨hk,by simpa using hl,by simpa using hf⟩
 |x::r,ys,h,hl,hf=>by
  obtain⟨σ2,e,h1⟩:=h x (by simp)
  refine⟨hk,by simp at hl;omega,?_⟩
  rw[e]
  show te σ2 S (fun y S4=>dk g bZ te σ' keep fin (r.map enc) (ys++[y]) S4) eC
  exact h1 _ (aP enc f hk r (ys++[f x]) (fun y hy=>h y (by simp[hy])) (by simp at hl ⊢;omega) (by simpa using hf))
def du{n:Nat}(h:n<=1000):n<=sizeLine:=Ib h (by decide)
abbrev jC(w:ay):Prop:=∀{S:av} {a b:Int} {Q:bQ} {E:cg},0<=a->0<=b->Q (.int (Int.gcd a b)) S->w [.int a,.int b] S Q E
def BG:jC (aY 3 jg):=by
 intro S a b Q E ha hb k
 unfold jg
 refine eM ?_
 rw[show ax 3 [PV.int a,PV.int b]=[some (.int a),some (.int b),none] from rfl]
 refine au fun N hN=>?_
 refine⟨fun n σ S'=>S'=S/\∃(x y:Int) (z:Option PV),σ=[some (.int x),some (.int y),z]/\0<=x/\0<=y/\Int.gcd x y=Int.gcd a b/\y.toNat=n,⟨_,rfl,a,b,none,rfl,ha,hb,rfl,rfl⟩,?_⟩
 rintro n σ S' ⟨rfl,x,y,z,rfl,hx,hy,hg,rfl⟩
 walk_at "x"
 simp only[KH,Bool.not_eq_true',decide_eq_false_iff_not]
 split
 ·rename_i hp
  refine⟨fun σ' C_=>C_=S'/\∃(x' y':Int) (z':Option PV),σ'=[some (.int x'),some (.int y'),z']/\0<=x'/\0<=y'/\Int.gcd x' y'=Int.gcd a b/\y'.toNat < y.toNat,?_,?_⟩
  ·rintro σ' C_ ⟨rfl,x',y',z',rfl,h1,h2,h3,h4⟩
   exact⟨_,h4,rfl,x',y',z',rfl,h1,h2,h3,rfl⟩
  ·have e:x.fmod y=x % y:=fh hy
   have l1:=KR x (b:=y) hp
   have l2:=Kg x (show 0 < y by omega)
   refine⟨hp,rfl,y,x.fmod y,_,rfl,hy,by omega,?_,by omega⟩
   rw[M3.lX];exact hg
 ·rename_i hp
  have EM:y=0:=by omega
  subst EM
  refine hN _ _ ?_
  walk_at "x"
  rw[if_neg (by omega)]
  have F0:x=(Int.gcd a b:Int):=by
   rw[<-hg]
   rw[Int.gcd_zero_right]
   omega
  rw[F0]
  exact k
abbrev jD(w:ay):Prop:=∀{S:av} {t b:Int} {Q:bQ} {E:cg},0<=t->0 < b->b.natAbs < 2 ^ 8000->Q (.tup [.int (M3.bn t b),.int (M3.aO t b)]) S->w [.int t,.int b] S Q E
def BH{xc:ay}(BG:jC xc):jD (aY 3 (fY xc)):=by
 intro S t b Q E ht hb hs k
 unfold fY
 refine eM ?_
 rw[show ax 3 [PV.int t,PV.int b]=[some (.int t),some (.int b),none] from rfl]
 refine au fun N hN=>?_
 walk_at "x"
 refine BG ht (by omega) (hN _ _ (au fun N hN=>?_))
 walk_at "x"
 rw[if_neg (by rw[HP];omega)]
 refine hN _ _ ?_
 walk_at "x"
 have gp:(0:Int) < (Int.gcd t b:Int):=Ka.mpr (M3.fz (by omega))
 have gl:=M3.qz (t:=t) (b:=b) (by omega)
 have cd:∀z,km z (Int.gcd t b:Int):=fun z=>⟨by omega,Ke (by omega) hs⟩
 refine⟨cd _,cd _,?_⟩
 have d1:=(M3.lW (t:=t) (b:=b) (by omega))
 rw[if_neg (by omega)]at d1
 rw[d1.1,d1.2]
 exact k
def ya(n m:Int):0 < M3.aO n 2520 * M3.aO m 2520/\(M3.aO n 2520 * M3.aO m 2520).natAbs < 2 ^ 8000:=by
 obtain⟨a,b⟩:=cY n
 obtain⟨c,d⟩:=cY m
 have p:=Int.mul_pos a c
 have q:M3.aO n 2520 * M3.aO m 2520<=2520 * 2520:=Int.mul_le_mul b d (by omega) (by decide)
 exact⟨p,ip (by omega)⟩
def pp(i n:Int):IntMulOk i (M3.aO n 2520):=by have:=cY n;exact jo (by omega) (by omega)
abbrev dv(w:ay):Prop:=∀{S:av} {n m:Int} {Q:bQ} {E:cg},0<=n->0<=m->Q (cf (n+m)) S->w [cf n,cf m] S Q E
def B4{xf:ay}(BH:jD xf):dv (aY 2 (na xf)):=by
 intro S n m Q E hn hm k
 unfold na
 refine eM ?_
 rw[show ax 2 [cf n,cf m]=[some (cf n),some (cf m)] from rfl]
 simp only[cf]
 walk_at "x"
 simp only[g_,eJ]
 refine⟨pp _ _,pp _ _,pp _ _,?_⟩
 have b:=ya n m
 refine BH (Int.add_nonneg (Jg (fB hn) (Jx (cY m).1)) (Jg (fB hm) (Jx (cY n).1))) b.1 b.2 ?_
 rw[nV]
 exact k
def rq{xf:ay}(Ct:iV xf):dv (aY 2 (fe xf)):=by
 intro S n m Q E hn hm k
 unfold fe
 refine eM ?_
 rw[show ax 2 [cf n,cf m]=[some (cf n),some (cf m)] from rfl]
 simp only[cf]
 walk_at "x"
 simp only[g_,eJ]
 refine⟨pp _ _,pp _ _,pp _ _,?_⟩
 have b:=ya n m
 refine Ct b.1 b.2 ?_
 rw[nV]
 exact k
abbrev ir(w:ay):Prop:=∀{S:av} {n m:Int} {Q:bQ} {E:cg},0<=n->0<=m->m < 2 ^ 62->Q (cf (n * m)) S->w [cf n,.tup [.int m,.int 1]] S Q E
def Cu{xf:ay}(BH:jD xf):ir (aY 2 (k7 xf)):=by
 intro S n m Q E hn hm hm2 k
 unfold k7
 refine eM ?_
 rw[show ax 2 [cf n,.tup [.int m,.int 1]]=[some (cf n),some (.tup [.int m,.int 1])] from rfl]
 simp only[cf]
 walk_at "x"
 simp only[g_,eJ]
 refine⟨jo (by omega) (by omega),jo (by decide) (by decide),?_⟩
 have b:=cY n
 refine BH (Jg (fB hn) hm) (by omega) (ip (by omega)) ?_
 rw[rm]
 exact k
noncomputable def Ty.es(t:Ty):List PV:=t.2.map fun p=>.int p.1
noncomputable def Ty.dm(t:Ty):List PV:=t.2.map fun p=>.int p.2
noncomputable def Ty.pv(t:Ty):PV:=.tup [cf t.1,.tup t.es,.tup t.dm]
noncomputable def dB(js:Vs):PV:=.tup (js.map PV.str)
noncomputable def kB(js:Vs)(z:Str)(e d:Int):List (Int×Int):=js.map fun j=>if j=z then (e,d) else (0,0)
abbrev gK(w:ay):Prop:=∀{S:av} {js:Vs} {Q:bQ} {E:cg},js.length<=1000->Q (z0 js).pv S->w [dB js] S Q E
def rA(js:Vs):List.replicate js.length (PV.int 0)=(z0 js).es:=by
 unfold Ty.es z0 zl
 rw[Im]
 induction js with
 |nil=>rfl
 |cons j js ih=>rw[Ic,Iq,ih];rfl
def vX(js:Vs):List.replicate js.length (PV.int 0)=(z0 js).dm:=by rw[rA];unfold Ty.es Ty.dm z0 zl;rw[Im,Im];rfl
def AU:gK (aY 1 fZ):=by
 intro S js Q E hj k
 unfold fZ
 refine eM ?_
 rw[show ax 1 [dB js]=[some (dB js)] from rfl]
 unfold dB
 walk_at "x"
 simp only[jj,HQ,Int.toNat_natCast]
 refine⟨by omega,by omega,by omega,by omega,?_⟩
 rw[iW]
 have e:(PV.tup [cf 0,.tup (List.replicate js.length (.int 0)),.tup (List.replicate js.length (.int 0))])=(z0 js).pv:=by
  unfold Ty.pv
  rw[<-rA,<-vX]
  rfl
 rw[e]
 exact k
abbrev gc(w:ay):Prop:=∀{S:av} {js:Vs} {z:Str} {m:Int} {Q:bQ} {E:cg},js.length<=1000->(∀S',Ext S S'->Q (.tup (js.map fun j=>.int (if j=z then m else 0))) S')->w [dB js,.str z,.int m] S Q E
def AH:gc (aY 3 fc):=by
 intro S js z m Q E hj k
 unfold fc
 refine eM ?_
 rw[show ax 3 [dB js,.str z,.int m]=[some (dB js),some (.str z),some (.int m)] from rfl]
 unfold dB
 walk_at "x"
 refine aP PV.str (fun j=>.int (if j=z then m else 0)) trivial js [] (fun j hj=>⟨_,rfl,fun Q q=>?_⟩) (by simpa using du hj) fun p hp=>?_
 ·walk_at "x"
  simp only[HW,HP]
  split
  ·rename_i h;rw[if_pos h]at q;exact q
  ·rename_i h;rw[if_neg h]at q;exact q
 ·simp only[List.nil_append,ac]
  exact k _ (.new hp)
def rB{α β γ δ:Type}(f:α->β->γ)(g:γ->δ)(xs:List α)(ys:List β):(xs.zip ys).map (fun z=>g (f z.1 z.2))=(List.zipWith f xs ys).map g:=by
 rw[List.zip,List.map_zipWith,List.map_zipWith]
def vY(t u:Ty):dI t.es u.es=(t.2.zip u.2).map fun z=>.tup [.int z.1.1,.int z.2.1]:=by
 unfold dI Ty.es
 rw[List.zip_map,Im]
 rfl
def vZ(t:Ty):dI t.es t.dm=t.2.map fun z=>.tup [.int z.1,.int z.2]:=by
 unfold dI Ty.es Ty.dm
 rw[List.zip_map,Im]
 rw[show t.2.zip t.2=t.2.map fun x=>(x,x)from gJ _ _,Im]
 rfl
def pr(t u:Ty):dN t.es t.dm u.dm=(t.2.zip u.2).map fun z=>.tup [.int z.1.1,.int z.1.2,.int z.2.2]:=by
 unfold dN Ty.es Ty.dm
 have:∀(l m:List (Int×Int)),((l.map fun p=>PV.int p.1).zip ((l.map fun p=>PV.int p.2).zip (m.map fun p=>PV.int p.2))).map xS=(l.zip m).map fun z=>.tup [.int z.1.1,.int z.1.2,.int z.2.2]:=fun l=>by
  induction l with
  |nil=>intro m;rfl
  |cons p r ih=>
   intro m
   cases m with
   |nil=>rfl
   |cons q s=>simp only[Ir,List.zip_cons_cons];rw[ih s];rfl
 exact this t.2 u.2
def lr(t u:Ty):(t.2.zip u.2).map (fun z=>PV.int (z.1.1+z.2.1))=(t.join u).es:=rB jn (fun p=>PV.int p.1) t.2 u.2
def nW(t u:Ty):(t.2.zip u.2).map (fun z=>PV.int (jn z.1 z.2).2)=(t.join u).dm:=rB jn (fun p=>PV.int p.2) t.2 u.2
abbrev iu(w:ay):Prop:=∀{S:av} {t u:Ty} {Q:bQ} {E:cg},t.2.length<=1000->(∀S',Ext S S'->Q (.tup (t.join u).es) S')->w [.tup t.es,.tup u.es] S Q E
def Bi:iu (aY 2 k8):=by
 intro S t u Q E hj k
 unfold k8
 refine eM ?_
 rw[show ax 2 [.tup t.es,.tup u.es]=[some (.tup t.es),some (.tup u.es)] from rfl]
 walk_at "x"
 rw[vY]
 refine aP _ (fun z=>PV.int (z.1.1+z.2.1)) trivial _ [] (fun z hz=>⟨_,rfl,fun Q q=>?_⟩) ?_ fun p hp=>?_
 ·walk_at "x"
  exact q
 ·rw[Jh,J3,List.length_zip]
  exact du (by omega)
 ·simp only[List.nil_append,ac]
  rw[lr]
  exact k _ (.new hp)
abbrev jE(w:ay):Prop:=∀{S:av} {t:Ty} {m:Int} {Q:bQ} {E:cg},t.2.length<=1000->0<=m->m < 2 ^ 62->(∀S',Ext S S'->Q (.tup (t.again m).es) S')->w [.tup t.es,.int m] S Q E
def mq(t:Ty)(m:Int):t.2.map (fun p=>PV.int (p.1 * m))=(t.again m).es:=by
 unfold Ty.again Ty.es
 rw[Im]
 rfl
def rC(t:Ty)(m:Int):t.2.map (fun p=>PV.int (ag m p).2)=(t.again m).dm:=by
 unfold Ty.again Ty.dm
 rw[Im]
 rfl
def BI:jE (aY 2 dM):=by
 intro S t m Q E hj h0 h1 k
 unfold dM
 refine eM ?_
 rw[show ax 2 [.tup t.es,.int m]=[some (.tup t.es),some (.int m)] from rfl]
 walk_at "x"
 refine aP (fun p:Int×Int=>PV.int p.1) (fun p=>PV.int (p.1 * m)) trivial t.2 [] (fun z hz=>⟨_,rfl,fun Q q=>?_⟩) (by simpa using du hj) fun p hp=>?_
 ·walk_at "x"
  exact⟨jo (by omega) (by omega),q⟩
 ·simp only[List.nil_append,ac]
  rw[mq]
  exact k _ (.new hp)
abbrev cF(w:ay):Prop:=∀{S:av} {js:Vs} {t u:Ty} {Q:bQ} {E:cg},js.length<=1000->t.Ok js->u.Ok js->(∀S',Ext S S'->Q (t.join u).pv S')->w [t.pv,u.pv] S Q E
def AA{xa xp:ay}(Bi:iu xa)(B4:dv xp):cF (aY 3 (jk xa xp)):=by
 intro S js t u Q E hj ht hu k
 unfold jk
 refine eM ?_
 rw[show ax 3 [t.pv,u.pv]=[some t.pv,some u.pv,none] from rfl]
 unfold Ty.pv
 refine au fun N hN=>?_
 walk_at "x"
 simp only[qV,ah,v3,lk,c3,af,eJ,oX]
 have lt:=ht.1
 have lu:=hu.1
 refine⟨by unfold Ty.es Ty.dm;rw[HQ,HQ];omega,by unfold Ty.es Ty.dm;rw[HQ,HQ];omega,?_⟩
 rw[pr]
 refine aP _ (fun z=>PV.int (jn z.1 z.2).2) trivial _ [] (fun z hz=>⟨_,rfl,fun Q q=>?_⟩) ?_ fun p hp=>?_
 ·walk_at "x"
  exact q
 ·rw[Jh,J3,List.length_zip]
  exact du (by omega)
 ·rw[IK,nW]
  refine hN _ _ ?_
  walk_at "x"
  simp only[g_,eJ]
  refine B4 ht.2.1 hu.2.1 ?_
  refine Bi (t:=t) (u:=u) (by omega) fun S2 X2=>?_
  simp only[X2 _ _ ac]
  exact k S2 ((Ext.new hp).trans X2)
abbrev fD(w:ay):Prop:=∀{S:av} {js:Vs} {t:Ty} {m:Int} {Q:bQ} {E:cg},js.length<=1000->t.Ok js->1<=m->m < 2 ^ 62->(∀S',Ext S S'->Q (t.again m).pv S')->w [t.pv,.int m] S Q E
def BB{xm xt:ay}(BI:jE xm)(Cu:ir xt):fD (aY 3 (k9 xm xt)):=by
 intro S js t m Q E hj ht h1 h2 k
 unfold k9
 refine eM ?_
 rw[show ax 3 [t.pv,.int m]=[some t.pv,some (.int m),none] from rfl]
 unfold Ty.pv
 refine au fun N hN=>?_
 walk_at "x"
 simp only[eJ,oX]
 have lt:=ht.1
 rw[vZ]
 refine aP _ (fun p:Int×Int=>PV.int (ag m p).2) trivial t.2 [] (fun z hz=>⟨_,rfl,fun Q q=>?_⟩) (by simpa using du (by omega)) fun p hp=>?_
 ·walk_at "x"
  exact⟨jo (by omega) (by omega),q⟩
 ·rw[IK,rC]
  refine hN _ _ ?_
  walk_at "x"
  simp only[g_,eJ]
  refine Cu ht.2.1 (by omega) h2 ?_
  refine BI (t:=t) (by omega) (by omega) h2 fun S2 X2=>?_
  simp only[X2 _ _ ac]
  exact k S2 ((Ext.new hp).trans X2)
abbrev gf(w:ay):Prop:=∀{S:av} {js:Vs} {z:Str} {m:Int} {a b:Bd} {Q:bQ} {E:cg},js.length<=1000->(∀S',Ext S S'->Q (Ty.pv (0,kB js z (-m) m)) S')->w [dB js,(Bd.BZ z m a b).pv] S Q E
def jF(js:Vs)(z:Str)(e d:Int):js.map (fun j=>PV.int (if j=z then e else 0))=Ty.es (0,kB js z e d):=by
 unfold Ty.es kB
 rw[Im]
 exact IP fun j _=>by dsimp only [Function.comp];split<;>rfl
def rD(js:Vs)(z:Str)(e d:Int):js.map (fun j=>PV.int (if j=z then d else 0))=Ty.dm (0,kB js z e d):=by
 unfold Ty.dm kB
 rw[Im]
 exact IP fun j _=>by dsimp only [Function.comp];split<;>rfl
def Cb{xt:ay}(AH:gc xt):gf (aY 2 (cv xt)):=by
 intro S js z m a b Q E hj k
 unfold cv
 refine eM ?_
 rw[show ax 2 [dB js,(Bd.BZ z m a b).pv]=[some (dB js),some (.tup [.str "take",.str z,.int m,a.pv,b.pv])] from rfl]
 walk_at "x"
 simp only[eJ,oX]
 rw[iW]
 refine AH hj fun S1 X1=>AH hj fun S2 X2=>?_
 rw[jF js z (-m) m,rD js z (-m) m]
 exact k S2 (X1.trans X2)
def ls{a b:Bd}{v:PV}(h:aN (.Ak a b) v=true):∃x y,v = .tup [x,y]/\aN a x=true/\aN b y=true:=by
 cases v with
 |tup xs=>
  by_cases h2:xs.length=2
  ·obtain⟨x,y,rfl⟩:=ni h2
   rw[mj,KA]at h
   exact⟨x,y,rfl,h⟩
  ·rw[ll h2]at h;cases h
 |int i=>rw[gG]at h;cases h
 |str z=>rw[gF]at h;cases h
 |_=>cases h
def lv{a b:Bd}{v:PV}(h:aN (.BK a b) v=true):∃i y,v = .tup [.int i,y]/\((i=0/\aN a y=true)\/(i=1/\aN b y=true)):=by
 cases v with
 |tup xs=>
  by_cases h2:xs.length=2
  ·obtain⟨x,y,rfl⟩:=ni h2
   cases x with
   |int i=>
    rw[rg]at h
    refine⟨i,y,rfl,?_⟩
    by_cases h0:i=0
    ·rw[if_pos h0]at h;exact .inl ⟨h0,h⟩
    ·rw[if_neg h0]at h
     by_cases h1:i=1
     ·rw[if_pos h1]at h;exact .inr ⟨h1,h⟩
     ·rw[if_neg h1]at h;cases h
   |_=>cases h
  ·rw[lm h2]at h;cases h
 |int i=>rw[gG]at h;cases h
 |str z=>rw[gF]at h;cases h
 |_=>cases h
def lw{z:Str}{m:Int}{a b:Bd}{v:PV}(h:aN (.BZ z m a b) v=true):∃i y,v = .tup [.int i,y]/\((i=0/\aN a y=true)\/(i=1/\aN b y=true)):=by
 cases v with
 |tup xs=>
  by_cases h2:xs.length=2
  ·obtain⟨x,y,rfl⟩:=ni h2
   cases x with
   |int i=>
    rw[rh]at h
    refine⟨i,y,rfl,?_⟩
    by_cases h0:i=0
    ·rw[if_pos h0]at h;exact .inl ⟨h0,h⟩
    ·rw[if_neg h0]at h
     by_cases h1:i=1
     ·rw[if_pos h1]at h;exact .inr ⟨h1,h⟩
     ·rw[if_neg h1]at h;cases h
   |_=>cases h
  ·rw[lp h2]at h;cases h
 |int i=>rw[gG]at h;cases h
 |str z=>rw[gF]at h;cases h
 |_=>cases h
def lx{a:Bd}{v:PV}(h:aN (.BU a) v=true):∃xs,v = .tup xs/\xs.all (pg a)=true:=by
 cases v with
 |tup xs=>rw[ml]at h;exact⟨xs,rfl,h⟩
 |int i=>rw[gG]at h;cases h
 |str z=>rw[gF]at h;cases h
 |_=>cases h
def dY{L n:Nat}{xs:List PV}(h:Cp L n (.tup xs)):xs.length<=L/\∀x∈xs,∃m,Cp L m x:=by
 cases h with
 |tup hl hx=>exact⟨hl,fun x hm=>⟨_,hx x hm⟩⟩
noncomputable def ED(js:Vs)(f:PV->Ty):PV->Ty
 | .tup [.int m,y]=>(f y).again m
 |_=>z0 js
noncomputable def Bd.Br(js:Vs):Bd->PV->Ty
 | .BU a,.tup xs=>(xs.map (ED js fun y=>a.Br js y)).foldl Ty.join (z0 js)
 | .Ak a b,.tup [x,y]=>(a.Br js x).join (b.Br js y)
 | .BK a b,.tup [.int i,y]=>if i=0 then a.Br js y else b.Br js y
 | .BZ z m a b,.tup [.int i,y]=>if i=0 then Ty.join (0,kB js z (-m) m) (a.Br js y) else b.Br js y
 | .pay x y,_=>(x * (2520 / y),zl js)
 | .put z m,_=>(0,kB js z m 0)
 |_,_=>z0 js
def nX(js:Vs)(a:Bd)(xs:List PV):(Bd.BU a).Br js (.tup xs)=(xs.map (ED js fun y=>a.Br js y)).foldl Ty.join (z0 js):=rfl
def nY(js:Vs)(a b:Bd)(i:Int)(y:PV):(Bd.BK a b).Br js (.tup [.int i,y])=if i=0 then a.Br js y else b.Br js y:=rfl
def nZ(js:Vs)(z:Str)(m:Int)(a b:Bd)(i:Int)(y:PV):(Bd.BZ z m a b).Br js (.tup [.int i,y])=if i=0 then Ty.join (0,kB js z (-m) m) (a.Br js y) else b.Br js y:=rfl
def eO{a:Bd}{g:PV}(h:pg a g=true):∃m y,g = .tup [.int m,y]/\1<=m/\aN a y=true:=by
 unfold pg at h
 split at h
 ·rename_i m y
  rw[KA,HP]at h
  exact⟨m,y,rfl,h.1,h.2⟩
 ·cases h
def ly{js:Vs}{z:Str}{e d:Int}(hd:0<=d):Ty.Ok js (0,kB js z e d):=⟨HQ _,Il _,fun p hp=>by
 obtain⟨j,hj,rfl⟩:=Ii.mp hp
 split
 ·exact hd
 ·exact Il _⟩
theorem gL{js:Vs}:∀(ts:List Ty) (t:Ty),(∀u∈ts,u.Ok js)->t.Ok js->(ts.foldl Ty.join t).Ok js
 |[],t,_,h=>h
 |u::r,t,hs,h=>gL r (t.join u) (fun x hx=>hs x (by simp[hx])) (h.join (hs u (by simp)))
theorem aT{js us:Vs}:∀(t:Bd) (v:PV),t.good js us->aN t v=true->(t.Br js v).Ok js
 | .rest,v,_,_=>fo js
 | .use z,v,_,_=>fo js
 | .pay x y,v,hg,_=>⟨(fo js).1,Jg (show oY x y from hg).x0 (Kc (by decide) (Jx (show oY x y from hg).low.pos)),(fo js).2.2⟩
 | .put z m,v,hg,_=>ly (Il _)
 | .Ak a b,v,hg,hv=>by
  obtain⟨x,y,rfl,hx,hy⟩:=ls hv
  exact(aT a x hg.1 hx).join (aT b y hg.2 hy)
 | .BK a b,v,hg,hv=>by
  obtain⟨i,y,rfl,hi⟩:=lv hv
  rw[nY]
  rcases hi with⟨rfl,h⟩|⟨rfl,h⟩
  ·rw[if_pos rfl];exact aT a y hg.1 h
  ·rw[if_neg (by decide)];exact aT b y hg.2 h
 | .BZ z m a b,v,hg,hv=>by
  obtain⟨i,y,rfl,hi⟩:=lw hv
  rw[nZ]
  rcases hi with⟨rfl,h⟩|⟨rfl,h⟩
  ·rw[if_pos rfl];exact(ly (by have:=hg.2.1;omega)).join (aT a y hg.2.2.2.1 h)
  ·rw[if_neg (by decide)];exact aT b y hg.2.2.2.2 h
 | .BU a,v,hg,hv=>by
  obtain⟨xs,rfl,hx⟩:=lx hv
  rw[nX]
  refine gL _ _ (fun u hu=>?_) (fo js)
  obtain⟨g,DP,rfl⟩:=Ii.mp hu
  obtain⟨m,y,rfl,hm,hy⟩:=eO (I9.mp hx g DP)
  exact(aT a y hg hy).again hm
noncomputable def tB:Nat->Int
 |0=>2 ^ 22
 |n+1=>2 ^ 67 * tB n
theorem cG:∀n,2 ^ 22<=tB n
 |0=>Il _
 |n+1=>by have:=cG n;unfold tB;omega
def dZ{n m:Nat}(h:n<=m):tB n<=tB m:=by
 induction m with
 |zero=>rw[Nat.le_zero.mp h];exact Il _
 |succ m ih=>
  by_cases e:n=m+1
  ·rw[e];exact Il _
  ·have h1:=ih (by omega);have h2:=cG m;show tB n<=2 ^ 67 * tB m;omega
def jG{js:Vs}{n B:Int}(h:n<=B)(hB:0<=B):Ty.CB B (n,zl js):=⟨h,fun p hp=>by
 obtain⟨j,hj,rfl⟩:=Ii.mp hp
 exact⟨by omega,hB,hB⟩⟩
def n6{js:Vs}{z:Str}{e d B:Int}(h1:-B<=e)(h2:e<=B)(h3:d<=B)(hB:0<=B):Ty.CB B (0,kB js z e d):=⟨hB,fun p hp=>by
 obtain⟨j,hj,rfl⟩:=Ii.mp hp
 split
 ·exact⟨h1,h2,h3⟩
 ·exact⟨by omega,hB,hB⟩⟩
theorem jH{B:Int}(hB:0<=B):∀(ts:List Ty) (t:Ty) (D:Int),(∀u∈ts,u.CB B)->t.CB D->0<=D->(ts.foldl Ty.join t).CB (D+ts.length * B)
 |[],t,D,_,h,_=>h.mono (by simp)
 |u::r,t,D,hs,h,hD=>(jH hB r (t.join u) (D+B) (fun x hx=>hs x (by simp[hx])) (h.join (hs u (by simp)) hD hB) (by omega)).mono (by
   rw[Ic,Int.natCast_add,Int.add_mul];show _<=D+(r.length * B+1 * B);omega)
theorem cO{js us:Vs}:∀(t:Bd) (v:PV) (n:Nat),t.good js us->aN t v=true->Cp 50 n v->cE (2 ^ 60) v=true->(t.Br js v).CB (tB t.dep)
 | .rest,v,_,_,_,_,_=>jG (show(0:Int)<=tB 1 by decide) (show(0:Int)<=tB 1 by decide)
 | .use z,v,_,_,_,_,_=>jG (show(0:Int)<=tB 1 by decide) (show(0:Int)<=tB 1 by decide)
 | .pay x y,v,_,hg,_,_,_=>by
  have c:oY x y:=hg
  refine jG ?_ (show(0:Int)<=tB 1 by decide)
  have h1:x * (2520 / y)<=999 * 2520:=Int.mul_le_mul c.x1 (Lf _ (by decide)) (Kc (by decide) (Jx c.low.pos)) (by decide)
  exact Lg h1 (show(999 * 2520:Int)<=tB 1 by decide)
 | .put z m,v,_,hg,_,_,_=>by
  have:=hg.2.1;have:=hg.2.2
  have e:(100:Int)<=tB (Bd.put z m).dep:=show(100:Int)<=tB 1 by decide
  exact n6 (by omega) (by omega) (by omega) (by omega)
 | .Ak a b,v,n,hg,hv,ht,hb=>by
  obtain⟨x,y,rfl,hx,hy⟩:=ls hv
  obtain⟨m1,h1⟩:=(dY ht).2 x (by simp)
  obtain⟨m2,h2⟩:=(dY ht).2 y (by simp)
  have d1:=dZ (show a.dep<=max a.dep b.dep by omega)
  have d2:=dZ (show b.dep<=max a.dep b.dep by omega)
  have p:=cG (max a.dep b.dep)
  refine(((cO a x m1 hg.1 hx h1 (aS hb x (by simp))).mono d1).join ((cO b y m2 hg.2 hy h2 (aS hb y (by simp))).mono d2) (by omega) (by omega)).mono ?_
  show _<=2 ^ 67 * tB (max a.dep b.dep)
  omega
 | .BK a b,v,n,hg,hv,ht,hb=>by
  obtain⟨i,y,rfl,hi⟩:=lv hv
  obtain⟨m2,h2⟩:=(dY ht).2 y (by simp)
  have d1:=dZ (show a.dep<=(Bd.BK a b).dep by simp only[Bd.dep];omega)
  have d2:=dZ (show b.dep<=(Bd.BK a b).dep by simp only[Bd.dep];omega)
  rw[nY]
  rcases hi with⟨rfl,h⟩|⟨rfl,h⟩
  ·rw[if_pos rfl];exact(cO a y m2 hg.1 h h2 (aS hb y (by simp))).mono d1
  ·rw[if_neg (by decide)];exact(cO b y m2 hg.2 h h2 (aS hb y (by simp))).mono d2
 | .BZ z m a b,v,n,hg,hv,ht,hb=>by
  obtain⟨i,y,rfl,hi⟩:=lw hv
  obtain⟨m2,h2⟩:=(dY ht).2 y (by simp)
  have d1:=dZ (show a.dep<=max a.dep b.dep by omega)
  have d2:=dZ (show b.dep<=(Bd.BZ z m a b).dep by simp only[Bd.dep];omega)
  have p:=cG (max a.dep b.dep)
  rw[nZ]
  rcases hi with⟨rfl,h⟩|⟨rfl,h⟩
  ·rw[if_pos rfl]
   have:=hg.2.1;have:=hg.2.2.1
   refine((n6 (B:=10) (by omega) (by omega) (by omega) (by omega)).join ((cO a y m2 hg.2.2.2.1 h h2 (aS hb y (by simp))).mono d1) (by omega) (by omega)).mono ?_
   show _<=2 ^ 67 * tB (max a.dep b.dep)
   omega
  ·rw[if_neg (by decide)];exact(cO b y m2 hg.2.2.2.2 h h2 (aS hb y (by simp))).mono d2
 | .BU a,v,n,hg,hv,ht,hb=>by
  obtain⟨xs,rfl,hx⟩:=lx hv
  have hl:=(dY ht).1
  have p:=cG a.dep
  rw[nX]
  have one:∀u∈xs.map (ED js fun y=>a.Br js y),u.CB (tB a.dep * 2 ^ 60):=fun u hu=>by
   obtain⟨g,DP,rfl⟩:=Ii.mp hu
   obtain⟨m,y,rfl,hm,hy⟩:=eO (I9.mp hx g DP)
   obtain⟨m1,h1⟩:=(dY ht).2 _ DP
   obtain⟨m2,h2⟩:=(dY h1).2 y (by simp)
   have hi:=aS hb _ DP
   have hm2:=aS hi (.int m) (by simp)
   simp only[cE,HP]at hm2
   exact((cO a y m2 hg hy h2 (aS hi y (by simp))).again (by omega) hm).mono (Iz (by omega) (by omega))
  refine(jH (by omega) _ _ 0 one (jG (Il _) (Il _)) (Il _)).mono ?_
  rw[HQ]
  have:(xs.length:Int) * (tB a.dep * 2 ^ 60)<=50 * (tB a.dep * 2 ^ 60):=Ih (by omega) (by omega)
  show _<=2 ^ 67 * tB a.dep
  omega
def Bd.DG(t:Bd):t.hd=("pay":Str)↔∃x y,t = .pay x y:=by cases t<;>simp[Bd.hd,aG]
def Bd.DH(t:Bd):t.hd=("put":Str)↔∃z m,t = .put z m:=by cases t<;>simp[Bd.hd,aG]
abbrev gM(n:Nat)(w:ay):Prop:=∀{S:av} {js us:Vs} {t:Bd} {v:PV} {Q:bQ} {E:cg},js.length<=1000->t.good js us->aN t v=true->cE (2 ^ 60) v=true->t.dep<=n->(∀S',Ext S S'->Q (t.Br js v).pv S')->w [dB js,t.pv,v] S Q E
abbrev jI(n:Nat)(w:ay):Prop:=∀{S:av} {js us:Vs} {a:Bd} {v:PV} {Q:bQ} {E:cg},js.length<=1000->a.good js us->aN (.BU a) v=true->cE (2 ^ 60) v=true->a.dep<=n->(∀S',Ext S S'->Q ((Bd.BU a).Br js v).pv S')->w [dB js,(Bd.BU a).pv,v] S Q E
def iw{js:Vs}(f:PV->Ty)(done:List PV)(x:PV):((done++[x]).map f).foldl Ty.join (z0 js)=((done.map f).foldl Ty.join (z0 js)).join (f x):=by
 rw[KS,List.foldl_append];rfl
def pA{xn xb xa s0 s1:ay}(AU:gK xn)(AA:cF xb)(BB:fD xa)(n:Nat)(ih:gM n s1):jI n (aY 5 (bC xn xb xa s0 s1)):=by
 intro S js us a v Q E hj hg hv hb hd k
 obtain⟨xs,rfl,hx⟩:=lx hv
 unfold bC
 refine eM ?_
 rw[show ax 5 [dB js,(Bd.BU a).pv,.tup xs]=[some (dB js),some (.tup [.str "often",a.pv]),some (.tup xs),none,none] from rfl]
 refine au fun N hN=>?_
 walk_at "x"
 refine AU hj (hN _ _ (au fun N hN=>?_))
 simp only[cp,ba,v3,lk,eX]
 refine bK (fun done σ S'=>∃x4,σ=[some (dB js),some (.tup [.str "often",a.pv]),some (.tup xs),some ((done.map (ED js fun y=>a.Br js y)).foldl Ty.join (z0 js)).pv,x4]/\Ext S S') ⟨_,rfl,.refl⟩ (fun _ _ _ _=>trivial) ?_ ?_
 ·rintro done g rest σ S1 K e ⟨x4,rfl,X1⟩ hK
  have DP:g∈xs:=by rw[e];simp
  obtain⟨m,y,rfl,hm,hy⟩:=eO (I9.mp hx g DP)
  have hi:=aS hb _ DP
  have hm2:=aS hi (.int m) (by simp)
  simp only[cE,HP]at hm2
  have ok:((done.map (ED js fun y=>a.Br js y)).foldl Ty.join (z0 js)).Ok js:=gL _ _ (fun u hu=>by
   obtain⟨g',hg',rfl⟩:=Ii.mp hu
   obtain⟨m',y',rfl,hm',hy'⟩:=eO (I9.mp hx g' (by rw[e];simp[hg']))
   exact(aT a y' hg hy').again hm') (fo js)
  simp only[Tg.put,List.set_cons_succ,List.set_cons_zero]
  walk_at "x"
  simp only[g_,eJ]
  refine ih hj hg hy (aS hi y (by simp)) hd fun S2 X2=>?_
  refine BB hj (aT a y hg hy) hm (by omega) fun S3 X3=>?_
  refine AA hj ok ((aT a y hg hy).again hm) fun S4 X4=>?_
  refine hK _ _ ⟨some (.tup [.int m,y]),?_,X1.trans (X2.trans (X3.trans X4))⟩
  rw[iw]
  rfl
 ·rintro σ S1 ⟨x4,rfl,X1⟩
  refine hN _ _ ?_
  walk_at "x"
  exact k S1 X1
def Cv{xn xt xb xc xk s0 s1:ay}(AU:gK xn)(AH:gc xt)(AA:cF xb)(B_:jy xc)(Cb:gf xk)(n:Nat)(Hu:jI n s0)(ih:gM n s1):gM (n+1) (aY 6 (dO xn xt xb xc xk s0 s1)):=by
 intro S js us t v Q E hj hg hv hb hd k
 unfold dO
 refine eM ?_
 rw[Bd.DD,show ax 6 [dB js,.tup (.str t.hd::t.tl),v]=[some (dB js),some (.tup (.str t.hd::t.tl)),some v,none,none,none] from rfl]
 refine au fun N hN=>?_
 walk_at "x"
 simp only[g_]
 refine hN _ _ (au fun N hN=>?_)
 walk_at "x"
 refine AU hj (hN _ _ (au fun N hN=>?_))
 simp only[bH,aR,ah,v3,lk,c3,bv,HW,HP]
 by_cases h1:t.hd=("pay":Str)
 ·rw[if_pos h1]
  obtain⟨x,y,rfl⟩:=(Bd.DG t).mp h1
  unfold Ty.pv
  walk_at "x"
  simp only[Bd.tl,eJ,oX]
  rw[nU hg]
  exact k S .refl
 rw[if_neg h1]
 refine hN _ _ (au fun N hN=>?_)
 simp only[bH,aR,ah,v3,lk,c3,bv,HW,HP]
 by_cases h2:t.hd=("put":Str)
 ·rw[if_pos h2]
  obtain⟨z,m,rfl⟩:=(Bd.DH t).mp h2
  unfold Ty.pv
  walk_at "x"
  simp only[Bd.tl,g_,eJ,oX]
  refine AH hj fun S1 X1=>?_
  have:=k S1 X1
  rw[jF js z m 0]
  have e:(z0 js).dm=Ty.dm (0,kB js z m 0):=by
   unfold Ty.dm z0 zl kB
   rw[Im,Im]
   exact IP fun j _=>by dsimp only [Function.comp];split<;>rfl
  rw[e]
  exact this
 rw[if_neg h2]
 refine hN _ _ (au fun N hN=>?_)
 simp only[bH,aR,ah,v3,lk,c3,bv,HW,HP]
 by_cases h3:t.hd=("then":Str)
 ·rw[if_pos h3]
  obtain⟨a,b,rfl⟩:=(Bd.Dd t).mp h3
  obtain⟨x,y,rfl,hx,hy⟩:=ls hv
  simp only[Bd.dep]at hd
  walk_at "x"
  simp only[Bd.tl,g_,eJ,oX]
  refine ih hj hg.1 hx (aS hb x (by simp)) (by omega) fun S1 X1=>?_
  refine ih hj hg.2 hy (aS hb y (by simp)) (by omega) fun S2 X2=>?_
  refine AA hj (aT a x hg.1 hx) (aT b y hg.2 hy) fun S3 X3=>?_
  exact k S3 (X1.trans (X2.trans X3))
 rw[if_neg h3]
 refine hN _ _ (au fun N hN=>?_)
 simp only[bH,aR,ah,v3,lk,c3,bv,HW,HP]
 by_cases h4:t.hd=("often":Str)
 ·rw[if_pos h4]
  obtain⟨a,rfl⟩:=(Bd.De t).mp h4
  simp only[Bd.dep]at hd
  walk_at "x"
  exact Hu hj hg hv hb (by omega) k
 rw[if_neg h4]
 refine hN _ _ (au fun N hN=>?_)
 walk_at "x"
 rw[show([PV.str "either",PV.str "take"]:List PV)=(["either","take"]:Vs).map PV.str from rfl]
 refine fj t.E9 xZ ?_
 by_cases h5:t.hd∈(["either","take"]:Vs)
 ·simp only[h5,Lb,KH,Bool.not_true,K8,Li]
  refine hN _ _ (au fun N hN=>?_)
  simp only[HZ,Ie,Je]at h5
  have side:∀(hd2:List PV) (a b c:Bd) (i:Int) (y:PV),(.str t.hd::t.tl)=hd2++[a.pv,b.pv]->hd2.length<=3->v = .tup [.int i,y]->(i=0\/i=1)->(if i=0 then a.pv else b.pv)=c.pv->c.good js us->aN c y=true->c.dep<=n->
    (∀S',Ext S S'->N [some (dB js),some (.tup (.str t.hd::t.tl)),some v,some (.str t.hd),some (z0 js).pv,some (c.Br js y).pv] S')->aw 5 (ae s1 [v3 0,ae xc [v3 1,v3 2],ah af (v3 2) (c3 (.int 1))]) { nx:=N,rt:=Q,ex:=eC } [some (dB js),some (.tup (.str t.hd::t.tl)),some v,some (.str t.hd),some (z0 js).pv,none] S:=by
   intro hd2 a b c i y e1 e2 e3 hi e4 g1 g2 g3 kk
   subst e3
   simp only[aw,ae,bR,ah,v3,lk,c3]
   rw[e1]
   refine B_ hi e2 ?_
   rw[e4]
   simp only[af,eJ]
   refine ih hj g1 g2 (aS hb y (by simp)) g3 fun S1 X1=>?_
   have:=kk S1 X1
   rw[e1]at this
   exact this
  rcases h5 with h5|h5
  ·cases t with
   |BK a b=>
    obtain⟨i,y,rfl,hi⟩:=lv hv
    simp only[Bd.dep]at hd
    have fin:∀c:Bd,(Bd.BK a b).Br js (.tup [.int i,y])=c.Br js y->∀S',Ext S S'->N [some (dB js),some (.tup (.str (Bd.BK a b).hd::(Bd.BK a b).tl)),some (.tup [.int i,y]),some (.str (Bd.BK a b).hd),some (z0 js).pv,some (c.Br js y).pv] S':=fun c e S1 X1=>by
     refine hN _ _ (au fun N hN=>?_)
     simp only[Bd.hd]
     walk_at "y"
     refine hN _ _ ?_
     walk_at "x"
     rw[<-e]
     exact k S1 X1
    rcases hi with⟨rfl,h⟩|⟨rfl,h⟩
    ·exact side [.str "either"] a b a 0 y rfl (by decide) rfl (.inl rfl) (if_pos rfl) hg.1 h (by omega) (fin a rfl)
    ·exact side [.str "either"] a b b 1 y rfl (by decide) rfl (.inr rfl) (if_neg (by decide)) hg.2 h (by omega) (fin b rfl)
   |_=>simp[Bd.hd,aG]at h5
  ·cases t with
   |BZ z m a b=>
    obtain⟨i,y,rfl,hi⟩:=lw hv
    simp only[Bd.dep]at hd
    rcases hi with⟨rfl,h⟩|⟨rfl,h⟩
    ·refine side [.str "take",.str z,.int m] a b a 0 y rfl (HN 3) rfl (.inl rfl) (if_pos rfl) hg.2.2.2.1 h (by omega) fun S1 X1=>hN _ _ (au fun N hN=>?_)
     simp only[Bd.hd]
     walk_at "y"
     refine Cb (a:=a) (b:=b) hj fun S2 X2=>?_
     refine AA hj (ly (by have:=hg.2.1;omega)) (aT a y hg.2.2.2.1 h) fun S3 X3=>?_
     exact k S3 (X1.trans (X2.trans X3))
    ·refine side [.str "take",.str z,.int m] a b b 1 y rfl (HN 3) rfl (.inr rfl) (if_neg (by decide)) hg.2.2.2.2 h (by omega) fun S1 X1=>hN _ _ (au fun N hN=>?_)
     simp only[Bd.hd]
     walk_at "y"
     refine hN _ _ ?_
     walk_at "x"
     exact k S1 X1
   |_=>simp[Bd.hd,aG]at h5
 ·simp only[h5,decide_false,KH,Bool.not_false,JO]
  have e:t.Br js v=z0 js:=by cases t<;>simp_all [Bd.hd,aG]<;>rfl
  rw[<-e]
  exact k S .refl
abbrev ix(w:ay):Prop:=∀{S:av} {js us:Vs} {ds:List (Str×Bd)} {i:Nat} {z:Str} {t:Bd} {v:PV} {Q:bQ} {E:cg},js.length<=1000->ds[i]?=some (z,t)->t.good js us->aN t v=true->cE (2 ^ 60) v=true->t.dep<=6->(∀S',Ext S S'->Q (t.Br js v).pv S')->w [de js ds,.int i,v] S Q E
def Cw{xt:ay}(Cv:gM 6 xt):ix (aY 3 (lh xt)):=by
 intro S js us ds i z t v Q E hj hi hg hv hb hd k
 unfold lh
 refine eM ?_
 rw[show ax 3 [de js ds,.int i,v]=[some (.tup [dB js,.tup (ds.map jx)]),some (.int i),some v] from rfl]
 walk_at "x"
 simp only[g_,eJ]
 rw[bA (v:=jx (z,t)) (by rw[Ia,hi];rfl)]
 unfold jx
 simp only[eJ]
 exact Cv hj hg hv hb hd k
def Ch(S:av)(t:Ty)(v:PV):Prop:=∃pe pd,v = .tup [cf t.1,.ref pe,.ref pd]/\S pe=some (.lst t.es)/\S pd=some (.lst t.dm)
def Ch.mono{S S':av}{t:Ty}{v:PV}(h:Ch S t v)(e:Ext S S'):Ch S' t v:=by
 obtain⟨pe,pd,h1,h2,h3⟩:=h
 exact⟨pe,pd,h1,e _ _ h2,e _ _ h3⟩
def gg(n:Nat):bf 0 n=(List.range n).map fun(k:Nat)=>PV.int (k:Int):=by
 unfold bf
 refine IP fun k _=>?_
 simp
def kC{α β:Type}(l:List α)(g:α->β)(d:β):(List.range l.length).map (fun k=>(l[k]?.map g).getD d)=l.map g:=by
 refine List.ext_getElem (by simp) fun i h1 h2=>?_
 simp only[HQ,Jf]at h1
 simp[h1]
abbrev dy(w:ay):Prop:=∀{S:av} {n:Nat} {t u:Ty} {v v':PV} {Q:bQ} {E:cg},n<=1000->t.2.length=n->u.2.length=n->0<=t.1->0<=u.1->Ch S t v->Ch S u v'->(∀x S',Ext S S'->Ch S' (t.join u) x->Q x S')->w [v,v'] S Q E
def rE{xp:ay}(B4:dv xp):dy (aY 4 (cW xp)):=by
 intro S n t u v v' Q E hn ht hu ht0 Hv hv hv' k
 obtain⟨pe,pd,rfl,e1,d1⟩:=hv
 obtain⟨qe,qd,rfl,e2,d2⟩:=hv'
 unfold cW
 refine eM ?_
 rw[show ax 4 [.tup [cf t.1,.ref pe,.ref pd],.tup [cf u.1,.ref qe,.ref qd]]=[some (.tup [cf t.1,.ref pe,.ref pd]),some (.tup [cf u.1,.ref qe,.ref qd]),none,none] from rfl]
 have lz:(t.2.zip u.2).length=n:=by rw[List.length_zip,ht,hu,Nat.min_self]
 have le:t.es.length=n:=by unfold Ty.es;rw[HQ];exact ht
 have get:∀k∈List.range n,∃z:(Int×Int)×(Int×Int),(t.2.zip u.2)[k]?=some z/\AS t.es (k:Int)=some (.int z.1.1)/\AS t.dm (k:Int)=some (.int z.1.2)/\AS u.es (k:Int)=some (.int z.2.1)/\AS u.dm (k:Int)=some (.int z.2.2):=fun k hk=>by
  have hk':k < (t.2.zip u.2).length:=by rw[lz];exact Km.mp hk
  have h0:(t.2.zip u.2)[k]?=some (t.2.zip u.2)[k]:=IL hk'
  obtain⟨a,b⟩:=JC.mp h0
  refine⟨_,h0,?_,?_,?_,?_⟩
  ·exact bA (by unfold Ty.es;rw[Ia,a];rfl)
  ·exact bA (by unfold Ty.dm;rw[Ia,a];rfl)
  ·exact bA (by unfold Ty.es;rw[Ia,b];rfl)
  ·exact bA (by unfold Ty.dm;rw[Ia,b];rfl)
 refine au fun N hN=>?_
 walk_at "x"
 simp only[eJ,e1,le]
 refine⟨by omega,by omega,?_⟩
 rw[Iw,gg]
 refine aP (fun k:Nat=>PV.int (k:Int)) (fun k=>((t.2.zip u.2)[k]?.map fun z=>PV.int (z.1.1+z.2.1)).getD .non) trivial (List.range n) [] (fun k hk=>⟨_,rfl,fun Q q=>?_⟩) (by rw[Jh,J3,Jf];exact du hn) fun p hp=>?_
 ·obtain⟨z,hz,a1,a2,a3,a4⟩:=get k hk
  rw[hz]at q
  walk_at "x"
  simp only[eJ,e1,e2,a1,a3]
  exact q
 ·rw[IK]
  have GO:=kC (t.2.zip u.2) (fun z=>PV.int (z.1.1+z.2.1)) .non
  rw[lz]at GO
  rw[GO,lr]
  refine hN _ _ (au fun N hN=>?_)
  have np:∀{b o},S b=some o->b≠p:=fun h e=>by rw[e,hp]at h;cases h
  have X1:Ext S (am S p (.lst (t.join u).es)):=.new hp
  have hp1:(am S p (.lst (t.join u).es)) p=some (.lst (t.join u).es):=ac
  generalize am S p (.lst (t.join u).es)=S1 at X1 hp1
  walk_at "x"
  simp only[eJ,X1 _ _ e1,le]
  refine⟨by omega,by omega,?_⟩
  rw[Iw,gg]
  refine aP (fun k:Nat=>PV.int (k:Int)) (fun k=>((t.2.zip u.2)[k]?.map fun z=>PV.int (jn z.1 z.2).2).getD .non) trivial (List.range n) [] (fun k hk=>⟨_,rfl,fun Q q=>?_⟩) (by rw[Jh,J3,Jf];exact du hn) fun p2 hp2=>?_
  ·obtain⟨z,hz,a1,a2,a3,a4⟩:=get k hk
   rw[hz]at q
   walk_at "x"
   simp only[eJ,oX,X1 _ _ e1,X1 _ _ d1,X1 _ _ d2,a1,a2,a4]
   exact q
  ·rw[IK]
   have GP:=kC (t.2.zip u.2) (fun z=>PV.int (jn z.1 z.2).2) .non
   rw[lz]at GP
   rw[GP,nW]
   refine hN _ _ ?_
   walk_at "x"
   simp only[g_]
   refine B4 ht0 Hv ?_
   have Gf:p≠p2:=fun e=>by rw[<-e,hp1]at hp2;cases hp2
   exact k _ _ (X1.trans (.new hp2)) ⟨p,p2,rfl,by rw[ak Gf];exact hp1,ac⟩
def Ty.CP(t:Ty)(a:Int):(t.pw a).2.length=t.2.length:=HQ _
abbrev fE(w:ay):Prop:=∀{S:av} {js:Vs} {t:Ty} {m:Int} {v:PV} {Q:bQ} {E:cg},js.length<=1000->t.Ok js->1<=m->Ch S t v->(∀x S',Ext S S'->Ch S' (t.again m) x->Q x S')->w [v,.int m] S Q E
def rF{xj:ay}(BJ:dy xj):fE (aY 3 (ff xj)):=by
 intro S js t m v Q E hj ht hm hv k
 have hv0:=hv
 obtain⟨pe,pd,rfl,e1,d1⟩:=hv
 unfold ff
 refine eM ?_
 rw[show ax 3 [.tup [cf t.1,.ref pe,.ref pd],.int m]=[some (.tup [cf t.1,.ref pe,.ref pd]),some (.int m),none] from rfl]
 have lt:=ht.1
 have z1:∀S0:av,Ext S S0->∀(Q:bQ),(∀p,S0 p=none->Q (.ref p) (am S0 p (.lst (t.pw 0).es)))->bb (ba (ah af (v3 0) (c3 (.int 1)))) (.n 0) bZ (c3 (.int 0)) 1 [] [some (.tup [cf t.1,.ref pe,.ref pd]),some (.int m),none] S0 Q eC:=fun S0 X0 Q q=>by
  walk_at "x"
  simp only[eJ,X0 _ _ e1]
  refine aP (fun p:Int×Int=>PV.int p.1) (fun _=>.int 0) (X0 _ _ e1) t.2 [] (fun z hz=>⟨_,rfl,fun Q q=>q⟩) (by simpa using du (by omega)) fun p hp=>?_
  rw[IK,show t.2.map (fun _=>PV.int 0)=(t.pw 0).es by rw[Ty.CO];unfold Ty.es;rw[Im];rfl]
  exact q p hp
 refine au fun N hN=>?_
 simp only[aw,aI,bR,c3]
 refine z1 S .refl _ fun p1 hp1=>?_
 refine z1 _ (.new hp1) _ fun p2 hp2=>?_
 have np:p1≠p2:=fun e=>by rw[<-e,ac]at hp2;cases hp2
 have X0:Ext S (am (am S p1 (.lst (t.pw 0).es)) p2 (.lst (t.pw 0).es)):=(Ext.new hp1).trans (.new hp2)
 have L0:Ch (am (am S p1 (.lst (t.pw 0).es)) p2 (.lst (t.pw 0).es)) (t.pw 0) (.tup [.tup [.int 0,.int 1],.ref p1,.ref p2]):=⟨p1,p2,by rw[Ty.CO,iW],by rw[ak np,ac],by rw[ac,Ty.CO];unfold Ty.es Ty.dm;rw[Im,Im];rfl⟩
 generalize am (am S p1 (.lst (t.pw 0).es)) p2 (.lst (t.pw 0).es)=S1 at X0 L0
 refine hN _ _ (au fun N hN=>?_)
 refine⟨fun n σ S'=>∃(a p r:Int) (v1 v2:PV),σ=[some v1,some (.int r),some v2]/\1<=p/\0<=a/\0<=r/\a+p * r=m/\Ch S' (t.pw p) v1/\Ch S' (t.pw a) v2/\Ext S S'/\r.toNat=n,⟨_,0,1,m,_,_,rfl,by decide,by decide,by omega,by omega,by rw[Ty.EC ht];exact hv0.mono X0,L0,X0,rfl⟩,?_⟩
 rintro n σ S' ⟨a,p,r,v1,v2,rfl,hp,ha,hr,hs,L1,L2,X,rfl⟩
 simp only[aR,ah,v3,lk,c3,mG,dE,HP]
 by_cases h0:0 < r
 ·rw[if_pos h0]
  refine⟨fun σ' C_=>∃(a p r':Int) (v1 v2:PV),σ'=[some v1,some (.int r'),some v2]/\1<=p/\0<=a/\0<=r'/\a+p * r'=m/\Ch C_ (t.pw p) v1/\Ch C_ (t.pw a) v2/\Ext S C_/\r'.toNat < r.toNat,?_,?_⟩
  ·rintro σ' C_ ⟨a,p,r',v1,v2,rfl,h1,h2,h3,h4,h5,h6,h7,h8⟩
   exact⟨_,h8,a,p,r',v1,v2,rfl,h1,h2,h3,h4,h5,h6,h7,rfl⟩
  ·have em:r.fmod 2=r % 2:=fh (by decide)
   have ed:r.fdiv 2=r / 2:=um (by decide)
   have c2:t.1 * p>=0:=Jg ht.2.1 (by omega)
   have c1:t.1 * a>=0:=Jg ht.2.1 ha
   have rest:∀(a':Int) (v2':PV) (S2:av) (N0 bk ct:bY->av->Prop),0<=a'->a'+(p+p) * (r / 2)=m->Ch S2 (t.pw a') v2'->Ext S' S2->
     (∀v1' S3,Ch S3 (t.pw (p+p)) v1'->Ch S3 (t.pw a') v2'->Ext S S3->N0 [some v1',some (.int (r / 2)),some v2'] S3)->ai (aw 0 (ae xj [v3 0,v3 0])) (aw 1 (ah eE (v3 1) (c3 (.int 2)))) { nx:=N0,rt:=Q,ex:=eC,bk:=bk,ct:=ct } [some v1,some (.int r),some v2'] S2:=by
    intro a' v2' S2 N0 bk ct h1 h2 h3 h4 kk
    refine au fun N hN=>?_
    walk_at "x"
    refine BJ (n:=js.length) hj (by rw[Ty.CP];exact lt) (by rw[Ty.CP];exact lt) c2 c2 (L1.mono h4) (L1.mono h4) fun x S3 X3 L3=>?_
    rw[Ty.Cq (by omega) hp ht]at L3
    refine hN _ _ ?_
    walk_at "x"
    rw[ed]
    exact⟨vI (by decide) (by decide),kk _ _ L3 (h3.mono X3) (X.trans (h4.trans X3))⟩
   have er:r=2 * (r / 2)+r % 2:=by omega
   have e2:(p+p) * (r / 2)=p * (2 * (r / 2)):=by rw[<-Int.two_mul,JZ 2 p,KG]
   refine au fun N2 BY=>?_
   walk_at "x"
   simp only[HW,HP]
   refine⟨by decide,?_⟩
   rw[em]
   by_cases hr1:r % 2=1
   ·rw[if_pos hr1]
    refine BJ (n:=js.length) hj (by rw[Ty.CP];exact lt) (by rw[Ty.CP];exact lt) c1 c2 L2 L1 fun x S3 X3 L3=>?_
    rw[Ty.Cq ha hp ht]at L3
    have e3:p * r=p * (2 * (r / 2))+p:=by
     have:r=2 * (r / 2)+1:=by omega
     rw[show p * r=p * (2 * (r / 2)+1) by rw[<-this],Lc,JU]
    refine BY _ _ (rest (a+p) x S3 _ _ _ (by omega) (by rw[e2];omega) L3 X3 fun v1' S4 l1 l2 x4=>?_)
    exact⟨a+p,p+p,r / 2,v1',x,rfl,by omega,by omega,by omega,by rw[e2];omega,l1,l2,x4,by omega⟩
   ·rw[if_neg hr1]
    have e3:p * r=p * (2 * (r / 2)):=by
     have:r=2 * (r / 2):=by omega
     rw[show p * r=p * (2 * (r / 2)) by rw[<-this]]
    refine BY _ _ (rest a v2 S' _ _ _ ha (by rw[e2];omega) L2 .refl fun v1' S4 l1 l2 x4=>?_)
    exact⟨a,p+p,r / 2,v1',v2,rfl,by omega,by omega,by omega,by rw[e2];omega,l1,l2,x4,by omega⟩
 ·rw[if_neg h0]
  have:r=0:=by omega
  subst this
  rw[JY,Lh]at hs
  subst hs
  refine hN _ _ ?_
  walk_at "x"
  rw[Ty.DF hm]at L2
  exact k _ _ X L2
noncomputable def eL(m:Int):Int:=if 0 - m > 0 then 0 - m else 0
abbrev gh(w:ay):Prop:=∀{S:av} {js:Vs} {z:Str} {m:Int} {Q:bQ} {E:cg},js.length<=1000->(∀x S',Ext S S'->Ch S' (0,kB js z m (eL m)) x->Q x S')->w [dB js,.str z,.int m] S Q E
def kD:gh (aY 4 dP):=by
 intro S js z m Q E hj k
 unfold dP
 refine eM ?_
 rw[show ax 4 [dB js,.str z,.int m]=[some (dB js),some (.str z),some (.int m),none] from rfl]
 refine au fun N hN=>?_
 unfold dB
 walk_at "x"
 refine aP PV.str (fun j=>.int (if j=z then m else 0)) trivial js [] (fun j hj=>⟨_,rfl,fun Q q=>?_⟩) (by simpa using du hj) fun p hp=>?_
 ·walk_at "x"
  simp only[HW,HP]
  refine⟨by split<;>exact jo (by decide) (by decide),?_⟩
  split
  ·rename_i h;rw[if_pos h]at q;rw[JU];exact q
  ·rename_i h;rw[if_neg h]at q;rw[JY];exact q
 ·rw[IK,jF js z m (eL m)]
  refine hN _ _ ?_
  have X1:Ext S (am S p (.lst (Ty.es (0,kB js z m (eL m))))):=.new hp
  have hp1:(am S p (.lst (Ty.es (0,kB js z m (eL m))))) p=some (.lst (Ty.es (0,kB js z m (eL m)))):=ac
  generalize am S p (.lst (Ty.es (0,kB js z m (eL m))))=S1 at X1 hp1
  walk_at "x"
  simp only[hp1]
  rw[show Ty.es (0,kB js z m (eL m))=js.map (fun j=>PV.int (if j=z then m else 0))from (jF js z m (eL m)).symm]at hp1 ⊢
  refine aP (fun j=>PV.int (if j=z then m else 0)) (fun j=>.int (if j=z then eL m else 0)) hp1 js [] (fun j hj=>⟨_,rfl,fun Q q=>?_⟩) (by simpa using du hj) fun p2 hp2=>?_
  ·walk_at "x"
   unfold eL at q
   by_cases h:j=z
   ·simp only[if_pos h]at q ⊢;exact q
   ·simp only[if_neg h]at q ⊢;exact q
  ·rw[IK,rD js z m (eL m),iW]
   have Gf:p≠p2:=fun e=>by rw[<-e,hp1]at hp2;cases hp2
   exact k _ _ (X1.trans (.new hp2)) ⟨p,p2,rfl,by rw[ak Gf,hp1,jF js z m (eL m)],ac⟩
def mr(js:Vs)(z:Str):kB js z 0 0=zl js:=IP fun j _=>by split<;>rfl
def rG{js:Vs}{t:Bd}{v:PV}(h1:¬t.hd=("pay":Str))(h2:¬t.hd=("put":Str))(h3:¬t.hd=("then":Str))(h4:¬t.hd=("either":Str))(h5:¬t.hd=("take":Str))(h6:¬t.hd=("often":Str)):t.Br js v=z0 js:=by
 cases t with
 |rest=>rfl
 |use z=>rfl
 |pay x y=>exact absurd rfl h1
 |put z m=>exact absurd rfl h2
 |Ak a b=>exact absurd rfl h3
 |BK a b=>exact absurd rfl h4
 |BZ z m a b=>exact absurd rfl h5
 |BU a=>exact absurd rfl h6
abbrev fq(n:Nat)(w:ay):Prop:=∀{S:av} {js us:Vs} {t:Bd} {v:PV} {Q:bQ} {E:cg},js.length<=1000->t.good js us->aN t v=true->t.dep<=n->(∀x S',Ext S S'->Ch S' (t.Br js v) x->Q x S')->w [dB js,t.pv,v] S Q E
def tO{xm xj xn s0:ay}(BC:gh xm)(BJ:dy xj)(CQ:fE xn)(n:Nat)(ih:fq n s0):fq (n+1) (aY 7 (dQ xm xj xn s0)):=by
 intro S js us t v Q E hj hg hv hd k
 have join:∀{S1:av} {t1 u1:Ty} {x y:PV} {Q:bQ} {E:cg},t1.Ok js->u1.Ok js->Ch S1 t1 x->Ch S1 u1 y->(∀w S',Ext S1 S'->Ch S' (t1.join u1) w->Q w S')->xj [x,y] S1 Q E:=fun h1 h2 l1 l2 q=>BJ (n:=js.length) hj h1.1 h2.1 h1.2.1 h2.2.1 l1 l2 q
 unfold dQ
 refine eM ?_
 rw[Bd.DD,show ax 7 [dB js,.tup (.str t.hd::t.tl),v]=[some (dB js),some (.tup (.str t.hd::t.tl)),some v,none,none,none,none] from rfl]
 refine au fun N hN=>?_
 walk_at "x"
 refine BC hj fun f S1 X1 L1=>?_
 rw[show eL 0=0 from rfl,mr]at L1
 refine hN _ _ (au fun N hN=>?_)
 walk_at "x"
 simp only[g_]
 refine hN _ _ (au fun N hN=>?_)
 simp only[bH,aR,ah,v3,lk,c3,bv,HW,HP]
 by_cases h1:t.hd=("pay":Str)
 ·rw[if_pos h1]
  obtain⟨x,y,rfl⟩:=(Bd.DG t).mp h1
  obtain⟨pe,pd,rfl,e1,d1⟩:=L1
  walk_at "x"
  simp only[Bd.tl,eJ,oX]
  rw[nU hg]
  exact k _ S1 X1 ⟨pe,pd,rfl,e1,d1⟩
 rw[if_neg h1]
 refine hN _ _ (au fun N hN=>?_)
 simp only[bH,aR,ah,v3,lk,c3,bv,HW,HP]
 by_cases h2:t.hd=("put":Str)
 ·rw[if_pos h2]
  obtain⟨z,m,rfl⟩:=(Bd.DH t).mp h2
  walk_at "x"
  simp only[Bd.tl,eJ,oX]
  refine BC hj fun x S2 X2 L2=>?_
  rw[show eL m=0 by unfold eL;rw[if_neg (by have:=hg.2.1;omega)]]at L2
  exact k _ S2 (X1.trans X2) L2
 rw[if_neg h2]
 refine hN _ _ (au fun N hN=>?_)
 simp only[bH,aR,ah,v3,lk,c3,bv,HW,HP]
 by_cases h3:t.hd=("then":Str)
 ·rw[if_pos h3]
  obtain⟨a,b,rfl⟩:=(Bd.Dd t).mp h3
  obtain⟨x,y,rfl,hx,hy⟩:=ls hv
  simp only[Bd.dep]at hd
  walk_at "x"
  simp only[Bd.tl,g_,eJ,oX]
  refine ih hj hg.1 hx (by omega) fun x2 S2 X2 L2=>?_
  refine ih hj hg.2 hy (by omega) fun x3 S3 X3 L3=>?_
  refine join (aT a x hg.1 hx) (aT b y hg.2 hy) (L2.mono X3) L3 fun x4 S4 X4 L4=>?_
  exact k _ S4 (X1.trans (X2.trans (X3.trans X4))) L4
 rw[if_neg h3]
 refine hN _ _ (au fun N hN=>?_)
 simp only[bH,lM,aR,ah,v3,lk,c3,bv,HW,HP]
 have two:∀(hd2:List PV) (a b c:Bd) (i:Int) (y f2:PV) (u:Ty) (S2:av) (N' bk ct:bY->av->Prop),(.str t.hd::t.tl)=hd2++[a.pv,b.pv]->v = .tup [.int i,y]->(i=0\/i=1)->(if i=0 then a.pv else b.pv)=c.pv->c.good js us->aN c y=true->c.dep<=n->Ext S S2->u.Ok js->Ch S2 u f2->t.Br js v=u.join (c.Br js y)->
   aC (ae xj [v3 3,ae s0 [v3 0,ah af (v3 1) (ah bp (ah af (v3 2) (c3 (.int 0))) (c3 (.int 2))),ah af (v3 2) (c3 (.int 1))]]) { nx:=N',rt:=Q,ex:=eC,bk:=bk,ct:=ct } [some (dB js),some (.tup (.str t.hd::t.tl)),some v,some f2,some (.str t.hd),none,none] S2:=by
  intro hd2 a b c i y f2 u S2 N' bk ct e1 e3 hi e4 g1 g2 g3 X2 hu L2 ee
  subst e3
  rw[e1]
  walk_at "x"
  simp only[g_,eJ]
  rw[nT hi]
  simp only[e4]
  refine ih hj g1 g2 g3 fun x3 S3 X3 L3=>?_
  refine join hu (aT c y g1 g2) (L2.mono X3) L3 fun x4 S4 X4 L4=>?_
  rw[<-ee]at L4
  exact k _ S4 (X2.trans (X3.trans X4)) L4
 have Gg:∀{u:Ty},u.Ok js->u=(z0 js).join u:=fun h=>(pk h).symm
 by_cases h4:t.hd=("either":Str)
 ·rw[if_pos h4,if_pos trivial]
  refine au fun N2 BY=>?_
  cases t with
  |BK a b=>
   obtain⟨i,y,rfl,hi⟩:=lv hv
   simp only[Bd.dep]at hd
   simp only[Bd.hd]
   walk_at "y"
   refine BY _ _ ?_
   rcases hi with⟨rfl,h⟩|⟨rfl,h⟩
   ·exact two [.str "either"] a b a 0 y f (z0 js) S1 _ _ _ rfl rfl (.inl rfl) (if_pos rfl) hg.1 h (by omega) X1 (fo js) L1 (Gg (aT a y hg.1 h))
   ·exact two [.str "either"] a b b 1 y f (z0 js) S1 _ _ _ rfl rfl (.inr rfl) (if_neg (by decide)) hg.2 h (by omega) X1 (fo js) L1 (Gg (aT b y hg.2 h))
  |_=>simp[Bd.hd,aG]at h4
 rw[if_neg h4]
 by_cases h5:t.hd=("take":Str)
 ·rw[if_pos h5]
  refine au fun N2 BY=>?_
  cases t with
  |BZ z m a b=>
   obtain⟨i,y,rfl,hi⟩:=lw hv
   simp only[Bd.dep]at hd
   simp only[Bd.hd,Bd.tl]
   rcases hi with⟨rfl,h⟩|⟨rfl,h⟩
   ·walk_at "y"
    refine BC hj fun f2 S2 X2 L2=>?_
    rw[show(0:Int) - m = -m by omega,show eL (-m)=m by unfold eL;rw[if_pos (by have:=hg.2.1;omega)];omega]at L2
    refine BY _ _ ?_
    exact two [.str "take",.str z,.int m] a b a 0 y f2 (0,kB js z (-m) m) S2 _ _ _ rfl rfl (.inl rfl) (if_pos rfl) hg.2.2.2.1 h (by omega) (X1.trans X2) (ly (by have:=hg.2.1;omega)) L2 rfl
   ·walk_at "y"
    refine BY _ _ ?_
    exact two [.str "take",.str z,.int m] a b b 1 y f (z0 js) S1 _ _ _ rfl rfl (.inr rfl) (if_neg (by decide)) hg.2.2.2.2 h (by omega) X1 (fo js) L1 (Gg (aT b y hg.2.2.2.2 h))
  |_=>simp[Bd.hd,aG]at h5
 rw[if_neg h5]
 refine hN _ _ (au fun N hN=>?_)
 simp only[bH,aR,ah,v3,lk,c3,bv,HW,HP]
 by_cases h6:t.hd=("often":Str)
 ·rw[if_pos h6]
  obtain⟨a,rfl⟩:=(Bd.De t).mp h6
  obtain⟨xs,rfl,hx⟩:=lx hv
  simp only[Bd.dep]at hd
  simp only[cp,ba,v3,lk,eX]
  refine bK (fun done σ S'=>∃x3 x5 x6,σ=[some (dB js),some (.tup (.str (Bd.BU a).hd::(Bd.BU a).tl)),some (.tup xs),some x3,some (.str (Bd.BU a).hd),x5,x6]/\Ext S S'/\Ch S' ((done.map (ED js fun y=>a.Br js y)).foldl Ty.join (z0 js)) x3) ⟨_,_,_,rfl,X1,L1⟩ (fun _ _ _ _=>trivial) ?_ ?_
  ·rintro done g rest σ S2 K e ⟨x3,x5,x6,rfl,X2,L2⟩ hK
   have DP:g∈xs:=by rw[e];simp
   obtain⟨m,y,rfl,hm,hy⟩:=eO (I9.mp hx g DP)
   have ok:((done.map (ED js fun y=>a.Br js y)).foldl Ty.join (z0 js)).Ok js:=gL _ _ (fun u hu=>by
    obtain⟨g',hg',rfl⟩:=Ii.mp hu
    obtain⟨m',y',rfl,hm',hy'⟩:=eO (I9.mp hx g' (by rw[e];simp[hg']))
    exact(aT a y' hg hy').again hm') (fo js)
   simp only[Tg.put,Tg.A7,List.set_cons_succ,List.set_cons_zero]
   walk_at "x"
   simp only[Bd.tl,eJ]
   refine ih hj hg hy (by omega) fun x4 S3 X3 L3=>?_
   refine CQ hj (aT a y hg hy) hm L3 fun x5 S4 X4 L4=>?_
   refine join ok ((aT a y hg hy).again hm) (L2.mono (X3.trans X4)) L4 fun x6 S5 X5 L5=>?_
   refine hK _ _ ⟨_,_,_,rfl,X2.trans (X3.trans (X4.trans X5)),?_⟩
   rw[iw]
   exact L5
  ·rintro σ S2 ⟨x3,x5,x6,rfl,X2,L2⟩
   refine hN _ _ ?_
   walk_at "x"
   exact k _ S2 X2 L2
 ·rw[if_neg h6]
  refine hN _ _ ?_
  walk_at "x"
  rw[rG h1 h2 h3 h4 h5 h6]at k
  exact k _ S1 X1 L1
inductive ms (ds:List (Str×Bd)):Nat->PV->Prop
 |DI {n i k:Nat} {z:Str} {t:Bd} {tr:PV}:ds[i]?=some (z,t)->aN t tr=true->cE (2 ^ 60) tr=true->Cp 3 k tr->ms ds n (.tup [.str "do",.int (i:Int),tr])
 |Ef {n:Nat} {m:Int} {vs:List PV}:1<=m->m<=2 ^ 60->vs.length<=3->(∀v∈vs,ms ds n v)->ms ds (n+1) (.tup [.str "again",.int m,.tup vs])
def v0{L n:Nat}{a b:Addr}{ws:List PV}{S:av}{Q:bQ}(ha:S a=some (.lst ws))(hb:S b=some (.lst []))(h:∀x∈ws,Dn L n x)(q:Q (.bl (decide (ws=[]))) S):bv false (.ref a) (.ref b) S Q:=by
 obtain⟨ds,hds,hcs,_⟩:=lj fun x hx=>(h x hx).dat (S:=S)
 refine⟨.list ds,.list [],.ref ha hds,.ref hb .nil,by simpa [PyData.canLay0]using hcs,by simp[PyData.canLay0,PyData.canLayAll0],Ib (Nat.min_le_right _ _) (by simp[PyData.depth,PyData.depthAll]),?_⟩
 cases hds with
 |nil=>simpa [PyData.eqv,PyData.eqvAll]using q
 |cons _ _=>simpa [PyData.eqv,PyData.eqvAll]using q
abbrev gN(n:Nat)(w:ay):Prop:=∀{S:av} {d l x:Addr} {js:Vs} {ds:List (Str×Bd)} {left down wide:Int} {Q:bQ} {E:cg},Aj S d l->S x=some (.lst [.int left])->x≠d->x≠l->1<=ds.length->ds.length<=4->(∀p∈ds,p.2.dep<=6/\p.2.size<=60)->0<=down->down < n->1<=wide->wide<=2 ^ 60->
  (∀vs S' left',vs.length<=3->(∀v∈vs,ms ds down.toNat v)->Dn 3 (2 * down.toNat+14) (.tup vs)->left'<=left->min left 0 - 3 * (down+1)<=left'->Aj S' d l->S' x=some (.lst [.int left'])->AL d l x S S'->Q (.tup vs) S')->w [.ref d,de js ds,.ref x,.int down,.int wide] S Q E
def CS{xd xt s0:ay}(Af:bo xd)(Ff:gH 12 xt)(n:Nat)(ih:gN n s0):gN (n+1) (aY 9 (fg xd xt s0)):=by
 intro S d l x js ds left down wide Q E D hx hxd BV Gh Gi hds h0 hdn hw1 D_ k
 unfold fg
 refine eM ?_
 rw[show ax 9 [PV.ref d,de js ds,PV.ref x,PV.int down,PV.int wide]=[some (.ref d),some (de js ds),some (.ref x),some (.int down),some (.int wide),none,none,none,none] from rfl]
 refine au fun N hN=>?_
 walk_at "x"
 intro pf hpf
 have B3:=D.free hpf
 have hpx:pf≠x:=fun h=>by rw[h,hx]at hpf;cases hpf
 have D1:Aj (am S pf (.lst [])) d l:=D.new hpf
 have x1:(am S pf (.lst [])) x=some (.lst [.int left]):=by rw[ak hpx.symm];exact hx
 have O1:AL d l x S (am S pf (.lst [])):=(AI.new hpf).x
 have f1:(am S pf (.lst [])) pf=some (.lst []):=ac
 generalize am S pf (.lst [])=S1 at D1 x1 O1 f1
 refine hN _ _ (au fun N hN=>?_)
 simp only[cp,dH,ah,ae,bR,ao,v3,lk,c3]
 refine Af D1 (by decide) (by decide) fun r S2 r0 r1 D2 O2=>?_
 have x2:=O2 _ _ x1 hxd BV
 have f2:=O2 _ _ f1 B3.1 B3.2
 have Fr:=O1.trans (O2.x (x:=x))
 simp only[aV]
 refine⟨by omega,by omega,?_⟩
 obtain⟨rr,er⟩:∃rr:Nat,1+r=(rr:Int):=⟨(1+r).toNat,by omega⟩
 rw[er,Iw]
 refine bK (fun done σ S'=>∃(vs:List PV) (l2:Int) (x6 x7 x8:Option PV),σ=[some (.ref d),some (de js ds),some (.ref x),some (.int down),some (.int wide),some (.ref pf),x6,x7,x8]/\vs.length<=done.length/\done.length<=rr/\(∀v∈vs,ms ds down.toNat v/\Dn 3 (2 * down.toNat+13) v)/\(1<=done.length->vs≠[])/\l2<=left/\min left 0 - 3 * down - (done.length:Int)<=l2/\Aj S' d l/\S' x=some (.lst [.int l2])/\S' pf=some (.lst vs)/\AL d l x S S') ⟨[],left,_,_,_,rfl,HN _,IM _,by simp,by simp,Il _,by simp only[List.length_nil];omega,D2,x2,f2,Fr⟩ (fun _ _ _ _=>trivial) ?_ ?_
 ·rintro done y rest σ S3 K e ⟨vs,l2,x6,x7,x8,rfl,hv,hdl,hvs,hne,q1,q2,D3,x3,f3,O3⟩ hK
  obtain⟨rfl,hi⟩:=gE e
  simp only[Tg.put,List.set_cons_succ,List.set_cons_zero]
  -- what the end of a turn wants
  have fin:∀(v:PV) (l7:Int) (S7:av) (a7 a8:Option PV),ms ds down.toNat v->Dn 3 (2 * down.toNat+13) v->l7<=l2 - 1->min left 0 - 3 * down - ((done.length:Int)+1)<=l7->Aj S7 d l->S7 x=some (.lst [.int l7])->S7 pf=some (.lst vs)->AL d l x S S7->K [some (.ref d),some (de js ds),some (.ref x),some (.int down),some (.int wide),some (.ref pf),some (.int ((done.length:Nat):Int)),a7,a8] (am S7 pf (.lst (vs++[v]))):=by
   intro v l7 S7 a7 a8 g1 g2 g4 g5 D7 Ea f7 O7
   refine hK _ _ ⟨vs++[v],l7,_,_,_,rfl,by simp;omega,by rw[HY];exact hi,fun w hw=>?_,by simp,by omega,by rw[HY,Jk];omega,D7.upd B3.1 B3.2,by rw[ak hpx.symm];exact Ea,ac,?_⟩
   ·rcases Iu.mp hw with hw|hw
    ·exact hvs w hw
    ·rw[IB.mp hw]
     exact⟨g1,g2⟩
   ·intro b o hb h1 h2 h3
    have Ge:b≠pf:=fun h=>by rw[h,hpf]at hb;cases hb
    rw[ak Ge]
    exact O7 _ _ hb h1 h2 h3
  generalize hC:(ai (aw 8 (ae xd [(v3 0),(ao dG [(ah af (v3 1) (c3 (.int 1)))])])) (dj (ko "list" bB (v3 5) [(aI [(c3 (.str "do")),(v3 8),(ae xt [(v3 0),(ah af (ah af (ah af (v3 1) (c3 (.int 1))) (v3 8)) (c3 (.int 1))),(cr [(c3 (.int 3))]),(ah af (cr [(c3 (.int 3)),(v3 4)]) (ae xd [(v3 0),(c3 (.int 2))]))])])])))=C
  have DI:∀(S5:av),Aj S5 d l->S5 x=some (.lst [.int (l2 - 1)])->S5 pf=some (.lst vs)->AL d l x S S5->C { nx:=K,rt:=Q,ex:=eC,bk:=N,ct:=K } [some (.ref d),some (de js ds),some (.ref x),some (.int down),some (.int wide),some (.ref pf),some (.int ((done.length:Nat):Int)),x7,x8] S5:=by
   intro S5 D5 x5 f5 O5
   rw[<-hC]
   refine au fun N2 BY=>?_
   walk_at "x"
   simp only[de,eJ,HQ]
   refine Af D5 (by omega) (by omega) fun dd S6 d0 d1 D6 O6=>?_
   obtain⟨j,rfl⟩:∃j:Nat,dd=(j:Int):=⟨dd.toNat,by omega⟩
   have DO:=O6 _ _ x5 hxd BV
   have f6:=O6 _ _ f5 B3.1 B3.2
   have EN:=O5.trans (O6.x (x:=x))
   refine BY _ _ ?_
   have hj:j < ds.length:=by omega
   have hat:AS (ds.map jx) (j:Int)=some (jx ds[j]):=nh (by rw[Ia,IL hj];rfl)
   have hm:ds[j]∈ds:=List.getElem_mem hj
   obtain⟨Fc,hsize⟩:=hds _ hm
   walk_at "x"
   simp only[eJ,hat,f6,true_and]
   simp only[jx,eJ]
   intro p3 hp3
   have EB:=D6.free hp3
   have GQ:x≠p3:=fun h=>by rw[h,hp3]at DO;cases DO
   have GR:pf≠p3:=fun h=>by rw[h,hp3]at f6;cases f6
   intro p4 Du
   have Hw:p3≠p4:=fun h=>by rw[<-h,ac]at Du;cases Du
   have D7:=(D6.new (o:=.lst [.int 3]) hp3).new (o:=.lst [.int 3,.int wide]) Du
   have GS:=(D6.new (o:=.lst [.int 3]) hp3).free Du
   have Ea:(am S6 p3 (.lst [.int 3])) x=some (.lst [.int (l2 - 1)]):=by rw[ak GQ];exact DO
   have f7:(am S6 p3 (.lst [.int 3])) pf=some (.lst vs):=by rw[ak GR];exact f6
   have Hx:x≠p4:=fun h=>by rw[h,Du]at Ea;cases Ea
   have Hy:pf≠p4:=fun h=>by rw[h,Du]at f7;cases f7
   have Ft:(am (am S6 p3 (.lst [.int 3])) p4 (.lst [.int 3,.int wide])) x=some (.lst [.int (l2 - 1)]):=by rw[ak Hx];exact Ea
   have f8:(am (am S6 p3 (.lst [.int 3])) p4 (.lst [.int 3,.int wide])) pf=some (.lst vs):=by rw[ak Hy];exact f7
   have GT:(am (am S6 p3 (.lst [.int 3])) p4 (.lst [.int 3,.int wide])) p3=some (.lst [.int 3]):=by rw[ak Hw];exact ac
   have GU:(am (am S6 p3 (.lst [.int 3])) p4 (.lst [.int 3,.int wide])) p4=some (.lst [.int 3,.int wide]):=ac
   have Hz:AL d l x S (am (am S6 p3 (.lst [.int 3])) p4 (.lst [.int 3,.int wide])):=EN.trans ((AI.new hp3).trans (.new Du)).x
   have GV:AI d l S6 (am (am S6 p3 (.lst [.int 3])) p4 (.lst [.int 3,.int wide])):=(AI.new hp3).trans (.new Du)
   generalize am (am S6 p3 (.lst [.int 3])) p4 (.lst [.int 3,.int wide])=S8 at D7 Ft f8 GT GU Hz GV
   refine Af D7 (by decide) (by decide) fun g S9 g0 g1 D9 O9=>?_
   have x9:=O9 _ _ Ft hxd BV
   have f9:=O9 _ _ f8 B3.1 B3.2
   have HA:=O9 _ _ GT EB.1 EB.2
   simp only[O9 _ _ GU GS.1 GS.2]
   obtain⟨w,hw,Dt⟩:=cN (xs:=[PV.int 3,.int wide]) g0 (by simpa using g1)
   rw[hw]
   obtain⟨ww,rfl,Gc,Gd⟩:∃ww,w = .int ww/\1<=ww/\ww<=2 ^ 60:=by
    simp only[HZ,Ie,Je]at Dt
    rcases Dt with rfl|rfl
    ·exact⟨3,rfl,by omega,by omega⟩
    ·exact⟨wide,rfl,hw1,D_⟩
   dsimp only
   refine Ff (t:=ds[j].2) D9 HA EB.1 EB.2 (by decide) Gc Gd (by omega) fun v HC le1 i1 t1 n1 q0 q3 z1 HD HE Gj=>?_
   have HF:=Gj _ _ x9 hxd BV GQ
   have GW:=Gj _ _ f9 B3.1 B3.2 GR
   simp only[GW]
   refine⟨HX (show _ < 1000 by omega) (by decide),?_⟩
   refine fin (.tup [.str "do",.int (j:Int),v]) (l2 - 1) HC _ _ ?_ ?_ (Il _) (by omega) HD HF GW ?_
   ·exact .DI (z:=ds[j].1) (t:=ds[j].2) (IL hj) i1 n1 t1
   ·have t2:=t1.x.mono (HN 3) (show 2 * ds[j].2.dep<=2 * down.toNat+12 by omega)
    refine .tup (by simp) fun y hy=>?_
    simp only[HZ,Ie,Je]at hy
    rcases hy with rfl|rfl|rfl
    ·exact .str mn.1
    ·exact .int _
    ·exact t2
   ·intro b o hb h1 h2 h3
    have Gk:=EN _ _ hb h1 h2 h3
    have hb9:=O9 _ _ (GV _ _ Gk h1 h2) h1 h2
    exact Gj _ _ hb9 h1 h2 (fun h=>by rw[h,hp3]at Gk;cases Gk)
  generalize hB:(bH (lM (aR (ah uh (ah af (v3 2) (c3 (.int 0))) (c3 (.int 0)))) (aR (ah (bv false) (v3 5) (cr [])))) C a9)=B
  have EJ:∀(S5:av),Aj S5 d l->S5 x=some (.lst [.int (l2 - 1)])->S5 pf=some (.lst vs)->AL d l x S S5->B { nx:=K,rt:=Q,ex:=eC,bk:=N,ct:=K } [some (.ref d),some (de js ds),some (.ref x),some (.int down),some (.int wide),some (.ref pf),some (.int ((done.length:Nat):Int)),x7,x8] S5:=by
   intro S5 D5 x5 f5 O5
   rw[<-hB]
   simp only[bH,lM,aR,ah,v3,lk,c3,af,x5,g_,uh,dE,HP]
   by_cases hl2:0<=l2 - 1
   ·rw[if_pos hl2]
    exact DI S5 D5 x5 f5 O5
   ·rw[if_neg hl2]
    simp only[cr,bR]
    intro pn Fu
    have nx:x≠pn:=fun h=>by rw[h,Fu]at x5;cases x5
    have nf:pf≠pn:=fun h=>by rw[h,Fu]at f5;cases f5
    have DO:(am S5 pn (.lst [])) x=some (.lst [.int (l2 - 1)]):=by rw[ak nx];exact x5
    have f6:(am S5 pn (.lst [])) pf=some (.lst vs):=by rw[ak nf];exact f5
    have D6:Aj (am S5 pn (.lst [])) d l:=D5.new Fu
    have O6:AL d l x S (am S5 pn (.lst [])):=O5.trans (AI.new Fu).x
    refine v0 f6 ac (fun v hv=>(hvs v hv).2) ?_
    by_cases en:vs=[]
    ·rw[K7 en]
     exact DI _ D6 DO f6 O6
    ·rw[IJ en]
     simp only[a9]
     refine hK _ _ ⟨vs,l2 - 1,_,_,_,rfl,by simp;omega,by rw[HY];exact hi,hvs,fun _=>en,by omega,by rw[HY,Jk];omega,D6,DO,f6,O6⟩
  refine au fun N2 BY=>?_
  walk_at "x"
  simp only[x3,g_,mF]
  have e1:(if (0:Int)<=0 then if (0:Int) < (([PV.int l2]:List PV).length:Nat) then some (0:Int).toNat else none else if -((([PV.int l2]:List PV).length:Nat):Int)<=0 then some (0+((([PV.int l2]:List PV).length:Nat):Int)).toNat else none)=some 0:=rfl
  rw[e1]
  dsimp only
  have D4:Aj (am S3 x (.lst [.int (l2 - 1)])) d l:=D3.upd hxd BV
  have x4:(am S3 x (.lst [.int (l2 - 1)])) x=some (.lst [.int (l2 - 1)]):=ac
  have f4:(am S3 x (.lst [.int (l2 - 1)])) pf=some (.lst vs):=by rw[ak hpx];exact f3
  have O4:AL d l x S (am S3 x (.lst [.int (l2 - 1)])):=O3.trans .upd
  refine BY _ _ ?_
  show bH _ _ _ _ _ (am S3 x (.lst [.int (l2 - 1)]))
  generalize am S3 x (.lst [.int (l2 - 1)])=S4 at D4 x4 f4 O4
  simp only[bH,jW,aR,ah,v3,lk,c3,af,x4,g_,mG,dE,HP]
  by_cases hd0:0 < down
  case neg=>rw[if_neg hd0,if_neg (by decide)];exact EJ S4 D4 x4 f4 O4
  rw[if_pos hd0]
  by_cases Gm:0 < l2 - 1
  case neg=>rw[if_neg Gm,if_neg (by decide)];exact EJ S4 D4 x4 f4 O4
  rw[if_pos Gm]
  simp only[ae,bR,ah,v3,lk,c3]
  refine Af D4 (by decide) (by decide) fun g S5 g0 g1 D5 O5=>?_
  have x5:=O5 _ _ x4 hxd BV
  have f5:=O5 _ _ f4 B3.1 B3.2
  have Fs:=O4.trans (O5.x (x:=x))
  simp only[bv,HW,HP]
  by_cases hg:g=0
  case neg=>rw[if_neg hg];exact EJ S5 D5 x5 f5 Fs
  rw[if_pos hg]
  refine au fun N3 DC=>?_
  walk_at "x"
  intro pl hpl
  have Fd:=D5.free hpl
  have Ga:pf≠pl:=fun h=>by rw[h,hpl]at f5;cases f5
  have Gb:x≠pl:=fun h=>by rw[h,hpl]at x5;cases x5
  refine Af (D5.new hpl) (by decide) (by decide) fun g S6 g0 g1 D6 O6=>?_
  have p6:=O6 _ _ (ac (S:=S5) (o:=.lst [.int 4,.int wide])) Fd.1 Fd.2
  have DO:=O6 _ _ (by rw[ak Gb];exact x5) hxd BV
  have f6:=O6 _ _ (by rw[ak Ga];exact f5) B3.1 B3.2
  have EN:AL d l x S S6:=Fs.trans ((AI.new hpl).trans O6).x
  simp only[p6]
  obtain⟨w,hw,Dt⟩:=cN (xs:=[PV.int 4,.int wide]) g0 (by simpa using g1)
  rw[hw]
  obtain⟨ww,rfl,Gc,Gd⟩:∃ww,w = .int ww/\1<=ww/\ww<=2 ^ 60:=by
   simp only[HZ,Ie,Je]at Dt
   rcases Dt with rfl|rfl
   ·exact⟨4,rfl,by omega,by omega⟩
   ·exact⟨wide,rfl,hw1,D_⟩
  dsimp only
  refine Af D6 (by omega) (by omega) fun m S7 m0 m1 D7 O7=>?_
  have Ea:=O7 _ _ DO hxd BV
  have f7:=O7 _ _ f6 B3.1 B3.2
  have HG:=EN.trans (O7.x (x:=x))
  refine DC _ _ ?_
  walk_at "x"
  simp only[f7,true_and]
  refine ih (js:=js) (ds:=ds) (down:=down - 1) D7 Ea hxd BV Gh Gi hds (by omega) (by omega) hw1 D_ fun us S8 l8 i8 e8 t8 q8 q9 D8 Ft O8=>?_
  have f8:=O8 _ _ f7 B3.1 B3.2 hpx
  simp only[f8]
  refine⟨HX (show _ < 1000 by omega) (by decide),?_⟩
  refine fin (.tup [.str "again",.int (1+m),.tup us]) l8 S8 _ _ ?_ ?_ (by omega) (by omega) D8 Ft f8 (HG.trans O8)
  ·rw[show down.toNat=(down - 1).toNat+1 by omega]
   exact .Ef (by omega) (by omega) i8 e8
  ·have t2:=t8.mono (HN 3) (show 2 * (down - 1).toNat+14<=2 * down.toNat+12 by omega)
   refine .tup (by simp) fun z hz=>?_
   simp only[HZ,Ie,Je]at hz
   rcases hz with rfl|rfl|rfl
   ·exact .str mn.2
   ·exact .int _
   ·exact t2
 ·rintro σ S3 ⟨vs,l2,x6,x7,x8,rfl,hv,hdl,hvs,hne,q1,q2,D3,x3,f3,O3⟩
  rw[cq]at *
  refine hN _ _ ?_
  walk_at "x"
  simp only[f3]
  exact k vs S3 l2 (by omega) (fun v hv=>(hvs v hv).1) (.tup (by omega) fun v hv=>(hvs v hv).2) q1 (by omega) D3 x3 O3
noncomputable def wt(js:Vs)(ds:List (Str×Bd)):PV->Ty
 | .tup [_,.int i,tr]=>(match ds[i.toNat]? with|some p=>p.2.Br js tr|none=>z0 js)
 |_=>z0 js
noncomputable def iR(js:Vs)(f:PV->Ty)(vs:List PV):Ty:=(vs.map f).foldl Ty.join (z0 js)
noncomputable def z_(js:Vs)(ds:List (Str×Bd))(f:PV->Ty)(v:PV):Ty:=match v with
 | .tup [.str a,.int m,.tup vs]=>if a=("again":Str) then (iR js f vs).again m else wt js ds v
 |_=>wt js ds v
noncomputable def iy(js:Vs)(ds:List (Str×Bd)):Nat->PV->Ty
 |0=>wt js ds
 |n+1=>z_ js ds (iy js ds n)
def uo:¬(("do":Str)=("again":Str)):=by simp[aG]
def nl{js:Vs}{ds:List (Str×Bd)}{i:Nat}{p:Str×Bd}{tr:PV}(h:ds[i]?=some p):wt js ds (.tup [.str "do",.int (i:Int),tr])=p.2.Br js tr:=by
 show(match ds[((i:Int)).toNat]? with|some p=>p.2.Br js tr|none=>z0 js)=_
 rw[Iw,h]
theorem lA{js:Vs}{ds:List (Str×Bd)}{i:Nat}{p:Str×Bd}{tr:PV}(h:ds[i]?=some p):∀n,iy js ds n (.tup [.str "do",.int (i:Int),tr])=p.2.Br js tr
 |0=>nl h
 |n+1=>by
  cases tr with
  |tup vs=>
   show(if ("do":Str)=("again":Str) then (iR js (iy js ds n) vs).again (i:Int) else wt js ds (.tup [.str "do",.int (i:Int),.tup vs]))=_
   rw[if_neg uo]
   exact nl h
  |_=>exact nl h
def lB{js:Vs}{ds:List (Str×Bd)}{m:Int}{vs:List PV}(n:Nat):iy js ds (n+1) (.tup [.str "again",.int m,.tup vs])=(iR js (iy js ds n) vs).again m:=by
 show(if ("again":Str)=("again":Str) then (iR js (iy js ds n) vs).again m else wt js ds (.tup [.str "again",.int m,.tup vs]))=_
 rw[if_pos rfl]
def mv{js:Vs}(f:PV->Ty)(done:List PV)(x:PV):iR js f (done++[x])=(iR js f done).join (f x):=iw f done x
def HB(js:Vs)(ds:List (Str×Bd)):Prop:=∀p∈ds,p.2.good js []/\p.2.dep<=6
def iz{js:Vs}{f:PV->Ty}{vs:List PV}(h:∀v∈vs,(f v).Ok js):(iR js f vs).Ok js:=gL _ _ (fun u hu=>by obtain⟨v,hv,rfl⟩:=Ii.mp hu;exact h v hv) (fo js)
def gi{js:Vs}{ds:List (Str×Bd)}(hb:HB js ds){n:Nat}{v:PV}(h:ms ds n v):(iy js ds n v).Ok js:=by
 induction h with
 |DI hi htr _ _=>rw[lA hi];exact aT _ _ (hb _ (IU hi)).1 htr
 |Ef h1 _ _ _ ih=>rw[lB];exact(iz ih).again h1
noncomputable def sB:Nat->Int
 |0=>tB 6
 |n+1=>2 ^ 62 * sB n
theorem gj:∀n,tB 6<=sB n
 |0=>Il _
 |n+1=>by have h1:=gj n;have h2:=cG 6;show tB 6<=2 ^ 62 * sB n;omega
def n9{js:Vs}{f:PV->Ty}{vs:List PV}{n:Nat}(hl:vs.length<=3)(h:∀v∈vs,(f v).CB (sB n)):(iR js f vs).CB (3 * sB n):=by
 have p1:=gj n
 have p2:=cG 6
 refine(jH (B:=sB n) (by omega) _ _ 0 (fun u hu=>by obtain⟨v,hv,rfl⟩:=Ii.mp hu;exact h v hv) (jG (Il _) (Il _)) (Il _)).mono ?_
 rw[HQ,Kw]
 exact Ih (by omega) (by omega)
def tP{js:Vs}{ds:List (Str×Bd)}(hb:HB js ds){n:Nat}{v:PV}(h:ms ds n v):(iy js ds n v).CB (sB n):=by
 induction h with
 |@DI n i k z t tr hi htr hib EO=>
  rw[lA hi]
  have g:=hb _ (IU hi)
  exact((cO t tr k g.1 htr (EO.mono (by decide) (HN _)) hib).mono (dZ g.2)).mono (gj n)
 |@Ef n m vs h1 h2 hl _ ih=>
  rw[lB]
  have p1:=gj n
  have p2:=cG 6
  refine((n9 hl ih).again (by omega) h1).mono ?_
  have:3 * sB n * m<=3 * sB n * 2 ^ 60:=Iz h2 (by omega)
  show _<=2 ^ 62 * sB n
  omega
noncomputable def wu:PV->Nat->Int
 | .tup [_,.int i,_]=>fun j=>if j=i.toNat then 1 else 0
 |_=>fun _=>0
noncomputable def gP(f:PV->Nat->Int)(vs:List PV)(j:Nat):Int:=vs.foldl (fun a v=>a+f v j) 0
noncomputable def Aa(f:PV->Nat->Int)(v:PV):Nat->Int:=match v with
 | .tup [.str a,.int m,.tup vs]=>if a=("again":Str) then fun j=>gP f vs j * m else wu v
 |_=>wu v
noncomputable def fG:Nat->PV->Nat->Int
 |0=>wu
 |n+1=>Aa (fG n)
theorem nq{i:Nat}{tr:PV}:∀n,fG n (.tup [.str "do",.int (i:Int),tr])=fun j=>if j=i then 1 else 0
 |0=>by show(fun j=>if j=((i:Int)).toNat then _ else _)=_;rw[Iw]
 |n+1=>by
  have e:wu (.tup [.str "do",.int (i:Int),tr])=fun j=>if j=i then 1 else 0:=by show(fun j=>if j=((i:Int)).toNat then _ else _)=_;rw[Iw]
  cases tr with
  |tup vs=>
   show(if ("do":Str)=("again":Str) then (fun j=>gP (fG n) vs j * (i:Int)) else wu (.tup [.str "do",.int (i:Int),.tup vs]))=_
   rw[if_neg uo]
   exact e
  |_=>exact e
def nu{m:Int}{vs:List PV}(n:Nat):fG (n+1) (.tup [.str "again",.int m,.tup vs])=fun j=>gP (fG n) vs j * m:=by
 show(if ("again":Str)=("again":Str) then (fun j=>gP (fG n) vs j * m) else wu (.tup [.str "again",.int m,.tup vs]))=_
 rw[if_pos rfl]
def jJ(f:PV->Nat->Int)(done:List PV)(x:PV)(j:Nat):gP f (done++[x]) j=gP f done j+f x j:=by unfold gP;rw[List.foldl_append];rfl
theorem lC{B:Int}(hB:0<=B){f:PV->Nat->Int}{j:Nat}:∀(vs:List PV) (a A:Int),(∀v∈vs,0<=f v j/\f v j<=B)->0<=a->a<=A->0<=vs.foldl (fun a v=>a+f v j) a/\vs.foldl (fun a v=>a+f v j) a<=A+vs.length * B
 |[],a,A,_,h0,h1=>⟨h0,by simp;exact h1⟩
 |v::r,a,A,h,h0,h1=>by
  have hv:=h v (by simp)
  obtain⟨p,q⟩:=lC hB r (a+f v j) (A+B) (fun x hx=>h x (by simp[hx])) (by omega) (by omega)
  refine⟨p,Lg q ?_⟩
  rw[Ic,Int.natCast_add,Int.add_mul]
  show _<=A+(r.length * B+1 * B)
  omega
def tQ{ds:List (Str×Bd)}{n:Nat}{v:PV}(h:ms ds n v)(j:Nat):0<=fG n v j/\fG n v j<=sB n:=by
 induction h with
 |@DI n i k z t tr hi htr hib EO=>
  rw[nq]
  have p1:=gj n
  have p2:=cG 6
  dsimp only
  split<;>omega
 |@Ef n m vs h1 h2 hl _ ih=>
  rw[nu]
  have p1:=gj n
  have p2:=cG 6
  obtain⟨a,b⟩:=lC (B:=sB n) (by omega) (f:=fG n) (j:=j) vs 0 0 ih (Il _) (Il _)
  dsimp only
  have c:(vs.length:Int) * sB n<=3 * sB n:=Ih (by omega) (by omega)
  have a':0<=gP (fG n) vs j:=a
  have b':gP (fG n) vs j<=3 * sB n:=by unfold gP;omega
  refine⟨Jg a' (by omega),?_⟩
  have h3:gP (fG n) vs j * m<=3 * sB n * m:=Ih b' (by omega)
  have h4:3 * sB n * m<=3 * sB n * 2 ^ 60:=Iz h2 (by omega)
  show _<=2 ^ 62 * sB n
  omega
noncomputable def hE(n:Nat)(c:Nat->Int):Ty:=(0,(List.range n).map fun j=>(c j,0))
def d4(n:Nat)(c:Nat->Int):(hE n c).es=(List.range n).map fun j=>PV.int (c j):=by unfold hE Ty.es;rw[Im];rfl
def iX(n:Nat)(c:Nat->Int):(hE n c).2.length=n:=by unfold hE;rw[HQ,Jf]
def rH(n:Nat)(c e:Nat->Int):((hE n c).join (hE n e)).es=(hE n fun j=>c j+e j).es:=by
 rw[d4,<-lr]
 unfold hE
 dsimp only
 rw[List.zip_map,Im,show(List.range n).zip (List.range n)=(List.range n).map fun x=>(x,x)from gJ _ _,Im]
 rfl
def pB(n:Nat)(c:Nat->Int)(m:Int):((hE n c).again m).es=(hE n fun j=>c j * m).es:=by
 rw[d4,<-mq]
 unfold hE
 dsimp only
 rw[Im]
 rfl
abbrev gQ(k:Nat)(w:ay):Prop:=∀{S:av} {js:Vs} {ds:List (Str×Bd)} {n:Nat} {vs:List PV} {Q:bQ} {E:cg},js.length<=1000->HB js ds->n < k->(∀v∈vs,ms ds n v)->(∀S',Ext S S'->Q (iR js (iy js ds n) vs).pv S')->w [de js ds,.tup vs] S Q E
def CT{xn xb xt xa s0:ay}(AU:gK xn)(AA:cF xb)(Cw:ix xt)(BB:fD xa)(k:Nat)(ih:gQ k s0):gQ (k+1) (aY 4 (b6 xn xb xt xa s0)):=by
 intro S js ds n vs Q E hj hb hn hvs kk
 unfold b6
 refine eM ?_
 rw[show ax 4 [de js ds,.tup vs]=[some (de js ds),some (.tup vs),none,none] from rfl]
 refine au fun N hN=>?_
 rw[show de js ds = .tup [dB js,.tup (ds.map jx)] from rfl]
 walk_at "x"
 simp only[g_]
 rw[show PV.tup [dB js,.tup (ds.map jx)]=de js ds from rfl]
 refine AU hj (hN _ _ (au fun N hN=>?_))
 simp only[cp,ba,v3,lk,eX]
 refine bK (fun done σ S'=>∃x3,σ=[some (de js ds),some (.tup vs),some (iR js (iy js ds n) done).pv,x3]/\Ext S S') ⟨_,rfl,.refl⟩ (fun _ _ _ _=>trivial) ?_ ?_
 ·rintro done g rest σ S1 K e ⟨x3,rfl,X1⟩ hK
  have hp:=hvs g (by rw[e];simp)
  have ok:(iR js (iy js ds n) done).Ok js:=iz fun v hv=>gi hb (hvs v (by rw[e];simp[hv]))
  have Fv:=gi hb hp
  simp only[Tg.put,List.set_cons_succ,List.set_cons_zero]
  have fin:∀S2,Ext S1 S2->xb [(iR js (iy js ds n) done).pv,(iy js ds n g).pv] S2 (fun v S3=>K [some (de js ds),some (.tup vs),some v,some g] S3) eC:=fun S2 X2=>by
   refine AA hj ok Fv fun S3 X3=>?_
   rw[<-mv]
   exact hK _ _ ⟨_,rfl,X1.trans (X2.trans X3)⟩
  cases hp with
  |@DI _ i kk z t tr hi htr hib EO=>
   walk_at "y"
   refine Cw hj hi (hb _ (IU hi)).1 htr hib (hb _ (IU hi)).2 fun S2 X2=>?_
   rw[lA hi]at fin
   exact fin S2 X2
  |@Ef n' m us h1 h2 hl hu=>
   walk_at "y"
   refine ih hj hb (by omega) hu fun S2 X2=>?_
   refine BB hj (iz fun v hv=>gi hb (hu v hv)) h1 (by omega) fun S3 X3=>?_
   rw[lB]at fin
   exact fin S3 (X2.trans X3)
 ·rintro σ S1 ⟨x3,rfl,X1⟩
  refine hN _ _ ?_
  walk_at "x"
  exact kk S1 X1
abbrev gR(k:Nat)(w:ay):Prop:=∀{S:av} {js:Vs} {ds:List (Str×Bd)} {n:Nat} {vs:List PV} {Q:bQ} {E:cg},ds.length<=1000->n < k->(∀v∈vs,ms ds n v)->(∀S',Ext S S'->Q (.tup (hE ds.length (gP (fG n) vs)).es) S')->w [de js ds,.tup vs] S Q E
def CU{xa xm s0:ay}(Bi:iu xa)(BI:jE xm)(k:Nat)(ih:gR k s0):gR (k+1) (aY 5 (bU xa xm s0)):=by
 intro S js ds n vs Q E hj hn hvs kk
 unfold bU
 refine eM ?_
 rw[show ax 5 [de js ds,.tup vs]=[some (de js ds),some (.tup vs),none,none,none] from rfl]
 refine au fun N hN=>?_
 rw[show de js ds = .tup [dB js,.tup (ds.map jx)] from rfl]
 walk_at "x"
 simp only[eJ,jj,HQ,Int.toNat_natCast]
 rw[show PV.tup [dB js,.tup (ds.map jx)]=de js ds from rfl]
 refine⟨by omega,by omega,?_⟩
 rw[show List.replicate ds.length (PV.int 0)=(hE ds.length (gP (fG n) [])).es by rw[d4];exact(List.eq_replicate_iff.mpr ⟨by simp,fun b hb=>by obtain⟨x,_,rfl⟩:=Ii.mp hb;rfl⟩).symm]
 refine hN _ _ (au fun N hN=>?_)
 simp only[cp,ba,v3,lk,eX]
 refine bK (fun done σ S'=>∃x3 x4,σ=[some (de js ds),some (.tup vs),some (.tup (hE ds.length (gP (fG n) done)).es),x3,x4]/\Ext S S') ⟨_,_,rfl,.refl⟩ (fun _ _ _ _=>trivial) ?_ ?_
 ·rintro done g rest σ S1 K e ⟨x3,x4,rfl,X1⟩ hK
  have hp:=hvs g (by rw[e];simp)
  simp only[Tg.put,List.set_cons_succ,List.set_cons_zero]
  have fin:∀(S2:av) (x:Option PV),Ext S1 S2->xa [.tup (hE ds.length (gP (fG n) done)).es,.tup (hE ds.length (fG n g)).es] S2 (fun v S3=>K [some (de js ds),some (.tup vs),some v,some g,x] S3) eC:=fun S2 x X2=>by
   refine Bi (by rw[iX];exact hj) fun S3 X3=>?_
   rw[rH,show(fun j=>gP (fG n) done j+fG n g j)=gP (fG n) (done++[g])from funext fun j=>(jJ _ _ _ _).symm]
   exact hK _ _ ⟨_,_,rfl,X1.trans (X2.trans X3)⟩
  cases hp with
  |@DI _ i kk z t tr hi htr hib EO=>
   simp only[bH,aR,ah,v3,lk,c3,af,g_,bv,HW,Lb,JO]
   refine au fun N2 BY=>?_
   walk_at "x"
   have le:(hE ds.length (gP (fG n) done)).es.length=ds.length:=by unfold Ty.es;rw[HQ,iX]
   simp only[le]
   refine⟨by omega,by omega,?_⟩
   rw[Iw,gg]
   refine aP (fun j:Nat=>PV.int (j:Int)) (fun j=>PV.int (if j=i then 1 else 0)) trivial _ [] (fun j hj=>⟨_,rfl,fun Q q=>?_⟩) (by rw[Jh,J3,Jf];exact du hj) fun p hp=>?_
   ·walk_at "x"
    simp only[eJ,HW,HP]
    by_cases h:j=i
    ·subst h;rw[if_pos rfl]at q ⊢;exact q
    ·rw[if_neg h]at q;rw[if_neg (by omega)];exact q
   ·rw[IK]
    simp only[ac]
    refine BY _ _ ?_
    walk_at "x"
    rw[nq]at fin
    rw[<-d4]
    exact fin _ _ (.new hp)
  |@Ef n' m us h1 h2 hl hu=>
   walk_at "y"
   refine ih hj (by omega) hu fun S2 X2=>?_
   refine BI (by rw[iX];exact hj) (by omega) (by omega) fun S3 X3=>?_
   rw[pB]
   rw[nu]at fin
   exact fin S3 _ (X2.trans X3)
 ·rintro σ S1 ⟨x3,x4,rfl,X1⟩
  refine hN _ _ ?_
  walk_at "x"
  exact kk S1 X1
noncomputable def v5(js:Vs)(ds:List (Str×Bd))(n:Nat)(vs:List PV):PV:=.tup [cf (iR js (iy js ds n) vs).1,.tup (hE ds.length (gP (fG n) vs)).es,.tup (iR js (iy js ds n) vs).es,.tup (iR js (iy js ds n) vs).dm]
abbrev lD(k:Nat)(w:ay):Prop:=∀{S:av} {js:Vs} {ds:List (Str×Bd)} {n:Nat} {vs:List PV} {Q:bQ} {E:cg},js.length<=1000->ds.length<=1000->HB js ds->n < k->(∀v∈vs,ms ds n v)->(∀S',Ext S S'->Q (v5 js ds n vs) S')->w [de js ds,.tup vs] S Q E
def Dg{xt xc:ay}(k:Nat)(CT:gQ k xt)(CU:gR k xc):lD k (aY 3 (cX xt xc)):=by
 intro S js ds n vs Q E hj hd hb hn hvs kk
 unfold cX
 refine eM ?_
 rw[show ax 3 [de js ds,.tup vs]=[some (de js ds),some (.tup vs),none] from rfl]
 refine au fun N hN=>?_
 walk_at "x"
 refine CT hj hb hn hvs fun S1 X1=>hN _ _ ?_
 unfold Ty.pv
 walk_at "x"
 simp only[g_,eJ,oX]
 refine CU hd hn hvs fun S2 X2=>?_
 exact kk S2 (X1.trans X2)
end C
namespace G24
open PySem L2 L3
noncomputable def bg(i:Nat):Stmt:=PySem.Challenge.pw_dueworth_k24_tallies_of_stories.main.body.getD i (.Pass ⟨0,0,0,0⟩)
structure Txt (P:Program) (w:World) (K:Vo) (mg:Vr):Prop where
 o_common:a_ K mg "common" (bg 1) ["one","other"]
 o_fraction:a_ K mg "fraction" (bg 2) ["top","bottom"]
 o_plus:a_ K mg "plus" (bg 3) ["one","other"]
 o_times:a_ K mg "times" (bg 4) ["one","other"]
 o_chosen:a_ K mg "chosen" (bg 6) ["body","trace"]
 o_things_of:a_ K mg "things_of" (bg 8) ["jars","name","things"]
 o_added:a_ K mg "added" (bg 9) ["one","other"]
 o_multiplied:a_ K mg "multiplied" (bg 10) ["one","many"]
 o_no_tally:a_ K mg "no_tally" (bg 11) ["jars"]
 o_behind:a_ K mg "behind" (bg 12) ["one","other"]
 o_again:a_ K mg "again" (bg 13) ["one","many"]
 o_tally_of_often:a_ K mg "tally_of_often" (bg 14) ["jars","body","goings"]
 o_tally_of_take:a_ K mg "tally_of_take" (bg 15) ["jars","body"]
 o_tally_of:a_ K mg "tally_of" (bg 16) ["jars","body","trace"]
 o_tally:a_ K mg "tally" (bg 17) ["house","d","trace"]
 o_tally_of_story:a_ K mg "tally_of_story" (bg 19) ["house","story"]
 o_counts_of_story:a_ K mg "counts_of_story" (bg 20) ["house","story"]
 o_story_tally:a_ K mg "story_tally" (bg 21) ["house","story"]
 o__law_deal:a_ K mg "_law_deal" (bg 23) ["_law_script","_law_base"]
 o__law_draw:a_ K mg "_law_draw" (bg 24) ["_law_deal_here","_law_many_here"]
 o__law_words:a_ K mg "_law_words" (bg 25) ["_law_deal_here","_law_many_here"]
 o__law_low:a_ K mg "_law_low" (bg 26) ["_law_top","_law_bottom"]
 o__law_plus:a_ K mg "_law_plus" (bg 27) ["_law_one","_law_other"]
 o__law_cost:a_ K mg "_law_cost" (bg 28) ["_law_deal_here"]
 o__law_leaf:a_ K mg "_law_leaf" (bg 29) ["_law_deal_here","_law_jars"]
 o__law_body:a_ K mg "_law_body" (bg 30) ["_law_deal_here","_law_jars","_law_left","_law_down"]
 o__law_pass_count:a_ K mg "_law_pass_count" (bg 31) ["_law_body_here"]
 o__law_round_count:a_ K mg "_law_round_count" (bg 32) ["_law_body_here"]
 o__law_deed_body:a_ K mg "_law_deed_body" (bg 33) ["_law_deal_here","_law_jars","_law_room","_law_most"]
 o__law_house:a_ K mg "_law_house" (bg 34) ["_law_deal_here","_law_most_jars","_law_most_deeds","_law_room"]
 o__law_any_house:a_ K mg "_law_any_house" (bg 35) ["_law_deal_here"]
 o__law_trace_to:a_ K mg "_law_trace_to" (bg 36) ["_law_deal_here","_law_body_here","_law_left","_law_wide"]
 o__law_tale:a_ K mg "_law_tale" (bg 37) ["_law_deal_here","_law_house_here","_law_left","_law_down","_law_wide"]
 o__law_joined:a_ K mg "_law_joined" (bg 38) ["_law_one","_law_other"]
 o__law_many:a_ K mg "_law_many" (bg 39) ["_law_one","_law_many_here"]
 o__law_moved:a_ K mg "_law_moved" (bg 40) ["_law_names","_law_jar","_law_many_here"]
 o__law_tally:a_ K mg "_law_tally" (bg 41) ["_law_names","_law_body_here","_law_trace"]
 o__law_counts:a_ K mg "_law_counts" (bg 42) ["_law_house_here","_law_story","_law_many_here","_law_counts_here"]
 o__law_story_tally:a_ K mg "_law_story_tally" (bg 43) ["_law_house_here","_law_story"]
 Fg:mg "abs" = none
 DJ:mg "int" = none
 Bj:mg "len" = none
 EE:mg "list" = none
 CG:mg "max" = none
 AD:mg "range" = none
 DK:mg "repr" = none
 Dh:mg "reversed" = none
 Am:mg "tuple" = none
 DL:mg "zip" = none
section
variable {P:Program} {w:World} {K:Vo} {mg:Vr} {base:Heap}
def zq:(["jar","name","things"]:Vs).Nodup:=by decide +kernel
def yb:(["left","right"]:Vs).Nodup:=by decide +kernel
def zr:(["number","many"]:Vs).Nodup:=by decide +kernel
def v6:(["effect","first","second"]:Vs).Nodup:=by decide +kernel
def yc:(["effect","asked","many"]:Vs).Nodup:=by decide +kernel
def zt:(["d","part"]:Vs).Nodup:=by decide +kernel
def yd:(["_law_one"]:Vs).Nodup:=by decide +kernel
def zu:(["_law_k","_law_deal_here","_law_letters"]:Vs).Nodup:=by decide +kernel
def zv:(["_law_j","_law_deal_here","_law_letters"]:Vs).Nodup:=by decide +kernel
def zw:(["_law_k","_law_deal_here","_law_first","_law_jars","_law_many_here","_law_room","_law_words_here"]:Vs).Nodup:=by decide +kernel
def ye:(["_law_k","_law_deal_here","_law_jars","_law_words_here"]:Vs).Nodup:=by decide +kernel
def uq:(["_law_k","_law_one","_law_other"]:Vs).Nodup:=by decide +kernel
def rJ:(["_law_number"]:Vs).Nodup:=by decide +kernel
def yf:(["_law_name","_law_jar","_law_many_here"]:Vs).Nodup:=by decide +kernel
def yg:(["_law_deed"]:Vs).Nodup:=by decide +kernel
def mw:ay:=aY 3 C.jg
def pC(T:Txt P w K mg):AJ P w K mg base 1 "common" 2 mw:=dR ["one","other","left"] T.o_common (fun _ _ _ _ _ _ _ hr nd=>(ad (gA Ij (zF hr (ab 1) aa) (ad (s4 2 nd (ar dr (ab 0) (ab 1)))
  (ad (s4 0 nd (ab 1))
  (al (s4 1 nd (ab 2))))))
  (al (aq (cB xK T.Fg (l1 (ab 0))))))) rfl
def gk:ay:=aY 3 (C.fY mw)
def iK(T:Txt P w K mg):AJ P w K mg base 2 "fraction" 2 gk:=dR ["top","bottom","part"] T.o_fraction (fun _ _ _ _ _ _ _ hr nd=>(ad (s4 2 nd (c4 (pC T) hr (lc (ab 0) (l1 (ab 1)))))
  (ad (bd (bw m_ (ab 1) aa (aQ _)) (al (s4 2 nd (l0 eS (ab 2)))) aJ)
  (al (aq (aD (lc (ar fW (ab 0) (ab 2)) (l1 (ar fW (ab 1) (ab 2)))))))))) rfl
def nv:ay:=aY 2 (C.na gk)
def tR(T:Txt P w K mg):AJ P w K mg base 3 "plus" 2 nv:=dR ["one","other"] T.o_plus (fun _ _ _ _ _ _ _ hr nd=>(al (aq (c4 (iK T) hr (lc (ar aB (ar bc (aE hr (ab 0)) (aE hr (ab 1))) (ar bc (aE hr (ab 1)) (aE hr (ab 0)))) (l1 (ar bc (aE hr (ab 0)) (aE hr (ab 1))))))))) rfl
def lE:ay:=aY 2 (C.k7 gk)
def rK(T:Txt P w K mg):AJ P w K mg base 3 "times" 2 lE:=dR ["one","other"] T.o_times (fun _ _ _ _ _ _ _ hr nd=>(al (aq (c4 (iK T) hr (lc (ar bc (aE hr (ab 0)) (aE hr (ab 1))) (l1 (ar bc (aE hr (ab 0)) (aE hr (ab 1))))))))) rfl
def jK:ay:=aY 2 C.jh
def pD(T:Txt P w K mg):AJ P w K mg base 1 "chosen" 2 jK:=dR ["body","trace"] T.o_chosen (fun _ _ _ _ _ _ _ hr nd=>(al (aq (eF hr (ab 0) (ar aB (l0 eS aa) (aE hr (ab 1))))))) rfl
def cP:ay:=aY 3 C.fc
def d5(T:Txt P w K mg):AJ P w K mg base 1 "things_of" 3 cP:=dR ["jars","name","things"] T.o_things_of (fun _ _ _ _ _ _ _ hr nd=>(al (aq (cT bi T.Am (l1 (pJ ["things","name"] 1 [1,2] ["jar","name","things"] (cn (ab 0)) (fun _=>(gn 0 zq)) (fun _=>bV) (fun _=>(ud (dS hr (ab 0) (ab 1)) (ab 2) aa)))))))) rfl
def lF:ay:=aY 2 C.k8
def jL(T:Txt P w K mg):AJ P w K mg base 1 "added" 2 lF:=dR ["one","other"] T.o_added (fun _ _ _ _ _ _ _ hr nd=>(al (aq (cT bi T.Am (l1 (pJ [] 2 [] ["left","right"] (ug rfl rfl rfl T.DL (by decide +kernel) (lc (ab 0) (l1 (ab 1)))) (fun _=>(wn rfl (bS (gn 0 yb) (bS (gn 1 yb) kr)))) (fun _=>bV) (fun _=>(ar aB (ab 0) (ab 1))))))))) rfl
def d6:ay:=aY 2 C.dM
def fO(T:Txt P w K mg):AJ P w K mg base 1 "multiplied" 2 d6:=dR ["one","many"] T.o_multiplied (fun _ _ _ _ _ _ _ hr nd=>(al (aq (cT bi T.Am (l1 (pJ ["many"] 1 [1] ["number","many"] (cn (ab 0)) (fun _=>(gn 0 zr)) (fun _=>bV) (fun _=>(ar bc (ab 0) (ab 1))))))))) rfl
def b8:ay:=aY 1 C.fZ
def ft(T:Txt P w K mg):AJ P w K mg base 1 "no_tally" 1 b8:=dR ["jars"] T.o_no_tally (fun _ _ _ _ _ _ _ hr nd=>(al (aq (aD (lc (aD (lc aa (l1 aa))) (lc (ar lg (aD (l1 aa)) (cB di T.Bj (l1 (ab 0)))) (l1 (ar lg (aD (l1 aa)) (cB di T.Bj (l1 (ab 0))))))))))) rfl
def cH:ay:=aY 3 (C.jk lF nv)
def dz(T:Txt P w K mg):AJ P w K mg base 4 "behind" 2 cH:=dR ["one","other","demand"] T.o_behind (fun _ _ _ _ _ _ _ hr nd=>(ad (vH [] 3 [] ["effect","first","second"] 2 nd (vF rfl rfl rfl T.DL (by decide +kernel) (lc (aE hr (ab 0)) (lc (aE hr (ab 0)) (l1 (aE hr (ab 1)))))) (fun _=>(wn rfl (bS (gn 0 v6) (bS (gn 1 v6) (bS (gn 2 v6) kr))))) (fun _=>bV) (fun _=>(cB (ii rfl) T.CG (lc (ab 1) (l1 (ar bW (ab 2) (ab 0)))))))
  (al (aq (aD (lc (c4 (tR T) hr (lc (aE hr (ab 0)) (l1 (aE hr (ab 1))))) (lc (c4 (jL T) hr (lc (aE hr (ab 0)) (l1 (aE hr (ab 1))))) (l1 (cT bi T.Am (l1 (ab 2))))))))))) rfl
def gS:ay:=aY 3 (C.k9 d6 lE)
def mx(T:Txt P w K mg):AJ P w K mg base 4 "again" 2 gS:=dR ["one","many","demand"] T.o_again (fun _ _ _ _ _ _ _ hr nd=>(ad (vH ["many"] 2 [1] ["effect","asked","many"] 2 nd (ug rfl rfl rfl T.DL (by decide +kernel) (lc (aE hr (ab 0)) (l1 (aE hr (ab 0))))) (fun _=>(wn rfl (bS (gn 0 yc) (bS (gn 1 yc) kr)))) (fun _=>bV) (fun _=>(ar aB (ab 1) (cB (ii rfl) T.CG (lc aa (l1 (ar bc (l0 eS (ab 0)) (ar bW (ab 2) aa))))))))
  (al (aq (aD (lc (c4 (rK T) hr (lc (aE hr (ab 0)) (l1 (aD (lc (ab 1) (l1 aa)))))) (lc (c4 (fO T) hr (lc (aE hr (ab 0)) (l1 (ab 1)))) (l1 (cT bi T.Am (l1 (ab 2))))))))))) rfl
def bL:ay:=aY 2 (C.cv cP)
def iA(T:Txt P w K mg):AJ P w K mg base 2 "tally_of_take" 2 bL:=dR ["jars","body"] T.o_tally_of_take (fun _ _ _ _ _ _ _ hr nd=>(al (aq (aD (lc (aD (lc aa (l1 aa))) (lc (c4 (d5 T) hr (lc (ab 0) (lc (aE hr (ab 1)) (l1 (l0 eS (aE hr (ab 1))))))) (l1 (c4 (d5 T) hr (lc (ab 0) (lc (aE hr (ab 1)) (l1 (aE hr (ab 1))))))))))))) rfl
noncomputable def aL:Nat->ay×ay
 |0=>(nQ,nQ)
 |n+1=>(aY 5 (C.bC b8 cH gS (aL n).1 (aL n).2),aY 6 (C.dO b8 cP cH jK bL (aL n).1 (aL n).2))
def b9(n:Nat):ay:=(aL n).1
def gm(n:Nat):ay:=(aL n).2
def gT(T:Txt P w K mg)(n:Nat){s0 s1:ay}(R0:AJ P w K mg base (4+n) "tally_of_often" 3 s0)(R1:AJ P w K mg base (4+n) "tally_of" 3 s1):AJ P w K mg base (4+n+1) "tally_of_often" 3 (aY 5 (C.bC b8 cH gS s0 s1)):=dR ["jars","body","goings","found","going"] T.o_tally_of_often (fun _ _ _ _ _ _ _ hr nd=>(ad (s4 3 nd (c4 (ft T) hr (l1 (ab 0))))
  (ad (eB Ij rfl (cn (ab 2)) (gn 4 nd) (al (s4 3 nd (c4 (dz T) hr (lc (ab 3) (l1 (c4 (mx T) hr (lc (c4 R1 hr (lc (ab 0) (lc (aE hr (ab 1)) (l1 (aE hr (ab 4)))))) (l1 (aE hr (ab 4)))))))))))
  (al (aq (ab 3)))))) rfl
def my(T:Txt P w K mg)(n:Nat){s0 s1:ay}(R0:AJ P w K mg base (4+n) "tally_of_often" 3 s0)(R1:AJ P w K mg base (4+n) "tally_of" 3 s1):AJ P w K mg base (4+n+1) "tally_of" 3 (aY 6 (C.dO b8 cP cH jK bL s0 s1)):=dR ["jars","body","trace","head","nothing","side"] T.o_tally_of (fun _ _ _ _ _ _ _ hr nd=>(ad (s4 3 nd (aE hr (ab 1)))
  (ad (s4 4 nd (c4 (ft T) hr (l1 (ab 0))))
  (ad (bd (dS hr (ab 3) ap) (al (aq (aD (lc (aE hr (ab 1)) (lc (aE hr (ab 4)) (l1 (aE hr (ab 4)))))))) aJ)
  (ad (bd (dS hr (ab 3) ap) (al (aq (aD (lc (aE hr (ab 4)) (lc (c4 (d5 T) hr (lc (ab 0) (lc (aE hr (ab 1)) (l1 (aE hr (ab 1)))))) (l1 (aE hr (ab 4)))))))) aJ)
  (ad (bd (dS hr (ab 3) ap) (al (aq (c4 (dz T) hr (lc (c4 R1 hr (lc (ab 0) (lc (aE hr (ab 1)) (l1 (aE hr (ab 2)))))) (l1 (c4 R1 hr (lc (ab 0) (lc (aE hr (ab 1)) (l1 (aE hr (ab 2))))))))))) aJ)
  (ad (bd (dS hr (ab 3) ap) (al (aq (c4 R0 hr (lc (ab 0) (lc (ab 1) (l1 (ab 2))))))) aJ)
  (ad (bd (bw (qI (nO hr)) (ab 3) (aD (lc ap (l1 ap))) rfl) (al (aq (ab 4))) aJ)
  (ad (s4 5 nd (c4 R1 hr (lc (ab 0) (lc (c4 (pD T) hr (lc (ab 1) (l1 (ab 2)))) (l1 (aE hr (ab 2)))))))
  (ad (bd (pG (lZ (dS hr (ab 3) ap) (kT (dS hr (aE hr (ab 2)) aa)))) (al (aq (c4 (dz T) hr (lc (c4 (iA T) hr (lc (ab 0) (l1 (ab 1)))) (l1 (ab 5)))))) aJ)
  (al (aq (ab 5))))))))))))) rfl
theorem cI(T:Txt P w K mg):∀n:Nat,AJ P w K mg base (4+n) "tally_of_often" 3 (b9 n)/\AJ P w K mg base (4+n) "tally_of" 3 (gm n)
 |0=>⟨.zero T.o_tally_of_often,.zero T.o_tally_of⟩
 |n+1=>let ⟨h0,h1⟩:=cI T n;⟨gT T n h0 h1,my T n h0 h1⟩
def jM:ay:=gm 12
def mz(T:Txt P w K mg):AJ P w K mg base 16 "tally_of" 3 jM:=(cI T 12).2
def lG:ay:=aY 3 (C.lh jM)
def rL(T:Txt P w K mg):AJ P w K mg base 17 "tally" 3 lG:=dR ["house","d","trace"] T.o_tally (fun _ _ _ _ _ _ _ hr nd=>(al (aq (c4 (mz T) hr (lc (aE hr (ab 0)) (lc (aE hr (eF hr (aE hr (ab 0)) (ab 1))) (l1 (ab 2)))))))) rfl
noncomputable def bD:Nat->ay
 |0=>nQ
 |n+1=>aY 4 (C.b6 b8 cH lG gS (bD n))
def dA:ay:=bD 12
def gU(T:Txt P w K mg):AJ P w K mg base 29 "tally_of_story" 2 dA:=jm (b:=17) (r:=bD) T.o_tally_of_story (fun n R0=>dR ["house","story","found","part"] T.o_tally_of_story (fun _ _ _ _ _ _ _ hr nd=>(ad (s4 2 nd (c4 (ft T) hr (l1 (aE hr (ab 0)))))
  (ad (eB Ij rfl (cn (ab 1)) (gn 3 nd) (al (bd (dS hr (aE hr (ab 3)) ap) (al (s4 2 nd (c4 (dz T) hr (lc (ab 2) (l1 (c4 (rL T) hr (lc (ab 0) (lc (aE hr (ab 3)) (l1 (aE hr (ab 3))))))))))) (al (s4 2 nd (c4 (dz T) hr (lc (ab 2) (l1 (c4 (mx T) hr (lc (c4 R0 hr (lc (ab 0) (l1 (aE hr (ab 3))))) (l1 (aE hr (ab 3)))))))))))))
  (al (aq (ab 2)))))) rfl) rfl rfl 12
noncomputable def bq:Nat->ay
 |0=>nQ
 |n+1=>aY 5 (C.bU lF d6 (bq n))
def cQ:ay:=bq 12
def gq(T:Txt P w K mg):AJ P w K mg base 13 "counts_of_story" 2 cQ:=jm (b:=1) (r:=bq) T.o_counts_of_story (fun n R0=>dR ["house","story","found","part","one"] T.o_counts_of_story (fun _ _ _ _ _ _ _ hr nd=>(ad (s4 2 nd (ar lg (aD (l1 aa)) (cB di T.Bj (l1 (aE hr (ab 0))))))
  (ad (eB Ij rfl (cn (ab 1)) (gn 3 nd) (al (bd (dS hr (aE hr (ab 3)) ap) (ad (s4 4 nd (cT bi T.Am (l1 (pJ ["part"] 1 [3] ["d","part"] (bx rfl rfl T.AD (l1 (cB di T.Bj (l1 (ab 2))))) (fun _=>(gn 0 zt)) (fun _=>bV) (fun _=>(ud (dS hr (ab 0) (aE hr (ab 1))) aa aa))))))
  (al (s4 2 nd (c4 (jL T) hr (lc (ab 2) (l1 (ab 4))))))) (al (s4 2 nd (c4 (jL T) hr (lc (ab 2) (l1 (c4 (fO T) hr (lc (c4 R0 hr (lc (ab 0) (l1 (aE hr (ab 3))))) (l1 (aE hr (ab 3)))))))))))))
  (al (aq (ab 2)))))) rfl) rfl rfl 12
def cZ:ay:=aY 3 (C.cX dA cQ)
def jN(T:Txt P w K mg):AJ P w K mg base 30 "story_tally" 2 cZ:=dR ["house","story","found"] T.o_story_tally (fun _ _ _ _ _ _ _ hr nd=>(ad (s4 2 nd (c4 (gU T) hr (lc (ab 0) (l1 (ab 1)))))
  (al (aq (aD (lc (aE hr (ab 2)) (lc (c4 (gq T) hr (lc (ab 0) (l1 (ab 1)))) (lc (aE hr (ab 2)) (l1 (aE hr (ab 2))))))))))) rfl
def iL:ay:=aY 5 C.eY
def lH(T:Txt P w K mg):AJ P w K mg base 1 "_law_deal" 2 iL:=dR ["_law_script","_law_base","_law_one","_law_some","_law_number"] T.o__law_deal (fun _ _ _ _ _ _ _ hr nd=>(ad (vH [] 1 [] ["_law_one"] 3 nd (cn (dF (ab 0) (eU (ab 1)) (eU aa))) (fun _=>(gn 0 yd)) (fun _=>bV) (fun _=>(cB (ii rfl) T.CG (lc (ab 0) (l1 (ar bW aa (ab 0)))))))
  (ad (s4 4 nd (ar aB aa (ab 1)))
  (ad (eB Ij rfl (cn (ab 3)) (gn 2 nd) (al (s4 4 nd (ar dr (ar aB (ar bc (ab 4) aa) (ar dr (ab 2) aa)) aa))))
  (al (aq (vC (k6 ap (ab 4) (k6 ap aa (k6 ap (vD oG rfl (pJ [] 1 [] ["_law_one"] (cn (ab 3)) (fun _=>(gn 0 yd)) (fun _=>(xP (bw xR (ab 0) (ar uk aa aa) (aQ _)))) (fun _=>(ab 0))) rfl T.EE rfl T.Dh) vB)))))))))) rfl
def w__law_draw:ay:=aY 5 C.eZ
def aj(T:Txt P w K mg):AJ P w K mg base 1 "_law_draw" 2 w__law_draw:=dR ["_law_deal_here","_law_many_here","_law_number","_law_one","_law_other"] T.o__law_draw (fun _ _ _ _ _ _ _ hr nd=>(ad (gA Ij (pG (lZ (dS hr (eF hr (ab 0) ap) aa) (kT (bw ma (cB di T.Bj (l1 (eF hr (ab 0) ap))) aa (aQ _))))) (al (iG (sd hr) (zp vG xM (eF hr (ab 0) ap)) (ab 0) ap)))
  (ad (s4 2 nd (eF hr (ab 0) ap))
  (ad (bd (bw ma (ab 2) aa (aQ _)) (ad (iG (sd hr) (ar fW (ab 2) (ab 1)) (ab 0) ap)
  (al (aq (ar dr (ab 2) (ab 1))))) aJ)
  (ad (s4 3 nd (ar dr (ar aB (ar bc (eF hr (ab 0) ap) aa) aa) aa))
  (ad (iG (sd hr) (ar dr (ar aB (ar bc (ab 3) aa) aa) aa) (ab 0) ap)
  (ad (s4 4 nd (ar dr (ar bc (eF hr (ab 0) ap) (eF hr (ab 0) ap)) aa))
  (al (aq (ar dr (ar aB (ar bc (ar dr (ar bc (ab 3) (ab 3)) aa) aa) (ab 4)) (ab 1))))))))))) rfl
def cy:ay:=aY 11 (C.dJ w__law_draw)
def fP(T:Txt P w K mg):AJ P w K mg base 2 "_law_words" 2 cy:=dR ["_law_deal_here","_law_many_here","_law_letters","_law_taken","_law_k","_law_core","_law_at","_law_turn","_law_near","_law_found","_law_name"] T.o__law_words (fun _ _ _ _ _ _ _ hr nd=>(ad (s4 2 nd ap)
  (ad (s4 3 nd (ck (lc ap (lc ap (lc ap (lc ap (lc ap (lc ap (lc ap (lc ap (lc ap (l1 ap))))))))))))
  (ad (s4 5 nd (ul nR qP ap (l1 (pJ ["_law_letters","_law_deal_here"] 1 [0,2] ["_law_k","_law_deal_here","_law_letters"] (bx rfl rfl T.AD (l1 (c4 (aj T) hr (lc (ab 0) (l1 aa))))) (fun _=>(gn 0 zu)) (fun _=>bV) (fun _=>(eF hr (ab 2) (c4 (aj T) hr (lc (ab 1) (l1 aa)))))))))
  (ad (tD (i:=6) (j:=7) (k:=8) rfl nd rfl rfl rfl rfl rfl rfl (aD (lc (c4 (aj T) hr (lc (ab 0) (l1 (ar aB (cB di T.Bj (l1 (ab 5))) aa)))) (lc (c4 (aj T) hr (lc (ab 0) (l1 aa))) (l1 (nK (l4 (iI hr)) (c4 (aj T) hr (lc (ab 0) (l1 aa))) aa (aQ _)))))))
  (ad (s4 9 nd (ck jc))
  (ad (eB Ij rfl (bx rfl rfl T.AD (l1 (ab 1))) (gn 4 nd) (ad (s4 10 nd (ar aB (ar aB (dF (ab 5) ig (eU (ab 6))) (eF hr (ab 2) (ar dr (ar aB (ab 7) (ab 4)) aa))) (dF (ab 5) (eU (ab 6)) ig)))
  (ad (bd (xB (xA (ab 8))) (al (s4 10 nd (ul nR qP ap (l1 (pJ ["_law_letters","_law_deal_here"] 1 [0,2] ["_law_j","_law_deal_here","_law_letters"] (bx rfl rfl T.AD (l1 (ar aB aa (c4 (aj T) hr (lc (ab 0) (l1 aa)))))) (fun _=>(gn 0 zv)) (fun _=>bV) (fun _=>(eF hr (ab 2) (c4 (aj T) hr (lc (ab 1) (l1 aa)))))))))) aJ)
  (ad (gA Ij (pG (kU (bw (qH (nO hr)) (ab 10) (ab 3) rfl) (iE (bw (qH (nO hr)) (ab 10) (ab 9) rfl)))) (al (s4 10 nd (ar aB (eF hr (ab 2) (ar dr (ar aB (ul qW tx (ab 2) (l1 (aE hr (ab 10)))) aa) aa)) (dF (ab 10) (eU aa) ig)))))
  (al (ik (ul dt eW (ab 9) (l1 (ab 10)))))))))
  (al (aq (ab 9)))))))))) rfl
def d_:ay:=aY 4 C.fX
def iM(T:Txt P w K mg):AJ P w K mg base 1 "_law_low" 2 d_:=dR ["_law_top","_law_bottom","_law_one","_law_other"] T.o__law_low (fun _ _ _ _ _ _ _ hr nd=>(ad (uf (i:=2) (j:=3) rfl nd rfl rfl (by decide) rfl rfl (lc (cB (ii rfl) T.CG (lc (ab 0) (l1 (ar bW aa (ab 0))))) (l1 (ab 1))))
  (ad (gA Ij (bw ma (ab 3) aa (aQ _)) (al (uf (i:=2) (j:=3) rfl nd rfl rfl (by decide) rfl rfl (lc (ab 3) (l1 (ar dr (ab 2) (ab 3)))))))
  (al (aq (aD (lc (ar fW (ab 0) (ab 2)) (l1 (ar fW (ab 1) (ab 2)))))))))) rfl
def fu:ay:=aY 2 (C.fe d_)
def lI(T:Txt P w K mg):AJ P w K mg base 2 "_law_plus" 2 fu:=dR ["_law_one","_law_other"] T.o__law_plus (fun _ _ _ _ _ _ _ hr nd=>(al (aq (c4 (iM T) hr (lc (ar aB (ar bc (aE hr (ab 0)) (aE hr (ab 1))) (ar bc (aE hr (ab 1)) (aE hr (ab 0)))) (l1 (ar bc (aE hr (ab 0)) (aE hr (ab 1))))))))) rfl
def fv:ay:=aY 2 (C.e7 w__law_draw d_)
def lJ(T:Txt P w K mg):AJ P w K mg base 2 "_law_cost" 1 fv:=dR ["_law_deal_here","_law_form"] T.o__law_cost (fun _ _ _ _ _ _ _ hr nd=>(ad (s4 1 nd (c4 (aj T) hr (lc (ab 0) (l1 aa))))
  (ad (bd (dS hr (ab 1) aa) (al (aq (aD (lc aa (l1 aa))))) aJ)
  (ad (bd (bw m_ (ab 1) aa (aQ _)) (al (aq (aD (lc (ar aB aa (c4 (aj T) hr (lc (ab 0) (l1 aa)))) (l1 aa))))) aJ)
  (al (aq (c4 (iM T) hr (lc (c4 (aj T) hr (lc (ab 0) (l1 aa))) (l1 (ar aB aa (c4 (aj T) hr (lc (ab 0) (l1 aa))))))))))))) rfl
def cR:ay:=aY 4 (C.e_ w__law_draw fv)
def eg(T:Txt P w K mg):AJ P w K mg base 3 "_law_leaf" 2 cR:=dR ["_law_deal_here","_law_jars","_law_form","_law_many_here"] T.o__law_leaf (fun _ _ _ _ _ _ _ hr nd=>(ad (s4 2 nd (c4 (aj T) hr (lc (ab 0) (l1 aa))))
  (ad (bd (dS hr (ab 2) aa) (al (aq (aD (l1 ap)))) aJ)
  (ad (bd (pG (kU (bw m_ (ab 2) aa (aQ _)) (iE (dS hr (cB di T.Bj (l1 (ab 1))) aa)))) (al (aq (aD (lc ap (l1 (c4 (lJ T) hr (l1 (ab 0)))))))) aJ)
  (ad (s4 3 nd (eF hr (ck (lc aa (lc aa (l1 (ar aB aa (c4 (aj T) hr (lc (ab 0) (l1 aa)))))))) (c4 (aj T) hr (lc (ab 0) (l1 aa)))))
  (al (aq (aD (lc ap (lc (eF hr (ab 1) (c4 (aj T) hr (lc (ab 0) (l1 (cB di T.Bj (l1 (ab 1))))))) (l1 (ab 3)))))))))))) rfl
noncomputable def cS:Nat->ay
 |0=>nQ
 |n+1=>aY 8 (C.fb w__law_draw cR (cS n))
def fw:ay:=cS 12
def gV(T:Txt P w K mg):AJ P w K mg base 15 "_law_body" 4 fw:=jm (b:=3) (r:=cS) T.o__law_body (fun n R0=>dR ["_law_deal_here","_law_jars","_law_left","_law_down","_law_form","_law_one","_law_other","_law_many_here"] T.o__law_body (fun _ _ _ _ _ _ _ hr nd=>(ad (s4 4 nd (c4 (aj T) hr (lc (ab 0) (l1 aa))))
  (ad (bd (pG (kU (dS hr (ab 3) aa) (kU (bw m_ (aE hr (ab 2)) aa (aQ _)) (iE (bw m_ (ab 4) aa (aQ _)))))) (al (aq (c4 (eg T) hr (lc (ab 0) (l1 (ab 1)))))) aJ)
  (ad (bd (bw m_ (ab 4) aa (aQ _)) (ad (iG (sd hr) (ar bW (aE hr (ab 2)) aa) (ab 2) aa)
  (al (aq (aD (lc ap (l1 (c4 R0 hr (lc (ab 0) (lc (ab 1) (lc (ab 2) (l1 (ar bW (ab 3) aa)))))))))))) aJ)
  (ad (iG (sd hr) (ar bW (aE hr (ab 2)) aa) (ab 2) aa)
  (ad (s4 5 nd (c4 R0 hr (lc (ab 0) (lc (ab 1) (lc (ab 2) (l1 (ar bW (ab 3) aa)))))))
  (ad (s4 6 nd (c4 R0 hr (lc (ab 0) (lc (ab 1) (lc (ab 2) (l1 (ar bW (ab 3) aa)))))))
  (ad (bd (bw m_ (ab 4) aa (aQ _)) (al (aq (aD (lc ap (lc (ab 5) (l1 (ab 6))))))) aJ)
  (ad (bd (pG (kU (dS hr (ab 4) aa) (iE (dS hr (cB di T.Bj (l1 (ab 1))) aa)))) (al (aq (aD (lc ap (lc (ab 5) (l1 (ab 6))))))) aJ)
  (ad (s4 7 nd (eF hr (ck (lc aa (lc aa (lc aa (l1 (ar aB aa (c4 (aj T) hr (lc (ab 0) (l1 aa))))))))) (c4 (aj T) hr (lc (ab 0) (l1 aa)))))
  (al (aq (aD (lc ap (lc (eF hr (ab 1) (c4 (aj T) hr (lc (ab 0) (l1 (cB di T.Bj (l1 (ab 1))))))) (lc (ab 7) (lc (ab 5) (l1 (ab 6))))))))))))))))))) rfl) rfl rfl 12
noncomputable def br:Nat->ay
 |0=>nQ
 |n+1=>aY 1 (C.bT (br n))
def bt:ay:=br 12
def cJ(T:Txt P w K mg):AJ P w K mg base 12 "_law_pass_count" 1 bt:=jm (b:=0) (r:=br) T.o__law_pass_count (fun n R0=>dR ["_law_body_here"] T.o__law_pass_count (fun _ _ _ _ _ _ _ hr nd=>(ad (bd (dS hr (aE hr (ab 0)) ap) (al (aq (ar bc (c4 R0 hr (l1 (aE hr (ab 0)))) (c4 R0 hr (l1 (aE hr (ab 0))))))) aJ)
  (ad (bd (pG (kU (dS hr (aE hr (ab 0)) ap) (iE (dS hr (aE hr (ab 0)) ap)))) (al (aq (ar aB (c4 R0 hr (l1 (eF hr (ab 0) (l0 eS aa)))) (c4 R0 hr (l1 (eF hr (ab 0) (l0 eS aa))))))) aJ)
  (al (aq aa))))) rfl) rfl rfl 12
noncomputable def bj:Nat->ay
 |0=>nQ
 |n+1=>aY 1 (C.bN bt (bj n))
def cK:ay:=bj 12
def fH(T:Txt P w K mg):AJ P w K mg base 24 "_law_round_count" 1 cK:=jm (b:=12) (r:=bj) T.o__law_round_count (fun n R0=>dR ["_law_body_here"] T.o__law_round_count (fun _ _ _ _ _ _ _ hr nd=>(ad (bd (dS hr (aE hr (ab 0)) ap) (al (aq (ar aB (c4 (cJ T) hr (l1 (aE hr (ab 0)))) (c4 R0 hr (l1 (aE hr (ab 0))))))) aJ)
  (ad (bd (bw (qH (nO hr)) (aE hr (ab 0)) (aD (lc ap (lc ap (l1 ap)))) rfl) (al (aq (ar aB (c4 R0 hr (l1 (eF hr (ab 0) (l0 eS aa)))) (c4 R0 hr (l1 (eF hr (ab 0) (l0 eS aa))))))) aJ)
  (al (aq aa))))) rfl) rfl rfl 12
def b_:ay:=aY 5 (C.b4 fw bt cK cR)
def gW(T:Txt P w K mg):AJ P w K mg base 25 "_law_deed_body" 4 b_:=dR ["_law_deal_here","_law_jars","_law_room","_law_most","_law_body_here"] T.o__law_deed_body (fun _ _ _ _ _ _ _ hr nd=>(ad (s4 4 nd (c4 (gV T) hr (lc (ab 0) (lc (ab 1) (lc (ck (l1 (ar bW (ab 2) aa))) (l1 aa))))))
  (ad (bd (bw ma (ar aB (c4 (cJ T) hr (l1 (ab 4))) (c4 (fH T) hr (l1 (ab 4)))) (ab 3) (aQ _)) (al (s4 4 nd (aD (lc ap (lc (aD (lc ap (l1 (c4 (eg T) hr (lc (ab 0) (l1 (ab 1))))))) (l1 (c4 (eg T) hr (lc (ab 0) (l1 (ab 1)))))))))) aJ)
  (al (aq (ab 4)))))) rfl
def eh:ay:=aY 9 (C.dL cy w__law_draw b_)
def jY(T:Txt P w K mg):AJ P w K mg base 26 "_law_house" 4 eh:=dR ["_law_deal_here","_law_most_jars","_law_most_deeds","_law_room","_law_words_here","_law_jars","_law_first","_law_many_here","_law_deeds"] T.o__law_house (fun _ _ _ _ _ _ _ hr nd=>(ad (s4 4 nd (c4 (fP T) hr (lc (ab 0) (l1 aa))))
  (ad (s4 5 nd (cT bi T.Am (l1 (dF (ab 4) ig (eU (c4 (aj T) hr (lc (ab 0) (l1 (ar aB (ab 1) aa)))))))))
  (ad (s4 6 nd (eF hr (ck (lc aa (l1 aa))) (c4 (aj T) hr (lc (ab 0) (l1 aa)))))
  (ad (s4 7 nd (ar aB aa (c4 (aj T) hr (lc (ab 0) (l1 (ab 2))))))
  (ad (vH ["_law_words_here","_law_room","_law_many_here","_law_jars","_law_first","_law_deal_here"] 1 [0,6,5,7,3,4] ["_law_k","_law_deal_here","_law_first","_law_jars","_law_many_here","_law_room","_law_words_here"] 8 nd (bx rfl rfl T.AD (l1 (ab 7))) (fun _=>(gn 0 zw)) (fun _=>bV) (fun _=>(aD (lc (eF hr (ab 6) (ar aB (ab 2) (ab 0))) (l1 (c4 (gW T) hr (lc (ab 1) (lc (ab 3) (lc (ab 5) (l1 (ar fW aa (ab 4))))))))))))
  (al (aq (aD (lc (ab 5) (l1 (cT bi T.Am (l1 (ab 8)))))))))))))) rfl
def cb:ay:=aY 4 (C.b5 w__law_draw eh cy fw)
def gX(T:Txt P w K mg):AJ P w K mg base 27 "_law_any_house" 1 cb:=dR ["_law_deal_here","_law_words_here","_law_jars","_law_many_here"] T.o__law_any_house (fun _ _ _ _ _ _ _ hr nd=>(ad (bd (dS hr (c4 (aj T) hr (lc (ab 0) (l1 aa))) aa) (al (aq (c4 (jY T) hr (lc (ab 0) (lc aa (lc aa (l1 aa))))))) aJ)
  (ad (s4 1 nd (c4 (fP T) hr (lc (ab 0) (l1 aa))))
  (ad (s4 2 nd (cT bi T.Am (l1 (dF (ab 1) ig (eU (c4 (aj T) hr (lc (ab 0) (l1 aa))))))))
  (ad (s4 3 nd (ar aB aa (c4 (aj T) hr (lc (ab 0) (l1 aa)))))
  (al (aq (aD (lc (ab 2) (l1 (cT bi T.Am (l1 (pJ ["_law_words_here","_law_jars","_law_deal_here"] 1 [0,2,1] ["_law_k","_law_deal_here","_law_jars","_law_words_here"] (bx rfl rfl T.AD (l1 (ab 3))) (fun _=>(gn 0 ye)) (fun _=>bV) (fun _=>(aD (lc (eF hr (ab 3) (ar aB aa (ab 0))) (l1 (c4 (gV T) hr (lc (ab 1) (lc (ab 2) (lc (ck (l1 aa)) (l1 aa)))))))))))))))))))))) rfl
noncomputable def bM:Nat->ay
 |0=>nQ
 |n+1=>aY 9 (C.cw w__law_draw (bM n))
def eG:ay:=bM 12
def iB(T:Txt P w K mg):AJ P w K mg base 13 "_law_trace_to" 4 eG:=jm (b:=1) (r:=bM) T.o__law_trace_to (fun n R0=>dR ["_law_deal_here","_law_body_here","_law_left","_law_wide","_law_one","_law_side","_law_found","_law_k","_law_many_here"] T.o__law_trace_to (fun _ _ _ _ _ _ _ hr nd=>(ad (bd (dS hr (aE hr (ab 1)) ap) (ad (s4 4 nd (c4 R0 hr (lc (ab 0) (lc (aE hr (ab 1)) (lc (ab 2) (l1 (ab 3)))))))
  (al (aq (aD (lc (ab 4) (l1 (c4 R0 hr (lc (ab 0) (lc (aE hr (ab 1)) (lc (ab 2) (l1 (ab 3)))))))))))) aJ)
  (ad (bd (pG (kU (dS hr (aE hr (ab 1)) ap) (iE (dS hr (aE hr (ab 1)) ap)))) (ad (s4 5 nd (c4 (aj T) hr (lc (ab 0) (l1 aa))))
  (al (aq (aD (lc (ab 5) (l1 (c4 R0 hr (lc (ab 0) (lc (eF hr (ab 1) (ar bW (ab 5) aa)) (lc (ab 2) (l1 (ab 3)))))))))))) aJ)
  (ad (s4 6 nd (ck jc))
  (ad (eB Ij rfl (bx rfl rfl T.AD (l1 (ar bc (c4 (aj T) hr (lc (ab 0) (l1 aa))) (cT qM T.DJ (l1 (nK (l4 (iI hr)) (aE hr (ab 1)) ap (aQ _))))))) (gn 7 nd) (al (bd (bw ma (aE hr (ab 2)) aa (aQ _)) (ad (iG (sd hr) (ar bW (aE hr (ab 2)) aa) (ab 2) aa)
  (ad (s4 8 nd (ar aB aa (c4 (aj T) hr (lc (ab 0) (l1 (eF hr (ck (lc aa (l1 (ab 3)))) (c4 (aj T) hr (lc (ab 0) (l1 aa)))))))))
  (al (ik (ul dt eW (ab 6) (l1 (aD (lc (ab 8) (l1 (c4 R0 hr (lc (ab 0) (lc (aE hr (ab 1)) (lc (ab 2) (l1 (ab 3))))))))))))))) aJ)))
  (al (aq (cT bi T.Am (l1 (ab 6)))))))))) rfl) rfl rfl 12
noncomputable def cU:Nat->ay
 |0=>nQ
 |n+1=>aY 9 (C.fg w__law_draw eG (cU n))
def iN:ay:=cU 12
def lK(T:Txt P w K mg):AJ P w K mg base 25 "_law_tale" 5 iN:=jm (b:=13) (r:=cU) T.o__law_tale (fun n R0=>dR ["_law_deal_here","_law_house_here","_law_left","_law_down","_law_wide","_law_found","_law_k","_law_many_here","_law_d"] T.o__law_tale (fun _ _ _ _ _ _ _ hr nd=>(ad (s4 5 nd (ck jc))
  (ad (eB Ij rfl (bx rfl rfl T.AD (l1 (ar aB aa (c4 (aj T) hr (lc (ab 0) (l1 aa)))))) (gn 6 nd) (ad (iG (sd hr) (ar bW (aE hr (ab 2)) aa) (ab 2) aa)
  (al (bd (pG (lZ (bw ma (ab 3) aa (aQ _)) (lZ (bw ma (aE hr (ab 2)) aa (aQ _)) (kT (dS hr (c4 (aj T) hr (lc (ab 0) (l1 aa))) aa))))) (ad (s4 7 nd (ar aB aa (c4 (aj T) hr (lc (ab 0) (l1 (eF hr (ck (lc aa (l1 (ab 4)))) (c4 (aj T) hr (lc (ab 0) (l1 aa)))))))))
  (al (ik (ul dt eW (ab 5) (l1 (aD (lc ap (lc (ab 7) (l1 (c4 R0 hr (lc (ab 0) (lc (ab 1) (lc (ab 2) (lc (ar bW (ab 3) aa) (l1 (ab 4)))))))))))))))) (al (bd (pG (kU (bw xR (aE hr (ab 2)) aa (aQ _)) (iE (dS hr (ab 5) (ck jc))))) (ad (s4 8 nd (c4 (aj T) hr (lc (ab 0) (l1 (cB di T.Bj (l1 (aE hr (ab 1))))))))
  (al (ik (ul dt eW (ab 5) (l1 (aD (lc ap (lc (ab 8) (l1 (c4 (iB T) hr (lc (ab 0) (lc (aE hr (eF hr (aE hr (ab 1)) (ab 8))) (lc (ck (l1 aa)) (l1 (eF hr (ck (lc aa (l1 (ab 4)))) (c4 (aj T) hr (lc (ab 0) (l1 aa)))))))))))))))))) aJ))))))
  (al (aq (cT bi T.Am (l1 (ab 5)))))))) rfl) rfl rfl 12
def bI:ay:=aY 4 (C.cW fu)
def aU(T:Txt P w K mg):AJ P w K mg base 3 "_law_joined" 2 bI:=dR ["_law_one","_law_other","_law_effect","_law_demand"] T.o__law_joined (fun _ _ _ _ _ _ _ hr nd=>(ad (vH ["_law_other","_law_one"] 1 [0,1] ["_law_k","_law_one","_law_other"] 2 nd (bx rfl rfl T.AD (l1 (cB di T.Bj (l1 (aE hr (ab 0)))))) (fun _=>(gn 0 uq)) (fun _=>bV) (fun _=>(ar aB (eF hr (aE hr (ab 1)) (ab 0)) (eF hr (aE hr (ab 2)) (ab 0)))))
  (ad (vH ["_law_other","_law_one"] 1 [0,1] ["_law_k","_law_one","_law_other"] 3 nd (bx rfl rfl T.AD (l1 (cB di T.Bj (l1 (aE hr (ab 0)))))) (fun _=>(gn 0 uq)) (fun _=>bV) (fun _=>(cB (ii rfl) T.CG (lc (eF hr (aE hr (ab 1)) (ab 0)) (l1 (ar bW (eF hr (aE hr (ab 2)) (ab 0)) (eF hr (aE hr (ab 1)) (ab 0))))))))
  (al (aq (aD (lc (c4 (lI T) hr (lc (aE hr (ab 0)) (l1 (aE hr (ab 1))))) (lc (ab 2) (l1 (ab 3)))))))))) rfl
def cV:ay:=aY 3 (C.ff bI)
def gY(T:Txt P w K mg):AJ P w K mg base 4 "_law_many" 2 cV:=dR ["_law_one","_law_many_here","_law_found"] T.o__law_many (fun _ _ _ _ _ _ _ hr nd=>(ad (s4 2 nd (aD (lc (aD (lc aa (l1 aa))) (lc (pJ [] 1 [] ["_law_number"] (cn (aE hr (ab 0))) (fun _=>(gn 0 rJ)) (fun _=>bV) (fun _=>aa)) (l1 (pJ [] 1 [] ["_law_number"] (cn (aE hr (ab 0))) (fun _=>(gn 0 rJ)) (fun _=>bV) (fun _=>aa)))))))
  (ad (gA Ij (bw ma (ab 1) aa (aQ _)) (ad (bd (dS hr (ar dr (ab 1) aa) aa) (al (s4 2 nd (c4 (aU T) hr (lc (ab 2) (l1 (ab 0)))))) aJ)
  (ad (s4 0 nd (c4 (aU T) hr (lc (ab 0) (l1 (ab 0)))))
  (al (s4 1 nd (ar fW (ab 1) aa))))))
  (al (aq (ab 2)))))) rfl
def eo:ay:=aY 4 C.dP
def ci(T:Txt P w K mg):AJ P w K mg base 1 "_law_moved" 3 eo:=dR ["_law_names","_law_jar","_law_many_here","_law_effect"] T.o__law_moved (fun _ _ _ _ _ _ _ hr nd=>(ad (vH ["_law_many_here","_law_jar"] 1 [1,2] ["_law_name","_law_jar","_law_many_here"] 3 nd (cn (ab 0)) (fun _=>(gn 0 yf)) (fun _=>bV) (fun _=>(ar bc (ab 2) (cT qM T.DJ (l1 (nK (l4 (iI hr)) (ab 0) (ab 1) (aQ _)))))))
  (al (aq (aD (lc (aD (lc aa (l1 aa))) (lc (ab 3) (l1 (pJ [] 1 [] ["_law_number"] (cn (ab 3)) (fun _=>(gn 0 rJ)) (fun _=>bV) (fun _=>(cB (ii rfl) T.CG (lc aa (l1 (ar bW aa (ab 0))))))))))))))) rfl
noncomputable def cz:Nat->ay
 |0=>nQ
 |n+1=>aY 7 (C.dQ eo bI cV (cz n))
def eu:ay:=cz 12
def jZ(T:Txt P w K mg):AJ P w K mg base 16 "_law_tally" 3 eu:=jm (b:=4) (r:=cz) T.o__law_tally (fun n R0=>dR ["_law_names","_law_body_here","_law_trace","_law_found","_law_word","_law_many_here","_law_one"] T.o__law_tally (fun _ _ _ _ _ _ _ hr nd=>(ad (s4 3 nd (c4 (ci T) hr (lc (ab 0) (lc ap (l1 aa)))))
  (ad (s4 4 nd (aE hr (ab 1)))
  (ad (bd (dS hr (ab 4) ap) (al (aq (aD (lc (aE hr (ab 1)) (lc (aE hr (ab 3)) (l1 (aE hr (ab 3)))))))) aJ)
  (ad (bd (dS hr (ab 4) ap) (al (aq (c4 (ci T) hr (lc (ab 0) (lc (aE hr (ab 1)) (l1 (aE hr (ab 1)))))))) aJ)
  (ad (bd (dS hr (ab 4) ap) (al (aq (c4 (aU T) hr (lc (c4 R0 hr (lc (ab 0) (lc (aE hr (ab 1)) (l1 (aE hr (ab 2)))))) (l1 (c4 R0 hr (lc (ab 0) (lc (aE hr (ab 1)) (l1 (aE hr (ab 2))))))))))) aJ)
  (ad (bd (pG (kU (dS hr (ab 4) ap) (iE (dS hr (ab 4) ap)))) (ad (bd (pG (lZ (dS hr (ab 4) ap) (kT (dS hr (aE hr (ab 2)) aa)))) (al (s4 3 nd (c4 (ci T) hr (lc (ab 0) (lc (aE hr (ab 1)) (l1 (ar bW aa (aE hr (ab 1))))))))) aJ)
  (al (aq (c4 (aU T) hr (lc (ab 3) (l1 (c4 R0 hr (lc (ab 0) (lc (eF hr (ab 1) (ar bW (aE hr (ab 2)) aa)) (l1 (aE hr (ab 2)))))))))))) aJ)
  (ad (bd (dS hr (ab 4) ap) (al (eB Ij rfl (cn (ab 2)) (wn rfl (bS (gn 5 nd) (bS (gn 6 nd) kr))) (al (s4 3 nd (c4 (aU T) hr (lc (ab 3) (l1 (c4 (gY T) hr (lc (c4 R0 hr (lc (ab 0) (lc (aE hr (ab 1)) (l1 (ab 6))))) (l1 (ab 5))))))))))) aJ)
  (al (aq (ab 3))))))))))) rfl) rfl rfl 12
def c_(s0:ay):bz:=(ai (cp (ba (v3 1)) (.n 4) (bH (aR (ah (bv false) (ah af (v3 4) (c3 (.int 0))) (c3 (.str "do")))) (il (ah aV (ah af (v3 3) (ah af (v3 4) (c3 (.int 1)))) (v3 2)) (v3 3) (ah af (v3 4) (c3 (.int 1)))) (dj (ae s0 [(v3 0),(ah af (v3 4) (c3 (.int 2))),(ah cm (v3 2) (ah af (v3 4) (c3 (.int 1)))),(v3 3)]))))
  (aC (v3 3)))
noncomputable def cj:Nat->ay
 |0=>nQ
 |n+1=>aY 5 (c_ (cj n))
def fQ:ay:=cj 12
def jO(T:Txt P w K mg):AJ P w K mg base 12 "_law_counts" 4 fQ:=jm (b:=0) (r:=cj) T.o__law_counts (fun n R0=>dR ["_law_house_here","_law_story","_law_many_here","_law_counts_here","_law_part"] T.o__law_counts (fun _ _ _ _ _ _ _ hr nd=>(ad (eB Ij rfl (cn (ab 1)) (gn 4 nd) (al (bd (dS hr (aE hr (ab 4)) ap) (al (iG (sd hr) (ar aB (eF hr (ab 3) (aE hr (ab 4))) (ab 2)) (ab 3) (aE hr (ab 4)))) (al (ik (c4 R0 hr (lc (ab 0) (lc (aE hr (ab 4)) (lc (ar bc (ab 2) (aE hr (ab 4))) (l1 (ab 3)))))))))))
  (al (aq (ab 3))))) rfl) rfl rfl 12
def bO(AC Ag CV Bz s0:ay):bz:=(ai (aw 2 (ae AC [(ah af (v3 0) (c3 (.int 0))),(c3 (.str "")),(c3 (.int 0))]))
  (ai (cp (ba (v3 1)) (.n 3) (bH (aR (ah (bv false) (ah af (v3 3) (c3 (.int 0))) (c3 (.str "do")))) (aw 2 (ae Ag [(v3 2),(ae CV [(ah af (v3 0) (c3 (.int 0))),(ah af (ah af (ah af (v3 0) (c3 (.int 1))) (ah af (v3 3) (c3 (.int 1)))) (c3 (.int 1))),(ah af (v3 3) (c3 (.int 2)))])])) (aw 2 (ae Ag [(v3 2),(ae Bz [(ae s0 [(v3 0),(ah af (v3 3) (c3 (.int 2)))]),(ah af (v3 3) (c3 (.int 1)))])]))))
  (aC (v3 2))))
noncomputable def bm:Nat->ay
 |0=>nQ
 |n+1=>aY 4 (bO eo bI eu cV (bm n))
def cL:ay:=bm 12
def fI(T:Txt P w K mg):AJ P w K mg base 28 "_law_story_tally" 2 cL:=jm (b:=16) (r:=bm) T.o__law_story_tally (fun n R0=>dR ["_law_house_here","_law_story","_law_found","_law_part"] T.o__law_story_tally (fun _ _ _ _ _ _ _ hr nd=>(ad (s4 2 nd (c4 (ci T) hr (lc (aE hr (ab 0)) (lc ap (l1 aa)))))
  (ad (eB Ij rfl (cn (ab 1)) (gn 3 nd) (al (bd (dS hr (aE hr (ab 3)) ap) (al (s4 2 nd (c4 (aU T) hr (lc (ab 2) (l1 (c4 (jZ T) hr (lc (aE hr (ab 0)) (lc (aE hr (eF hr (aE hr (ab 0)) (aE hr (ab 3)))) (l1 (aE hr (ab 3))))))))))) (al (s4 2 nd (c4 (aU T) hr (lc (ab 2) (l1 (c4 (gY T) hr (lc (c4 R0 hr (lc (ab 0) (l1 (aE hr (ab 3))))) (l1 (aE hr (ab 3)))))))))))))
  (al (aq (ab 2)))))) rfl) rfl rfl 12
def rM(C7 Cc C8 Ae BO CC CD:ay):bz:=(ai (aw 1 (ae C7 [(v3 0),(c3 (.int 0))]))
  (ai (aw 2 (cr []))
  (ai (cp (dH (c3 (.int 3))) (.n 3) (ai (aw 4 (ae Cc [(v3 1)]))
  (ai (aw 5 (ae C8 [(v3 1),(v3 4),(cr [(ah af (cr [(c3 (.int 12)),(c3 (.int 40))]) (ao gy [(ah (bv false) (ae Ae [(v3 1),(c3 (.int 4))]) (c3 (.int 0)))]))]),(c3 (.int 7)),(ah oV (c3 (.int 10)) (c3 (.int 6)))]))
  (ai (bH (aR (ah (bv false) (ae Ae [(v3 1),(c3 (.int 12))]) (c3 (.int 0)))) (aw 5 (aI [])) a9)
  (dj (ko "list" bB (v3 2) [(aI [(v3 4),(v3 5)])]))))))
  (ai (cp (ba (ah aV (v3 2) (cu (v3 2) qK (oK (c3 (.int 1)))))) (.tp (.cons (.n 4) (.cons (.n 5) .nil))) (ai (oQ (ae BO [(v3 4),(v3 5)]) (.tp (.cons (.n 6) (.cons (.n 7) (.cons (.n 8) .nil)))))
  (ai (aw 9 (ae CC [(v3 4),(v3 5),(c3 (.int 1)),(bb (ba (ah af (v3 4) (c3 (.int 1)))) (.n 0) bZ (c3 (.int 0)) 1 [])]))
  (bH (aR (ah (bv true) (ao kn [(ae CD [(v3 4),(v3 5)])]) (ao kn [(aI [(v3 6),(ao aK [(v3 9)]),(ao aK [(v3 7)]),(ao aK [(v3 8)])])]))) (aC (c3 (.bl false))) a9))))
  (aC (c3 (.bl true)))))))
def mB:ay:=aY 10 (rM iL cb iN w__law_draw cL fQ cZ)
def v7(T:Txt P w K mg){f:Addr}{fd:FuncData}(O:yz K mg "law" (bg 44) ["_law_script"] f fd):Ex P w K mg base 31 f fd ["_law_script"] mB:=zZ ["_law_script","_law_deal_here","_law_asked","_law_turn","_law_house_here","_law_story","_law_cost_here","_law_effect","_law_demand","_law_counts_here"] O (fun _ _ _ _ _ _ _ hr nd=>(ad (s4 1 nd (c4 (lH T) hr (lc (ab 0) (l1 aa))))
  (ad (s4 2 nd (ck jc))
  (ad (eB Ij rfl (bx rfl rfl T.AD (l1 aa)) (gn 3 nd) (ad (s4 4 nd (c4 (gX T) hr (l1 (ab 1))))
  (ad (s4 5 nd (c4 (lK T) hr (lc (ab 1) (lc (ab 4) (lc (ck (l1 (eF hr (ck (lc aa (l1 aa))) (cT qM T.DJ (l1 (nK (l4 (iI hr)) (c4 (aj T) hr (lc (ab 1) (l1 aa))) aa (aQ _))))))) (lc aa (l1 (ar uk aa aa))))))))
  (ad (bd (dS hr (c4 (aj T) hr (lc (ab 1) (l1 aa))) aa) (al (s4 5 nd (aD jc))) aJ)
  (al (ik (ul dt eW (ab 2) (l1 (aD (lc (ab 4) (l1 (ab 5))))))))))))
  (ad (eB Ij rfl (cn (ar aB (ab 2) (dF (ab 2) ig (eU aa)))) (wn rfl (bS (gn 4 nd) (bS (gn 5 nd) kr))) (ad (xO (c4 (fI T) hr (lc (ab 4) (l1 (ab 5)))) (wn rfl (bS (gn 6 nd) (bS (gn 7 nd) (bS (gn 8 nd) kr)))))
  (ad (s4 9 nd (c4 (jO T) hr (lc (ab 4) (lc (ab 5) (lc aa (l1 (pJ [] 1 [] ["_law_deed"] (cn (aE hr (ab 4))) (fun _=>(gn 0 yg)) (fun _=>bV) (fun _=>aa))))))))
  (al (bd (zF hr (cB (qN (iI hr) hr.gd) T.DK (l1 (c4 (jN T) hr (lc (ab 4) (l1 (ab 5)))))) (cB (qN (iI hr) hr.gd) T.DK (l1 (aD (lc (ab 6) (lc (cT bi T.Am (l1 (ab 9))) (lc (cT bi T.Am (l1 (ab 7))) (l1 (cT bi T.Am (l1 (ab 8))))))))))) (al (aq xz)) aJ)))))
  (al (aq xz))))))) rfl
end
end G24
namespace G24
open PySem L2 L3 Wd
open C
abbrev fF(k:Nat)(w:ay):Prop:=∀{S:av} {js:Vs} {ds:List (Str×Bd)} {n:Nat} {vs:List PV} {Q:bQ} {E:cg},js.length<=1000->HB js ds->n < k->(∀v∈vs,ms ds n v)->(∀x S',Ext S S'->Ch S' (iR js (iy js ds n) vs) x->Q x S')->w [de js ds,.tup vs] S Q E
def Cy{xm xj xt xn s0:ay}(BC:gh xm)(BJ:dy xj)(Cv:fq 6 xt)(CQ:fE xn)(k:Nat)(ih:fF k s0):fF (k+1) (aY 4 (bO xm xj xt xn s0)):=by
 intro S js ds n vs Q E hj hb hn hvs kk
 unfold bO
 refine eM ?_
 rw[show ax 4 [de js ds,.tup vs]=[some (de js ds),some (.tup vs),none,none] from rfl]
 refine au fun N hN=>?_
 rw[show de js ds = .tup [dB js,.tup (ds.map jx)] from rfl]
 walk_at "x"
 simp only[g_]
 refine BC hj fun f S0 X0 L0=>?_
 rw[show eL 0=0 from rfl,mr]at L0
 refine hN _ _ (au fun N hN=>?_)
 simp only[cp,ba,v3,lk,eX]
 refine bK (fun done σ S'=>∃f x3,σ=[some (.tup [dB js,.tup (ds.map jx)]),some (.tup vs),some f,x3]/\Ext S S'/\Ch S' (iR js (iy js ds n) done) f) ⟨_,_,rfl,X0,L0⟩ (fun _ _ _ _=>trivial) ?_ ?_
 ·rintro done g rest σ S1 K e ⟨f,x3,rfl,X1,L1⟩ hK
  have hp:=hvs g (by rw[e];simp)
  have ok:(iR js (iy js ds n) done).Ok js:=iz fun v hv=>gi hb (hvs v (by rw[e];simp[hv]))
  have Fv:=gi hb hp
  simp only[Tg.put,List.set_cons_succ,List.set_cons_zero]
  have fin:∀S2 y,Ext S1 S2->Ch S2 (iy js ds n g) y->xj [f,y] S2 (fun v S3=>K [some (.tup [dB js,.tup (ds.map jx)]),some (.tup vs),some v,some g] S3) eC:=fun S2 y X2 L2=>by
   refine BJ (n:=js.length) hj ok.1 Fv.1 ok.2.1 Fv.2.1 (L1.mono X2) L2 fun x S3 X3 L3=>?_
   rw[<-mv]at L3
   exact hK _ _ ⟨_,_,rfl,X1.trans (X2.trans X3),L3⟩
  cases hp with
  |@DI _ i kk z t tr hi htr hib EO=>
   walk_at "y"
   rw[bA (v:=jx (z,t)) (by rw[Ia,hi];rfl)]
   unfold jx
   simp only[eJ]
   refine Cv hj (hb _ (IU hi)).1 htr (hb _ (IU hi)).2 fun y S2 X2 L2=>?_
   rw[lA hi]at fin
   exact fin S2 y X2 L2
  |@Ef n' m us h1 h2 hl hu=>
   walk_at "y"
   refine ih hj hb (by omega) hu fun y S2 X2 L2=>?_
   refine CQ hj (iz fun v hv=>gi hb (hu v hv)) h1 L2 fun y2 S3 X3 L3=>?_
   rw[lB]at fin
   exact fin S3 y2 (X2.trans X3) L3
 ·rintro σ S1 ⟨f,x3,rfl,X1,L1⟩
  refine hN _ _ ?_
  walk_at "x"
  exact kk _ S1 X1 L1
def yh(p:Addr)(S S':av):Prop:=∀a o,S a=some o->a≠p->S' a=some o
def pE(n i:Nat)(c:Nat->Int)(q:Int)(hi:i < n):((hE n c).es).set i (.int (c i+q))=(hE n fun j=>c j+q * (if j=i then 1 else 0)).es:=by
 rw[d4,d4]
 refine List.ext_getElem (by simp) fun j h1 h2=>?_
 rw[List.getElem_set]
 simp only[List.getElem_map,List.getElem_range]
 by_cases h:i=j
 ·subst h;rw[if_pos rfl,if_pos rfl,JU]
 ·rw[if_neg h,if_neg (J8 h),JY,Lh]
abbrev gZ(k:Nat)(w:ay):Prop:=∀{S:av} {p:Addr} {js:Vs} {ds:List (Str×Bd)} {n:Nat} {vs:List PV} {c:Nat->Int} {q:Int} {Q:bQ} {E:cg},ds.length<=1000->n < k->(∀v∈vs,ms ds n v)->S p=some (.lst (hE ds.length c).es)->
  (∀S',yh p S S'->S' p=some (.lst (hE ds.length fun j=>c j+q * gP (fG n) vs j).es)->Q (.ref p) S')->w [de js ds,.tup vs,.int q,.ref p] S Q E
def CW{s0:ay}(k:Nat)(ih:gZ k s0):gZ (k+1) (aY 5 (c_ s0)):=by
 intro S p js ds n vs c q Q E hj hn hvs hp kk
 unfold c_
 refine eM ?_
 rw[show ax 5 [de js ds,.tup vs,.int q,.ref p]=[some (de js ds),some (.tup vs),some (.int q),some (.ref p),none] from rfl]
 refine au fun N hN=>?_
 simp only[cp,ba,v3,lk,eX]
 refine bK (fun done σ S'=>∃x4,σ=[some (de js ds),some (.tup vs),some (.int q),some (.ref p),x4]/\yh p S S'/\S' p=some (.lst (hE ds.length fun j=>c j+q * gP (fG n) done j).es)) ⟨_,rfl,fun _ _ h _=>h,by rw[show(fun j=>c j+q * gP (fG n) [] j)=c from funext fun j=>by show c j+q * 0=c j;rw[JY,Lh]];exact hp⟩ (fun _ _ _ _=>trivial) ?_ ?_
 ·rintro done g rest σ S1 K e ⟨x4,rfl,X1,p1⟩ hK
  have HH:=hvs g (by rw[e];simp)
  simp only[Tg.put,List.set_cons_succ,List.set_cons_zero]
  cases HH with
  |@DI _ i kk z t tr hi htr hib EO=>
   have hil:i < ds.length:=(Jj.mp hi).1
   simp only[bH,aR,ah,v3,lk,c3,af,g_,bv,HW,Lb,JO]
   simp only[il,ah,v3,lk,c3,af,eJ,p1]
   rw[bA (v:=.int (c i+q * gP (fG n) done i)) (by rw[d4,Ia,J5 hil];rfl)]
   simp only[aV,fU,p1]
   have le:∀c',(hE ds.length c').es.length=ds.length:=fun c'=>by rw[d4,HQ,Jf]
   simp only[mF,le]
   rw[if_pos (by omega),if_pos (by omega),Iw]
   dsimp only
   rw[pE _ _ _ _ hil]
   refine hK _ _ ⟨_,rfl,fun a o h1 h2=>by rw[ak h2];exact X1 a o h1 h2,?_⟩
   rw[ac]
   congr 4
   funext j
   rw[jJ,nq,Lc,Int.add_assoc]
  |@Ef n' m us h1 h2 hl hu=>
   walk_at "y"
   refine⟨jo (by omega) (by omega),?_⟩
   refine ih hj (by omega) hu p1 fun S2 X2 p2=>?_
   refine hK _ _ ⟨_,rfl,fun a o h1 h2=>X2 a o (X1 a o h1 h2) h2,?_⟩
   rw[p2]
   congr 4
   funext j
   rw[jJ,nu,Lc,KG,JZ m,Int.add_assoc]
 ·rintro σ S1 ⟨x4,rfl,X1,p1⟩
  refine hN _ _ ?_
  walk_at "x"
  exact kk S1 X1 p1
def v8{n:Nat}(h:n < 2 ^ 1900):n.log2 < 1920:=by
 by_cases h0:n=0
 ·subst h0;decide
 ·exact(Nat.log2_lt h0).mpr (K2 h (JX (by decide) (by decide)))
def Ab:sB 8=((2 ^ 920:Nat):Int):=by decide +kernel
def big(n:Nat)(h:n<=2 ^ 920):n < 2 ^ 1900:=Ke h (JX (by decide) (by decide))
def jP{S:av}{i:Int}(h1:-sB 8<=i)(h2:i<=sB 8):Sh S (.int i) (.int i) 1921 1:=by
 rw[Ab]at h1 h2
 exact(Sh.int (v8 (big _ (by omega)))).le (HN _) (by decide)
def zG(v:PV):Prop:=∃(js:Vs) (ds:List (Str×Bd)) (vs:List PV),v = .tup [de js ds,.tup vs]/\js.length<=8/\ds.length<=4/\HB js ds/\vs.length<=3/\∀v∈vs,ms ds 7 v
noncomputable def yi(js:Vs)(ds:List (Str×Bd))(vs:List PV):PyData:=.tuple [.tuple [.int (M3.bn (iR js (iy js ds 7) vs).1 2520),.int (M3.aO (iR js (iy js ds 7) vs).1 2520)],.tuple ((hE ds.length (gP (fG 7) vs)).2.map fun p=>.int p.1),.tuple ((iR js (iy js ds 7) vs).2.map fun p=>.int p.1),.tuple ((iR js (iy js ds 7) vs).2.map fun p=>.int p.2)]
def rN{S:av}{js:Vs}{ds:List (Str×Bd)}{vs:List PV}(hj:js.length<=8)(hd:ds.length<=4)(hb:HB js ds)(hl:vs.length<=3)(hv:∀v∈vs,ms ds 7 v):Sh S (v5 js ds 7 vs) (yi js ds vs) 100000 10:=by
 have p:=gj 7
 have p2:=cG 6
 have e8:sB 8=2 ^ 62 * sB 7:=rfl
 have h:(iR js (iy js ds 7) vs).Ok js:=iz fun v hv'=>gi hb (hv v hv')
 have b:(iR js (iy js ds 7) vs).CB (sB 8):=(n9 (n:=7) hl fun v hv'=>tP hb (hv v hv')).mono (by omega)
 have hc:∀j,0<=gP (fG 7) vs j/\gP (fG 7) vs j<=sB 8:=fun j=>by
  obtain⟨x,y⟩:=lC (B:=sB 7) (by omega) (f:=fG 7) (j:=j) vs 0 0 (fun v hv'=>tQ (hv v hv') j) (Il _) (Il _)
  have c:(vs.length:Int) * sB 7<=3 * sB 7:=Ih (by omega) (by omega)
  exact⟨x,by show vs.foldl _ 0<=_;omega⟩
 unfold v5 yi
 generalize iR js (iy js ds 7) vs=t at *
 generalize gP (fG 7) vs=cc at *
 have hl':=h.1
 have b0:=cY t.1
 have c:Sh S (cf t.1) (.tuple [.int (M3.bn t.1 2520),.int (M3.aO t.1 2520)]) 5000 5:=
  (Sh.tup ((jP (by have:=fB h.2.1;omega) (x_ h.2.1 b.1)).cons ((jP (S:=S) (by omega) (by omega)).cons (.E8 _)))).le (by decide) (by decide)
 have k:Sh S (.tup (hE ds.length cc).es) (.tuple ((hE ds.length cc).2.map fun p=>.int p.1)) 20000 5:=
  (Sh.tup (C6.map (fun p:Int×Int=>PV.int p.1) (fun p=>PyData.int p.1) (n:=1921) (k:=1) fun q hq=>by
   obtain⟨j,hj,rfl⟩:=Ii.mp hq
   exact jP (by have:=(hc j).1;dsimp only;omega) (hc j).2)).le (by rw[iX];omega) (by decide)
 have e:Sh S (.tup t.es) (.tuple (t.2.map fun p=>.int p.1)) 20000 5:=
  (Sh.tup (C6.map (fun p:Int×Int=>PV.int p.1) (fun p=>PyData.int p.1) (n:=1921) (k:=1) fun q hq=>jP (b.2 q hq).1 (b.2 q hq).2.1)).le (by omega) (by decide)
 have d:Sh S (.tup t.dm) (.tuple (t.2.map fun p=>.int p.2)) 20000 5:=
  (Sh.tup (C6.map (fun p:Int×Int=>PV.int p.2) (fun p=>PyData.int p.2) (n:=1921) (k:=1) fun q hq=>jP (by have:=h.2.2 q hq;omega) (b.2 q hq).2.2)).le (by omega) (by decide)
 exact(Sh.tup (c.cons (k.cons (e.cons (d.cons (.E8 _)))))).le (by decide) (by decide)
def pF{α:Type}(ds:List α):ds.map (fun _=>PV.int 0)=(hE ds.length fun _=>0).es:=by
 rw[d4,List.map_const',List.map_const',Jf]
abbrev tS(w:ay):Prop:=∀{ns:Vu} {S:av} {Q:bQ} {E:cg},ns.length<=63->(∀S',Q (.bl true) S')->w [.cl (ns.map PV.int)] S Q E
def v9{x0 x1 x2 x3 x4 x5 x6:ay}(CM:mf x0)(Df:lq x1)(CS:gN 12 x2)(Af:bo x3)(Cy:fF 12 x4)(CW:gZ 12 x5)(Dg:lD 12 x6):tS (aY 10 (rM x0 x1 x2 x3 x4 x5 x6)):=by
 intro ns S Q E hns k
 unfold rM
 refine eM ?_
 rw[show ax 10 [PV.cl (ns.map PV.int)]=[some (.cl (ns.map PV.int)),none,none,none,none,none,none,none,none,none] from rfl]
 refine au fun N hN=>?_
 walk_at "x"
 refine CM hns (by decide) (by decide) fun d l S1 _ _ D1 _=>?_
 refine hN _ _ (au fun N hN=>?_)
 walk_at "x"
 intro pa hpa
 have DQ:=D1.free hpa
 have D2:Aj (am S1 pa (.lst [])) d l:=D1.new hpa
 have f2:(am S1 pa (.lst [])) pa=some (.lst []):=ac
 generalize am S1 pa (.lst [])=S2 at D2 f2
 refine hN _ _ (au fun N hN=>?_)
 simp only[cp,dH,c3]
 refine⟨by decide,by decide,?_⟩
 refine bK (fun done σ S'=>∃(us:List PV) (y3 y4 y5:Option PV),σ=[some (.cl (ns.map PV.int)),some (.ref d),some (.ref pa),y3,y4,y5,none,none,none,none]/\us.length<=done.length/\done.length<=3/\(∀v∈us,zG v)/\Aj S' d l/\S' pa=some (.lst us)) ⟨[],_,_,_,rfl,by simp,by decide,by simp,D2,f2⟩ (fun _ _ _ _=>trivial) ?_ ?_
 ·rintro done w rest σ S4 K e ⟨us,y3,y4,y5,rfl,hu,hdl,EI,D4,f4⟩ hK
  obtain⟨rfl,hi⟩:=gE e
  simp only[Tg.put,List.set_cons_succ,List.set_cons_zero]
  refine au fun N2 BY=>?_
  walk_at "x"
  refine Df D4 fun js ds S5 ho hd1 Fh Fw D5 O5=>?_
  have f5:=O5 _ _ f4 DQ.1 DQ.2
  have hb:HB js ds:=fun p hp=>⟨ho.gd p hp,ho.dq p hp⟩
  refine BY _ _ (au fun N2 BY=>?_)
  -- from here on: any GX
  have fin:∀(vs:List PV) (S7:av) (N3:bY->av->Prop),vs.length<=3->(∀v∈vs,ms ds 7 v)->Aj S7 d l->S7 pa=some (.lst us)->(∀σ S,dj (ko "list" bB (v3 2) [aI [v3 4,v3 5]]) { nx:=K,rt:=Q,ex:=eC,bk:=N,ct:=K } σ S->N3 σ S)->N3 [some (.cl (ns.map PV.int)),some (.ref d),some (.ref pa),some (.int ((done.length:Nat):Int)),some (de js ds),some (.tup vs),none,none,none,none] S7:=by
   intro vs S7 N3 hl hvs D7 f7 DC
   refine DC _ _ ?_
   walk_at "x"
   simp only[f7,true_and]
   refine⟨HX (show _ < 1000 by omega) (by decide),?_⟩
   refine hK _ _ ⟨us++[.tup [de js ds,.tup vs]],_,_,_,rfl,by simp;omega,by rw[HY];exact hi,fun v hv=>?_,D7.upd DQ.1 DQ.2,ac⟩
   rcases Iu.mp hv with hv|hv
   ·exact EI v hv
   ·rw[IB.mp hv]
    exact⟨js,ds,vs,rfl,Fw,Fh,hb,hl,hvs⟩
  walk_at "x"
  intro pq hpq
  have dpq:=D5.free hpq
  have HI:pa≠pq:=fun h=>by rw[h,hpq]at f5;cases f5
  refine Af (D5.new hpq) (by decide) (by decide) fun g S6 g0 g1 D6 O6=>?_
  have p6:=O6 _ _ (ac (S:=S5) (a:=pq)) dpq.1 dpq.2
  have f6:=O6 _ _ (by rw[ak HI];exact f5) DQ.1 DQ.2
  simp only[HW,p6]
  obtain⟨left,hleft,Gm⟩:∃left:Int,AS [PV.int 12,PV.int 40] (if decide (g=0)=true then 1 else 0)=some (.int left)/\0<=left:=by
   by_cases h:g=0
   ·exact⟨40,by rw[K7 h];rfl,by decide⟩
   ·exact⟨12,by rw[IJ h];rfl,by decide⟩
  rw[hleft]
  dsimp only
  refine fun px hpx=>⟨⟨by decide,by decide,by decide⟩,?_⟩
  rw[show((10:Int) ^ Int.toNat 6)=1000000 from rfl]
  have GY:=D6.free hpx
  have GZ:pa≠px:=fun h=>by rw[h,hpx]at f6;cases f6
  refine CS (js:=js) (ds:=ds) (D6.new hpx) ac GY.1 GY.2 hd1 Fh (fun p hp=>⟨ho.dq p hp,ho.sz p hp⟩) (by decide) (by decide) (by decide) (by decide) fun vs S7 lf hvl hvs _ _ _ D7 _ O7=>?_
  have f7:=O7 _ _ (by rw[ak GZ];exact f6) DQ.1 DQ.2 GZ
  refine BY _ _ (au fun N3 DC=>?_)
  walk_at "x"
  refine Af D7 (by decide) (by decide) fun r S8 r0 r1 D8 O8=>?_
  have f8:=O8 _ _ f7 DQ.1 DQ.2
  simp only[HW,HP]
  split
  ·exact fin [] S8 N3 (by simp) (by simp) D8 f8 DC
  ·exact fin vs S8 N3 hvl hvs D8 f8 DC
 ·rintro σ S4 ⟨us,y3,y4,y5,rfl,hu,hdl,EI,D4,f4⟩
  refine hN _ _ (au fun N hN=>?_)
  walk_at "x"
  simp only[f4]
  intro p1 hp1
  have HJ:pa≠p1:=fun h=>by rw[h,hp1]at f4;cases f4
  simp only[ak HJ,f4,ac]
  have cl:(AT us none (some 1)).length<=us.length:=by unfold AT;rw[Jm,Jo];omega
  refine⟨du (by omega),fun p2 hp2=>?_⟩
  have hall:∀v∈us++AT us none (some 1),zG v:=fun v hv=>by
   rcases Iu.mp hv with hv|hv
   ·exact EI v hv
   ·exact EI v (by unfold AT at hv;exact JW (Jr hv))
  have f6:(am (am S4 p1 (.lst (AT us none (some 1)))) p2 (.lst (us++AT us none (some 1)))) p2=some (.lst (us++AT us none (some 1))):=ac
  generalize am (am S4 p1 (.lst (AT us none (some 1)))) p2 (.lst (us++AT us none (some 1)))=S6 at f6
  generalize us++AT us none (some 1)=ws at f6 hall
  refine bK (fun done σ S'=>∃(y3 y4 y5 y6 y7 y8 y9:Option PV),σ=[some (.cl (ns.map PV.int)),some (.ref d),some (.ref pa),y3,y4,y5,y6,y7,y8,y9]/\S' p2=some (.lst ws)) ⟨_,_,_,_,_,_,_,rfl,f6⟩ (fun _ _ _ ⟨_,_,_,_,_,_,_,_,h⟩=>h) ?_ ?_
  ·rintro done w rest σ S7 K e ⟨y3,y4,y5,y6,y7,y8,y9,rfl,f7⟩ hK
   obtain⟨js,ds,vs,rfl,Fw,Fh,hb,hvl,hvs⟩:=hall w (by rw[e];simp)
   simp only[Tg.put,Tg.A7,List.set_cons_succ,List.set_cons_zero]
   refine au fun N2 BY=>?_
   simp only[oQ,ae,bR,v3,lk]
   refine Cy (by omega) hb (by decide) hvs fun x S8 X8 L8=>?_
   obtain⟨pe,pd,rfl,e8,d8⟩:=L8
   simp only[Tg.put,Tg.A7,List.set_cons_succ,List.set_cons_zero]
   refine BY _ _ (au fun N2 BY=>?_)
   rw[show de js ds = .tup [dB js,.tup (ds.map jx)] from rfl]
   walk_at "x"
   simp only[eJ]
   rw[show PV.tup [dB js,.tup (ds.map jx)]=de js ds from rfl]
   refine aP jx (fun _=>.int 0) trivial ds [] (fun z hz=>⟨_,rfl,fun Q q=>q⟩) (by simpa using du (by omega)) fun pc HK=>?_
   rw[IK,pF ds]
   have EQ:∀{b o},S8 b=some o->b≠pc:=fun h e=>by rw[e,HK]at h;cases h
   refine CW (js:=js) (by omega) (by decide) hvs ac fun S9 X9 c9=>?_
   have e9:=X9 _ _ (by rw[ak (EQ e8)];exact e8) (EQ e8)
   have d9:=X9 _ _ (by rw[ak (EQ d8)];exact d8) (EQ d8)
   have f9:=X9 _ _ (by rw[ak (EQ (X8 _ _ f7))];exact X8 _ _ f7) (EQ (X8 _ _ f7))
   rw[show(fun j=>(0:Int)+1 * gP (fG 7) vs j)=gP (fG 7) vs from funext fun j=>by rw[Kw,Int.one_mul]]at c9
   refine BY _ _ ?_
   simp only[bH,aR,ah,ao,ae,bR,v3,lk,c3,aI]
   refine Dg (js:=js) (ds:=ds) (n:=7) (by omega) (by omega) hb (by decide) hvs fun Sa Xa=>?_
   refine mi (rN Fw Fh hb hvl hvs) (by decide) (by decide) ?_
   simp only[aK,m7,Xa _ _ e9,Xa _ _ d9,Xa _ _ c9]
   refine mi (rN Fw Fh hb hvl hvs) (by decide) (by decide) ?_
   simp only[bv,Lb,KH,Bool.not_true,K8,Li,a9]
   exact hK _ _ ⟨_,_,_,_,_,_,_,rfl,Xa _ _ f9⟩
  ·rintro σ S7 ⟨y3,y4,y5,y6,y7,y8,y9,rfl,f7⟩
   refine hN _ _ ?_
   walk_at "x"
   exact k S7
def eA:bo w__law_draw:=Af
def ur:iV d_:=Ct
def n_:fA cy:=BA eA
def v_:ju fv:=CN eA ur
def rO:gB cR:=BF eA v_
theorem nw:∀n,fk n (cS n)
 |0=>fun _ _ _ _ _ _ _ h0 h1 _=>by omega
 |n+1=>B2 eA rO n (nw n)
theorem mC:∀n,b7 n (br n)
 |0=>fun h _ _=>absurd h (by have:=Bd.A6;exact K9.mpr (this _))
 |n+1=>o8 n (mC n)
def mD:b7 12 bt:=mC 12
theorem mE:∀n,n<=12->dW n (bj n)
 |0,_=>fun h _ _=>absurd h (by have:=Bd.A6;exact K9.mpr (this _))
 |n+1,hn=>o9 n 12 mD (mE n (by omega)) (by omega)
def zx:dX b_:=li 12 (by decide) (nw 12) mD (mE 12 (by decide)) rO
def tT:f_ eh:=ph n_ eA zx
def yj:lq cb:=Df eA tT n_ 12 (by decide) (nw 12)
theorem rP:∀n,gH n (bM n)
 |0=>fun _ _ _ _ _ _ _ h _=>absurd h (by have:=Bd.A6;exact K9.mpr (this _))
 |n+1=>tM eA n (rP n)
theorem rQ:∀n,gN n (cU n)
 |0=>fun _ _ _ _ _ _ _ h0 h1 _ _ _=>by omega
 |n+1=>CS eA (rP 12) n (rQ n)
def wa:dv nv:=B4 (BH BG)
def tU:ir lE:=Cu (BH BG)
def jQ:cF cH:=AA Bi wa
def oa:fD gS:=BB BI tU
def rR:gf bL:=Cb AH
theorem ut:∀n,gM ((n+1) / 2) (gm n)/\jI (n / 2) (b9 n)
 |0=>⟨fun _ _ _ _ h _=>absurd h (by have:=Bd.A6;exact K9.mpr (this _)),fun _ _ _ _ h _=>absurd h (by have:=Bd.A6;exact K9.mpr (this _))⟩
 |n+1=>by
  obtain⟨a,b⟩:=ut n
  refine⟨?_,?_⟩
  ·rw[show(n+1+1) / 2=n / 2+1 by omega]
   exact fun{S js us t v Q E} h1 h2 h3 h4 h5 h6=>Cv AU AH jQ B_ rR (n / 2) b (fun g1 g2 g3 g4 g5 g6=>a g1 g2 g3 g4 (Ib g5 (by omega)) g6) (S:=S) (js:=js) (us:=us) (t:=t) (v:=v) (Q:=Q) (E:=E) h1 h2 h3 h4 h5 h6
  ·exact fun{S js us t v Q E} h1 h2 h3 h4 h5 h6=>pA (s0:=b9 n) AU jQ oa ((n+1) / 2) a (S:=S) (js:=js) (us:=us) (a:=t) (v:=v) (Q:=Q) (E:=E) h1 h2 h3 h4 h5 h6
def tV:ix lG:=Cw (ut 12).1
theorem rT:∀n,gQ n (bD n)
 |0=>fun _ _ h _ _=>absurd h (KU _)
 |n+1=>CT AU jQ tV oa n (rT n)
theorem rV:∀n,gR n (bq n)
 |0=>fun _ h _ _=>absurd h (KU _)
 |n+1=>CU Bi BI n (rV n)
def yk:lD 12 cZ:=Dg 12 (rT 12) (rV 12)
def tW:dv fu:=rq ur
def lL:dy bI:=rE tW
def og:fE cV:=rF lL
theorem rW:∀n,fq n (cz n)
 |0=>fun _ _ _ h _=>absurd h (by have:=Bd.A6;exact K9.mpr (this _))
 |n+1=>tO kD lL og n (rW n)
def wb:fq 6 eu:=fun a b c h k=>rW 12 a b c (Ib h (by decide)) k
theorem oh:∀n,fF n (bm n)
 |0=>fun _ _ h _ _=>absurd h (KU _)
 |n+1=>Cy kD lL wb og n (oh n)
theorem rX:∀n,gZ n (cj n)
 |0=>fun _ h _ _ _=>absurd h (KU _)
 |n+1=>CW n (rX n)
def rY:∀ns:List Int,ns.length<=63->mB [.cl (ns.map PV.int)] (fun _=>none) (fun v _=>v = .bl true) eC:=fun ns h=>v9 CM yj (rQ 12) eA (oh 12) (rX 12) yk h fun _=>rfl
end G24
namespace L3
open PySem L2 Xc
def wv{P:List Value->Prop}(h:∀a,P [a])(us:Vv)(hl:us.length=1):P us:=match us,hl with|[_],_=>h _
def jS{P:List Value->Prop}(h:∀a b,P [a,b])(us:Vv)(hl:us.length=2):P us:=match us,hl with|[_,_],_=>h _ _
def wx{P:List Value->Prop}(h:∀a b c,P [a,b,c])(us:Vv)(hl:us.length=3):P us:=match us,hl with|[_,_,_],_=>h _ _ _
def ym{P:List Value->Prop}(h:∀a b c d,P [a,b,c,d])(us:Vv)(hl:us.length=4):P us:=match us,hl with|[_,_,_,_],_=>h _ _ _ _
def Ac{P:List Value->Prop}(h:∀a b c d e,P [a,b,c,d,e])(us:Vv)(hl:us.length=5):P us:=match us,hl with|[_,_,_,_,_],_=>h _ _ _ _ _
section
variable {K:Vo} {h:Heap} {mg:Vr} {x c m q:Str} {st:Stmt} {ps fl:Vs}
noncomputable def tX:Option (Option Value)->Bool
 |some none=>true
 |_=>false
def tY{o:Option (Option Value)}(h:tX o=true):o=some none:=by
 unfold tX at h;split at h
 ·rfl
 ·cases h
def FnAt(K:Vo)(f:Addr)(m q:Str)(st:Stmt):Prop:=∃(oc kV doc pm cdv ct:Value) (od an:Option Addr) (osl:Array (Option Value)),
 K.lookup f=some ⟨oc,od,.func (PySem.W.fnOf m q (cM st) (bJ st) (aH st) .none kV doc pm an cdv ct),osl⟩/\PySem.W.codeIn K cdv q=true/\PySem.W.keepIn K (.ref f)=true
abbrev rZ(m q:Str)(st:Stmt)(ps:Vs):Prop:=∀(kV doc pm:Value) (an:Option Addr) (cdv ct:Value) (us:Vv),us.length=ps.length->bindArgs (PySem.W.fnOf m q (cM st) (bJ st) (aH st) .none kV doc pm an cdv ct) ⟨us,[]⟩=pure (ps.zip us)
def FnAt.mk{f:Addr}(a:FnAt K f m q st)(hb:rZ m q st ps):∃fd,Ed K m q st f fd/\Binds K fd ps []/\PySem.W.keepIn K (.ref f)=true:=by
 obtain⟨oc,kV,doc,pm,cdv,ct,od,an,osl,l,cc,k⟩:=a
 exact⟨_,kM l cc k,(kM l cc k).binds hb,k⟩
def A3(K:Vo)(x:Str)(st:Stmt):Prop:=∃f,PySem.W.nsIn K mainGlobals x=some (some (.ref f))/\FnAt K f x x st
def A3.own(X:K.In h)(G:h.Ns mainGlobals mg)(a:A3 K x st)(hb:rZ x x st ps):a_ K mg x st ps:=by
 obtain⟨f,n,a⟩:=a
 obtain⟨fd,F,b,k⟩:=a.mk hb
 exact⟨f,fd,F,b,k,PySem.W.mg_of X G n⟩
def A3.law{fa:Addr}(X:K.In h)(G:h.Ns mainGlobals mg)(a:A3 K x st)(hfa:mg x=some (.ref fa))(hb:rZ x x st ps):∃kV doc pm an cdv ct,yz K mg x st ps fa (PySem.W.fnOf x x (cM st) (bJ st) (aH st) .none kV doc pm an cdv ct):=by
 obtain⟨f,n,oc,kV,doc,pm,cdv,ct,od,an,osl,l,cc,k⟩:=a
 cases hfa.symm.trans (PySem.W.mg_of X G n)
 exact⟨kV,doc,pm,an,cdv,ct,kM l cc k,(kM l cc k).binds hb,k,hfa⟩
def j0(X:K.In h)(G:h.Ns mainGlobals mg){l:Vs}(a:(l.all fun x=>tX (PySem.W.nsIn K mainGlobals x))=true)(hx:x∈l:=by decide):mg x=none:=PySem.W.mg_none_of X G (tY (I9.mp a x hx))
section
variable {f C:Addr} {oc kV doc pm cdv ct:Value} {od an:Option Addr} {osl:Array (Option Value)}
def Ad(n:PySem.W.nsIn K mainGlobals x=some (some (.ref f)))(l:K.lookup f=some ⟨oc,od,.func (PySem.W.fnOf x x (cM st) (bJ st) (aH st) .none kV doc pm an cdv ct),osl⟩)(cc:PySem.W.codeIn K cdv x=true)(k:PySem.W.keepIn K (.ref f)=true):A3 K x st:=⟨f,n,oc,kV,doc,pm,cdv,ct,od,an,osl,l,cc,k⟩
end
end
end L3
namespace G24
open PySem L2 L3
def we{l:PySem.W.OpenLaw}{w:World}{K:Vo}{h:Heap}{mg:Vr}{fa:Addr}(X:K.In h)(G:h.Ns mainGlobals mg)(hfa:mg "law" = some (.ref fa))
  (BP:A3 K "common" (bg 1))
  (Bn:A3 K "fraction" (bg 2))
  (Cz:A3 K "plus" (bg 3))
  (Cd:A3 K "times" (bg 4))
  (BQ:A3 K "chosen" (bg 6))
  (A8:A3 K "things_of" (bg 8))
  (Ce:A3 K "added" (bg 9))
  (AY:A3 K "multiplied" (bg 10))
  (Bo:A3 K "no_tally" (bg 11))
  (BR:A3 K "behind" (bg 12))
  (Cf:A3 K "again" (bg 13))
  (Av:A3 K "tally_of_often" (bg 14))
  (AE:A3 K "tally_of_take" (bg 15))
  (Bp:A3 K "tally_of" (bg 16))
  (Cg:A3 K "tally" (bg 17))
  (Aw:A3 K "tally_of_story" (bg 19))
  (Aq:A3 K "counts_of_story" (bg 20))
  (AO:A3 K "story_tally" (bg 21))
  (A9:A3 K "_law_deal" (bg 23))
  (A_:A3 K "_law_draw" (bg 24))
  (AZ:A3 K "_law_words" (bg 25))
  (Bq:A3 K "_law_low" (bg 26))
  (Ba:A3 K "_law_plus" (bg 27))
  (Bb:A3 K "_law_cost" (bg 28))
  (Bc:A3 K "_law_leaf" (bg 29))
  (Be:A3 K "_law_body" (bg 30))
  (Ar:A3 K "_law_pass_count" (bg 31))
  (Ao:A3 K "_law_round_count" (bg 32))
  (Ax:A3 K "_law_deed_body" (bg 33))
  (A0:A3 K "_law_house" (bg 34))
  (Ay:A3 K "_law_any_house" (bg 35))
  (AF:A3 K "_law_trace_to" (bg 36))
  (Bf:A3 K "_law_tale" (bg 37))
  (AQ:A3 K "_law_joined" (bg 38))
  (Bg:A3 K "_law_many" (bg 39))
  (A1:A3 K "_law_moved" (bg 40))
  (A2:A3 K "_law_tally" (bg 41))
  (AR:A3 K "_law_counts" (bg 42))
  (Ap:A3 K "_law_story_tally" (bg 43))
  (Dv:((["abs","int","len","list","max","range","repr","reversed","tuple","zip"]:Vs).all fun x=>tX (PySem.W.nsIn K mainGlobals x))=true)
  (DM:A3 K "law" (bg 44))
  : ∃fd:FuncData,(∀(s:Shared) (v:Value),BindsTo s fd ⟨[v],[]⟩ [("_law_script",v)])/\∀base:Heap,K.In base->base.Ns mainGlobals mg->kF l.prog w K mg base ua 31 fa fd ["_law_script"] (xQ K 1 mB):=by
 obtain⟨kV,doc,pm,an,cdv,ct,O⟩:=DM.law X G hfa (ps:=["_law_script"]) (fun _ _ _ _ _ _=>wv fun _=>rfl)
 exact⟨_,fun s v=>.of_eq rfl,fun base _ _=>(v7 (P:=l.prog) (w:=w) (base:=base) ⟨BP.own X G (fun _ _ _ _ _ _=>jS fun _ _=>rfl),
  Bn.own X G (fun _ _ _ _ _ _=>jS fun _ _=>rfl),
  Cz.own X G (fun _ _ _ _ _ _=>jS fun _ _=>rfl),
  Cd.own X G (fun _ _ _ _ _ _=>jS fun _ _=>rfl),
  BQ.own X G (fun _ _ _ _ _ _=>jS fun _ _=>rfl),
  A8.own X G (fun _ _ _ _ _ _=>wx fun _ _ _=>rfl),
  Ce.own X G (fun _ _ _ _ _ _=>jS fun _ _=>rfl),
  AY.own X G (fun _ _ _ _ _ _=>jS fun _ _=>rfl),
  Bo.own X G (fun _ _ _ _ _ _=>wv fun _=>rfl),
  BR.own X G (fun _ _ _ _ _ _=>jS fun _ _=>rfl),
  Cf.own X G (fun _ _ _ _ _ _=>jS fun _ _=>rfl),
  Av.own X G (fun _ _ _ _ _ _=>wx fun _ _ _=>rfl),
  AE.own X G (fun _ _ _ _ _ _=>jS fun _ _=>rfl),
  Bp.own X G (fun _ _ _ _ _ _=>wx fun _ _ _=>rfl),
  Cg.own X G (fun _ _ _ _ _ _=>wx fun _ _ _=>rfl),
  Aw.own X G (fun _ _ _ _ _ _=>jS fun _ _=>rfl),
  Aq.own X G (fun _ _ _ _ _ _=>jS fun _ _=>rfl),
  AO.own X G (fun _ _ _ _ _ _=>jS fun _ _=>rfl),
  A9.own X G (fun _ _ _ _ _ _=>jS fun _ _=>rfl),
  A_.own X G (fun _ _ _ _ _ _=>jS fun _ _=>rfl),
  AZ.own X G (fun _ _ _ _ _ _=>jS fun _ _=>rfl),
  Bq.own X G (fun _ _ _ _ _ _=>jS fun _ _=>rfl),
  Ba.own X G (fun _ _ _ _ _ _=>jS fun _ _=>rfl),
  Bb.own X G (fun _ _ _ _ _ _=>wv fun _=>rfl),
  Bc.own X G (fun _ _ _ _ _ _=>jS fun _ _=>rfl),
  Be.own X G (fun _ _ _ _ _ _=>ym fun _ _ _ _=>rfl),
  Ar.own X G (fun _ _ _ _ _ _=>wv fun _=>rfl),
  Ao.own X G (fun _ _ _ _ _ _=>wv fun _=>rfl),
  Ax.own X G (fun _ _ _ _ _ _=>ym fun _ _ _ _=>rfl),
  A0.own X G (fun _ _ _ _ _ _=>ym fun _ _ _ _=>rfl),
  Ay.own X G (fun _ _ _ _ _ _=>wv fun _=>rfl),
  AF.own X G (fun _ _ _ _ _ _=>ym fun _ _ _ _=>rfl),
  Bf.own X G (fun _ _ _ _ _ _=>Ac fun _ _ _ _ _=>rfl),
  AQ.own X G (fun _ _ _ _ _ _=>jS fun _ _=>rfl),
  Bg.own X G (fun _ _ _ _ _ _=>jS fun _ _=>rfl),
  A1.own X G (fun _ _ _ _ _ _=>wx fun _ _ _=>rfl),
  A2.own X G (fun _ _ _ _ _ _=>wx fun _ _ _=>rfl),
  AR.own X G (fun _ _ _ _ _ _=>ym fun _ _ _ _=>rfl),
  Ap.own X G (fun _ _ _ _ _ _=>jS fun _ _=>rfl),
  j0 (x:="abs") X G Dv,
  j0 (x:="int") X G Dv,
  j0 (x:="len") X G Dv,
  j0 (x:="list") X G Dv,
  j0 (x:="max") X G Dv,
  j0 (x:="range") X G Dv,
  j0 (x:="repr") X G Dv,
  j0 (x:="reversed") X G Dv,
  j0 (x:="tuple") X G Dv,
  j0 (x:="zip") X G Dv⟩ O).ok⟩
def zy{l:PySem.W.OpenLaw}{q:Program}{loose:Vs}{XP:(Vr)->Heap->Prop}{YP:World->Heap->Prop}{d:DefRec}{K:Params->PySem.W.Frag}(hn:l.most=some 63)(hdf:d.params.defaults=[])
  (hY:∀(w:World) (h:Heap),YP w h->(K w.params).In h)
  (F:∀(w:World) (mg:Vr) (fa:Addr) (h:Heap),(K w.params).In h->h.Ns mainGlobals mg->mg d.name=some (.ref fa)->
   ∃fd:FuncData,(∀(s:Shared) (u:Value),BindsTo s fd ⟨[u],[]⟩ [("_law_script",u)])/\∀base:Heap,(K w.params).In base->base.Ns mainGlobals mg->kF l.prog w (K w.params) mg base ua 31 fa fd ["_law_script"] (xQ (K w.params) 1 mB)) :
  PySem.W.WalkO q loose XP YP l.row.toRowW d [] (fun f vs=>PySem.call f vs):=
 L2.sQ (n:=63) (k:=31) (x:="_law_script") (CX:=fun _=>ua) (sp:=fun w=>xQ (K w.params) 1 mB) hn (by decide) hdf ⟨rfl,by decide,by decide,rfl⟩ hY F (fun _ _ a ns hl hO hS=>zm hO hS (rY ns hl)) fun _ _ _ _ _ z=>z
end G24
local macro_rules | `(tactic| walk_at "k")=>`(tactic| (apply L3.Ad; k_is; k_is; k_is; k_is))
open PySem PySem.W PyProof.Rows
set_option maxRecDepth 100000 in
set_option maxHeartbeats 0 in
theorem PySem.Challenge.cw_dueworth_k24_tallies_of_stories_holds : PySem.Challenge.rw_dueworth_k24_tallies_of_stories.Holds := by
 w_on; refine holds_law E24.said fun said => ?_
 refine holds_open (q := E24.vw) (loose := []) (Xt := fun s => (xlAt E24.vw [] s && recOk (RowW.records E24.rr) s)) (XP := XL E24.vw []) (N := 2604)
  (Yf := Hook.obs E24.hk) (Ya := Hook.val E24.hk) (YP := Hook.says (kHook E24.early.heap_1 E24.as E24.zz)) E24.left (Hook.of E24.hk) (Hook.keeps E24.hk) (fun s e => xl_of s (JS.mp e).1)
  XL.keeps rfl rfl rfl (fun s e => recFacts_of (JS.mp e).2) rfl (by assumption)
  (by decide +kernel) ⟨rfl, rfl, rfl, rfl, rfl, by decide +kernel⟩ ?hw ?hc
 (case hw => w_witness2)
 k_fill
 refine G24.zy (l := PySem.Challenge.rw_dueworth_k24_tallies_of_stories) rfl rfl (fun w h Y => PySem.W.kIn_of Y) ?F
 case F =>
  intro w mg fa h KX G hmg
  refine' G24.we KX G hmg ?BP ?Bn ?Cz ?Cd ?BQ ?A8 ?Ce ?AY ?Bo ?BR ?Cf ?Av ?AE ?Bp ?Cg ?Aw ?Aq ?AO ?A9 ?A_ ?AZ ?Bq ?Ba ?Bb ?Bc ?Be ?Ar ?Ao ?Ax ?A0 ?Ay ?AF ?Bf ?AQ ?Bg ?A1 ?A2 ?AR ?Ap ?Dv ?DM
  (case BP => walk_at "k")
  (case Bn => walk_at "k")
  (case Cz => walk_at "k")
  (case Cd => walk_at "k")
  (case BQ => walk_at "k")
  (case A8 => walk_at "k")
  (case Ce => walk_at "k")
  (case AY => walk_at "k")
  (case Bo => walk_at "k")
  (case BR => walk_at "k")
  (case Cf => walk_at "k")
  (case Av => walk_at "k")
  (case AE => walk_at "k")
  (case Bp => walk_at "k")
  (case Cg => walk_at "k")
  (case Aw => walk_at "k")
  (case Aq => walk_at "k")
  (case AO => walk_at "k")
  (case A9 => walk_at "k")
  (case A_ => walk_at "k")
  (case AZ => walk_at "k")
  (case Bq => walk_at "k")
  (case Ba => walk_at "k")
  (case Bb => walk_at "k")
  (case Bc => walk_at "k")
  (case Be => walk_at "k")
  (case Ar => walk_at "k")
  (case Ao => walk_at "k")
  (case Ax => walk_at "k")
  (case A0 => walk_at "k")
  (case Ay => walk_at "k")
  (case AF => walk_at "k")
  (case Bf => walk_at "k")
  (case AQ => walk_at "k")
  (case Bg => walk_at "k")
  (case A1 => walk_at "k")
  (case A2 => walk_at "k")
  (case AR => walk_at "k")
  (case Ap => walk_at "k")
  (case Dv => kernel_rfl)
  (case DM => walk_at "k")
#print axioms PySem.Challenge.cw_dueworth_k24_tallies_of_stories_holds
