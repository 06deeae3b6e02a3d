import PyProof.Rows.All
import Wide.All
import OpenK.AllK
import Wide.FinOn
import Lean
import PyProof.EqAt
import PyProof.EqKinds
import PyProof.TupleCall
import PySem.Challenge.RW_dueworth_k19_stuck_or_too_long
section
set_option Elab.async false
set_option linter.all false
set_option maxRecDepth 100000
set_option maxHeartbeats 0
namespace ET
open PySem PySem.W PyProof.Rows
def topRunT (tb : String → Option Builtin) (p : Program) (w : World) (n₀ : Nat) (ann : Option Value) : Nat → SharedT → Thread → Option SharedT
 | 0, _, _ => none
 | n + 1, s, t => match through t with
  | true => some s
  | false => match stepOk n₀ ann t with
   | false => none
   | true => match stepT (denote tb) p w s t with
    | some x => topRunT tb p w n₀ ann n x.1 x.2
    | none => none
theorem topRun_of {tb : String → Option Builtin} {p : Program} {w : World} {n₀ : Nat} {ann : Option Value} : ∀ {n : Nat} {s s' : SharedT} {t : Thread}, topRunT tb p w n₀ ann n s t = some s' → topRun tb p w n₀ ann n s.abs t = some s'.abs
 | 0, _, _, _, h => by cases h
 | n + 1, s, s', t, h => by
  unfold topRunT at h
  unfold topRun
  cases he : through t with
  | true => rw [he] at h; cases h; rfl
  | false =>
   rw [he] at h
   cases hk : stepOk n₀ ann t with
   | false => rw [hk] at h; cases h
   | true =>
    rw [hk] at h
    cases hs : stepT (denote tb) p w s t with
    | none => rw [hs] at h; cases h
    | some r => rw [hs] at h; rw [stepT_spec hs]; exact topRun_of h
def mkT : List Obj → BT → Nat → Option (BT × Nat)
 | [], t, n => some (t, n)
 | o :: os, t, n => match ((t.ins n o).get n).isSome with
  | true => mkT os (t.ins n o) (n + 1)
  | false => none
theorem mkT_abs {life : Life} : ∀ {os : List Obj} {t t' : BT} {n n' : Nat}, mkT os t n = some (t', n') → absHeap t' n' life = ⟨(absHeap t n life).objs ++ os.toArray, life⟩
 | [], t, t', n, n', h => by cases h; simp [absHeap]
 | o :: os, t, t', n, n', h => by
  unfold mkT at h
  cases g : ((t.ins n o).get n).isSome with
  | false => rw [g] at h; cases h
  | true =>
   rw [g] at h
   rw [mkT_abs h, absHeap_ins g]
   simp [Heap.push]
def topFromT (tb : String → Option Builtin) (p : Program) (w : World) (N : Nat) (s₀ : Shared) : Option Shared :=
 match s₀.heap.isNs mainGlobals && s₀.gens.size == 0 with
 | true => match mkT s₀.heap.objs.toList .nil 0 with
  | some x => match topRunT tb p w x.2 (s₀.heap.nsMap mainGlobals "__annotations__") N ⟨x.1, x.2, s₀.heap.life, s₀.gens, s₀.drawn, s₀.toks, s₀.os⟩ (topStub p) with
   | some s => match staticsOk (importedModules p.main.body) s₀.heap s.abs.heap && namesBound p s.abs.heap && gensDone s.abs && laidKept s₀.heap s.abs.heap with
    | true => some s.abs
    | false => none
   | none => none
  | none => none
 | false => none
theorem topFrom_of {tb : String → Option Builtin} {p : Program} {w : World} {N : Nat} {s₀ s : Shared} (h : topFromT tb p w N s₀ = some s) : topFrom tb p w N s₀ = some s := by
 unfold topFromT at h
 unfold topFrom
 cases h1 : s₀.heap.isNs mainGlobals && s₀.gens.size == 0 with
 | false => rw [h1] at h; cases h
 | true =>
  rw [h1] at h
  dsimp only at h ⊢
  cases h2 : mkT s₀.heap.objs.toList .nil 0 with
  | none => rw [h2] at h; cases h
  | some x =>
   rw [h2] at h
   dsimp only at h
   have e := mkT_abs (life := s₀.heap.life) h2
   have e' : absHeap x.1 x.2 s₀.heap.life = s₀.heap := by
    rw [e]
    simp [absHeap, BT.list]
   have n' : x.2 = s₀.heap.objs.size := by rw [← e', absHeap_size]
   cases h3 : topRunT tb p w x.2 (s₀.heap.nsMap mainGlobals "__annotations__") N ⟨x.1, x.2, s₀.heap.life, s₀.gens, s₀.drawn, s₀.toks, s₀.os⟩ (topStub p) with
   | none => rw [h3] at h; cases h
   | some r =>
    rw [h3] at h
    dsimp only at h
    have ea : SharedT.abs ⟨x.1, x.2, s₀.heap.life, s₀.gens, s₀.drawn, s₀.toks, s₀.os⟩ = s₀ := by
     unfold SharedT.abs
     rw [e']
    have := topRun_of h3
    rw [ea, n'] at this
    rw [this]
    exact h
theorem map_of {tb : String → Option Builtin} {p : Program} {w : World} {N : Nat} {s₀ : Shared} {α : Type} {f : Shared → α} {a : α} (h : Option.map f (topFromT tb p w N s₀) = some a) : Option.map f (topFrom tb p w N s₀) = some a := by
 obtain ⟨s, h1, h2⟩ := Option.map_eq_some_iff.mp h
 rw [topFrom_of h1]
 exact congrArg some h2
def seenT (p q : Program) (loose : List Str) (Xt : Shared → Bool) {α : Type} (Yf : Shared → α) (N : Nat) (u u' : World) :=
 Option.map (fun c => Option.map (fun s => (openSeen q loose (importedModules p.main.body) Xt true s, Yf s)) (topFromT treeTable p u' N c)) (fencedOpening treeTable p u N)
lay_quick seenT
theorem seen_of {p q : Program} {loose : List Str} {Xt : Shared → Bool} {α : Type} {Yf : Shared → α} {N : Nat} {u u' : World} {r} (h : PySem.W.Fast.tw2787559817927863336 p q loose Xt Yf N u u' = r) : seenT p q loose Xt Yf N u u' = r := by
 rw [PySem.W.Fast.te2787559817927863336]
 exact h
theorem left_of {p q : Program} {loose : List Str} {Xt : Shared → Bool} {α : Type} {Yf : Shared → α} {Ya : World → α} {N : Nat}
  (h : ∀ u : World, seenT p q loose Xt Yf N u u = some (some (openGood q loose, Ya u))) : LeftO p q loose Xt Yf Ya N := fun u => by
 obtain ⟨c, a, b⟩ := Option.map_eq_some_iff.mp (h u)
 unfold openEnds
 rw [a]
 exact map_of b
theorem left_row {p q : Program} {loose : List Str} {Xt : Shared → Bool} {α : Type} {Yf : Shared → α} {Ya : World → α} {N : Nat} (row : String)
  (h0 : ∀ u : World, seenT p q loose Xt Yf N u (u.withFollow row false) = some (some (openGood q loose, Ya (u.withFollow row false))))
  (h1 : ∀ u : World, seenT p q loose Xt Yf N u (u.withFollow row true) = some (some (openGood q loose, Ya (u.withFollow row true)))) : LeftO p q loose Xt Yf Ya N := fun u => by
 obtain ⟨c, a, b⟩ := Option.map_eq_some_iff.mp (h0 u)
 obtain ⟨c', a', b'⟩ := Option.map_eq_some_iff.mp (h1 u)
 have hc : c' = c := by rw [a] at a'; cases a'; rfl
 subst hc
 have b := map_of b
 have b' := map_of b'
 have hu := World.withFollow_self u row
 unfold openEnds
 rw [a]
 cases hb : u.params.followText row <;> rw [hb] at hu
 ·rw [hu] at b
  exact b
 ·rw [hu] at b'
  exact b'
end ET
namespace E19
open PySem PySem.W PyProof.Rows
abbrev tp (i : Nat) : Stmt := PySem.Challenge.pw_dueworth_k19_stuck_or_too_long.main.body.getD i (.Pass ⟨0, 0, 0, 0⟩)
/-- the text without what says nothing -/
def vw : Program := { PySem.Challenge.pw_dueworth_k19_stuck_or_too_long with main := { PySem.Challenge.pw_dueworth_k19_stuck_or_too_long.main with body := [tp 1, tp 2, tp 3, tp 5, tp 6, tp 8, tp 9, tp 10, tp 11, tp 12, tp 13, tp 14, tp 15, tp 17, tp 18, tp 19, tp 21, tp 23, tp 24, tp 26, tp 27, tp 28, tp 29, tp 30, tp 31, tp 33, tp 34, tp 35, tp 36, tp 37, tp 38, tp 39, tp 40, tp 41, tp 42, tp 43, tp 44, tp 45, tp 46, tp 47, tp 48, tp 49, tp 50, tp 51, tp 52, tp 53, tp 54, tp 55] } }
abbrev rr : RowW := OpenRow.toRowW (OpenLaw.row PySem.Challenge.rw_dueworth_k19_stuck_or_too_long)
local macro_rules | `(tactic| o_head $H) => `(tactic|
  refine holds_open (q := vw) (loose := ["SIDES_FROM"]) (Xt := fun s => (xlAt vw [] s && recOk (RowW.records rr) s)) (XP := XL vw []) (N := 7084)
    (Yf := Hook.obs $H) (Ya := Hook.val $H) (YP := Hook.says $H) ?hl (Hook.of $H) (Hook.keeps $H) (fun s e => xl_of s (Bool.and_eq_true_iff.mp e).1)
    XL.keeps rfl rfl rfl (fun s e => recFacts_of (Bool.and_eq_true_iff.mp e).2) rfl (by assumption)
    (by decide +kernel) ⟨rfl, rfl, rfl, rfl, rfl, by decide +kernel⟩ ?hw ?hc)
/-- says nothing; what lies in the heap is written down by the way -/
theorem early (h : ∀ P : Prop, P) : PySem.Challenge.rw_dueworth_k19_stuck_or_too_long.Holds := by
  w_on; o_law; k_head
  all_goals exact h _
abbrev as : List Addr := [2,3,15,16,18,19,21,22,23,25,26,28,29,30,32,33,35,36,37,40,41,42,49,50,51,52,55,62,64,65,67,68,69,70,71,74,81,83,84,86,87,88,89,90,93,100,102,103,105,106,107,108,109,112,119,121,122,124,125,126,127,128,131,138,139,140,143,150,151,152,155,162,163,164,167,169,170,172,173,174,176,177,179,180,181,183,184,186,187,188,190,191,193,194,195,198,199,200,203,204,212,214,215,217,218,219,221,222,224,225,226,228,229,231,232,233,235,236,238,239,240,242,243,245,246,247,248,249,250,251,254,256,257,259,260,261,263,264,266,267,268,270,271,273,274,275,277,278,280,281,282,284,285,287,288,289,292,293,294,296,297,299,300,301,304,305,306,308,309,311,312,313,315,316,318,319,320,322,323,325,326,327,329,330,332,333,334,336,337,339,340,341,343,344,346,347,348,350,351,353,354,355,357,358,360,361,362,365,366,367,370,371,372,374,375,377,378,379,381,382,384,385,386,388,389,391,392,393,395,396,398,399,400,402,403,405,406,407,409,410,412,413,414,416,417,419,420,421,423,424,426,427,428,430,431,433,434,435,438,439]
theorem ase (P : Params) : as = (early.heap_39 P).map (·.1) := by kernel_rfl
noncomputable abbrev hk : Hook := kHook early.heap_39 as ase
theorem left0 (u : World) : ET.seenT (OpenLaw.row PySem.Challenge.rw_dueworth_k19_stuck_or_too_long).prog vw ["SIDES_FROM"] (fun s => (xlAt vw [] s && recOk (RowW.records rr) s)) (Hook.obs hk) 7084 u (u.withFollow "special-get-raises" false) = some (some (openGood vw ["SIDES_FROM"], Hook.val hk (u.withFollow "special-get-raises" false))) := ET.seen_of (by kernel_rfl)
theorem left1 (u : World) : ET.seenT (OpenLaw.row PySem.Challenge.rw_dueworth_k19_stuck_or_too_long).prog vw ["SIDES_FROM"] (fun s => (xlAt vw [] s && recOk (RowW.records rr) s)) (Hook.obs hk) 7084 u (u.withFollow "special-get-raises" true) = some (some (openGood vw ["SIDES_FROM"], Hook.val hk (u.withFollow "special-get-raises" true))) := ET.seen_of (by kernel_rfl)
theorem left : LeftO (OpenLaw.row PySem.Challenge.rw_dueworth_k19_stuck_or_too_long).prog vw ["SIDES_FROM"] (fun s => (xlAt vw [] s && recOk (RowW.records rr) s)) (Hook.obs hk) (Hook.val hk) 7084 := ET.left_row "special-get-raises" left0 left1
end E19
end
set_option Elab.async false
set_option linter.all false
set_option maxRecDepth 100000
namespace L2
open PySem PySem.Spec PyProof.Rows
noncomputable abbrev Key:=Sum Int Str
noncomputable def keyIs:Key→Value→Bool
 | .inl k,v=>Value.isInt k v
 | .inr x,v=>Value.isStrOf x v
noncomputable def keyH (w:World):Key→Int
 | .inl k=>hashInt k
 | .inr x=>hashStr w x
theorem keyIs_shape:∀ {k:Key} {v:Value},keyIs k v = true→(∃ i t,k = Sum.inl i∧v = Value.int i t) ∨ (∃ x t,k = Sum.inr x∧v = Value.str x t)
 | .inl i,v,h=>by
  obtain ⟨t,e⟩:=Value.isInt_shape (k:=i) (v:=v) h
  exact .inl ⟨i,t,rfl,e⟩
 | .inr x,v,h=>by
  obtain ⟨t,e⟩:=Value.isStrOf_shape (x:=x) (v:=v) h
  exact .inr ⟨x,t,rfl,e⟩
theorem keyIs_int (i:Int) (t:Tok):keyIs (.inl i) (.int i t) = true:=by simp [keyIs,Value.isInt]
theorem keyIs_str (x:Str) (t:Tok):keyIs (.inr x) (.str x t) = true:=by simp [keyIs,Value.isStrOf]
theorem key_ll (a b:Int):decide ((Sum.inl a:Key) = Sum.inl b) = (a == b):=by
 by_cases e:a = b
 ·subst e; simp
 ·have h:¬ (Sum.inl a:Key) = Sum.inl b:=fun q=>e (Sum.inl.inj q)
  rw [decide_eq_false h]
  exact (beq_eq_false_iff_ne.mpr e).symm
theorem key_rr (a b:Str):decide ((Sum.inr a:Key) = Sum.inr b) = decide (a = b):=by
 by_cases e:a = b
 ·subst e; simp
 ·have h:¬ (Sum.inr a:Key) = Sum.inr b:=fun q=>e (Sum.inr.inj q)
  rw [decide_eq_false h,decide_eq_false e]
theorem key_lr (a:Int) (b:Str):decide ((Sum.inl a:Key) = Sum.inr b) = false:=decide_eq_false (fun q=>nomatch q)
theorem key_rl (a:Str) (b:Int):decide ((Sum.inr a:Key) = Sum.inl b) = false:=decide_eq_false (fun q=>nomatch q)
noncomputable def mixKind (prog:Program) (w:World):PySem.KeyKind prog w Key where
 is:=keyIs
 hash:=keyH w
 inj:=fun v a b ha hb=>by
  rcases keyIs_shape ha with ⟨i,t,rfl,rfl⟩ | ⟨x,t,rfl,rfl⟩
  ·rcases keyIs_shape hb with ⟨j,u,rfl,e⟩ | ⟨y,u,rfl,e⟩
   ·injection e with e1 _; rw [e1]
   ·exact nomatch e
  ·rcases keyIs_shape hb with ⟨j,u,rfl,e⟩ | ⟨y,u,rfl,e⟩
   ·exact nomatch e
   ·injection e with e1 _; rw [e1]
 byValue:=fun k v h=>by
  rcases keyIs_shape h with ⟨i,t,rfl,rfl⟩ | ⟨x,t,rfl,rfl⟩ <;> rfl
 pyHash:=fun hv h=>by
  rcases keyIs_shape hv with ⟨i,t,rfl,rfl⟩ | ⟨x,t,rfl,rfl⟩
  ·exact wpAny_pyHash_int h
  ·exact wpAny_pyHash_str h
 eqBool:=fun hu hv h=>by
  rcases keyIs_shape hu with ⟨i,t,rfl,rfl⟩ | ⟨x,t,rfl,rfl⟩
  ·rcases keyIs_shape hv with ⟨j,u,rfl,rfl⟩ | ⟨y,u,rfl,rfl⟩
   ·rw [key_ll] at h; exact wpAny_eqBool_int h
   ·rw [key_lr] at h; exact SeqAt.EqAt.int_str i t y u _ _ _ _ h
  ·rcases keyIs_shape hv with ⟨j,u,rfl,rfl⟩ | ⟨y,u,rfl,rfl⟩
   ·rw [key_rl] at h; exact SeqAt.EqAt.str_int x t j u _ _ _ _ h
   ·rw [key_rr] at h; exact wpAny_eqBool_str h
 «strs»:=fun k x t v h=>by
  rcases keyIs_shape h with ⟨i,u,rfl,e⟩ | ⟨y,u,rfl,e⟩
  ·exact nomatch e
  ·injection e with e1 _
   subst e1
   cases v <;> rfl
theorem mixKind_int (prog:Program) (w:World) (i:Int) (t:Tok):(mixKind prog w).is (.inl i) (.int i t) = true:=keyIs_int i t
theorem mixKind_str (prog:Program) (w:World) (x:Str) (t:Tok):(mixKind prog w).is (.inr x) (.str x t) = true:=keyIs_str x t
inductive V where
 | non | bl (b:Bool) | int (i:Int) | str (x:Str) | byt (b:Array UInt8) | flt (b:UInt64) | ref (a:Addr) | ty (n:String)
 deriving DecidableEq
noncomputable def RelV:V→Value→Prop
 | .non,u=>u = Value.none
 | .bl b,u=>u = Value.bool b
 | .int i,u=>∃ t,u = Value.int i t
 | .str x,u=>∃ t,u = Value.str x t
 | .byt b,u=>∃ t,u = Value.bytes b t
 | .flt b,u=>∃ t,u = Value.float b t
 | .ref a,u=>u = Value.ref a
 | .ty n,u=>u = Value.type n
noncomputable abbrev Vals:List V→List Value→Prop:=Paired RelV
theorem Vals.length {xs:List V} {us:List Value} (r:Vals xs us):xs.length = us.length:=Paired.length r
theorem Vals.get:∀ {xs:List V} {us:List Value} {i:Nat} {x:V},Vals xs us→xs[i]? = some x→∃ u,us[i]? = some u∧RelV x u
 | _,_,_,_,.nil,e=>by simp at e
 | _,_,0,_,.cons r _,e=>by simp at e; subst e; exact ⟨_,rfl,r⟩
 | _,_,i + 1,x,.cons _ t,e=>by
  obtain ⟨u,h1,h2⟩:=Vals.get (i:=i) (x:=x) t (by simpa using e)
  exact ⟨u,by simpa using h1,h2⟩
theorem Vals.set {x:V} {u:Value} (r:RelV x u):∀ {xs:List V} {us:List Value} (i:Nat),Vals xs us→Vals (xs.set i x) (us.set i u)
 | _,_,_,.nil=>.nil
 | _,_,0,.cons _ t=>.cons r t
 | _,_,i + 1,.cons q t=>.cons q (Vals.set r i t)
theorem Vals.append:∀ {xs ys:List V} {us ws:List Value},Vals xs us→Vals ys ws→Vals (xs ++ ys) (us ++ ws)
 | _,_,_,_,.nil,s=>s
 | _,_,_,_,.cons r t,s=>.cons r (Vals.append t s)
theorem Vals.take:∀ {xs:List V} {us:List Value} (n:Nat),Vals xs us→Vals (xs.take n) (us.take n)
 | _,_,0,_=>.nil
 | _,_,_ + 1,.nil=>.nil
 | _,_,n + 1,.cons r t=>.cons r (Vals.take n t)
theorem Vals.drop:∀ {xs:List V} {us:List Value} (n:Nat),Vals xs us→Vals (xs.drop n) (us.drop n)
 | _,_,0,r=>r
 | _,_,_ + 1,.nil=>.nil
 | _,_,n + 1,.cons _ t=>Vals.drop n t
noncomputable def RelO:Option V→Option Value→Prop
 | some v,some u=>RelV v u
 | none,none=>True
 | _,_=>False
noncomputable def KV {κ:Type}:List (κ × V)→List (κ × Value)→Prop:=Paired fun (p:κ × V) (q:κ × Value)=>p.1 = q.1∧RelV p.2 q.2
noncomputable def kV:Key→V
 | .inl i=>.int i
 | .inr x=>.str x
inductive HO where
 /-- a list -/
 | lst (xs:List V)
 /-- a tuple (never changes) -/
 | tup (xs:List V)
 /-- a dict whose keys are ints and texts; one whose keys are tuples of ints and texts (the empty one is both) -/
 | dK (kvs:List (Key × V)) | dT (kvs:List (List Key × V))
 /-- a set of ints: its members,its size -/
 | set (S:Int→Bool) (n:Nat)
 /-- an instance of the class at C,its dict at dx,its attributes -/
 | ins (C dx:Addr) (fs:List (Str × V))
 /-- the dict of the instance at x -/
 | own (x:Addr)
 /-- the dict of an exception -/
 | xd (fs:List (Str × V))
 /-- a bound method,f of x -/
 | met (f x:Addr)
 /-- a range object lo,lo + 1,.. below hi -/
 | rng (lo hi:Int)
 /-- a thing that is known to the object (the script; a dict while a loop walks it): read,never written while it is so -/
 | frz (o:Obj) (u:HO)
 /-- a code object's table -/
 | tbl (ps:Array Value)
 /-- any other thing,by what is true of its one object (a def of one's own: SetO a S n:=HO.ext fun h=>..) -/
 | ext (φ:Heap→Prop)
noncomputable abbrev Hp:=Addr→Option HO
noncomputable def upd (H:Hp) (a:Addr) (o:HO):Hp:=fun b=>if b = a then some o else H b
theorem upd_same {H:Hp} {a:Addr} {o:HO}:upd H a o a = some o:=by unfold upd; rw [if_pos rfl]
theorem upd_ne {H:Hp} {a b:Addr} {o:HO} (h:b ≠ a):upd H a o b = H b:=by unfold upd; rw [if_neg h]
theorem upd_upd {H:Hp} {a:Addr} {o u:HO}:upd (upd H a o) a u = upd H a u:=by
 funext b; unfold upd; split <;> rfl
theorem ne_of {H:Hp} {a b:Addr} {o u:HO} (h:H a = some o) (h':H b = some u) (d:o ≠ u):a ≠ b:=by
 intro e; subst e; rw [h] at h'; exact d (Option.some.inj h')
theorem ne_of_none {H:Hp} {a b:Addr} {o:HO} (h:H a = some o) (h':H b = none):a ≠ b:=by
 intro e; subst e; rw [h] at h'; cases h'
noncomputable def IsTupD (h:Heap) (a:Addr) (its:Array Value):Prop:=∃ o,h.get? a = some o∧o.dict = none∧o.cls = .type "tuple"∧∃ n,o.data = .seq its n
theorem IsTupD.tup {h:Heap} {a:Addr} {its:Array Value} (x:IsTupD h a its):IsTup h a its:=let ⟨o,e,_,c,d⟩:=x; ⟨o,e,c,d⟩
theorem IsTupD.new (h:Heap) (its:Array Value):IsTupD (h.push { cls:=.type "tuple",data:=.seq its }) h.objs.size its:=⟨_,Heap.get?_push_size _ rfl,rfl,rfl,_,rfl⟩
section
variable (P:Program) (w:World)
noncomputable def ObjOk (H:Hp) (h:Heap) (a:Addr):HO→Prop
 | .lst xs=>xs.length ≤ sizeLine∧∃ (its:List Value) (n:Nat),Vals xs its∧h.get? a = some { cls:=.type "list",data:=.seq its.toArray n }
 | .tup xs=>xs.length ≤ sizeLine∧∃ its:List Value,Vals xs its∧IsTupD h a its.toArray
 | .dK kvs=>kvs.length ≤ sizeLine∧(a == sysModules) = false∧∃ vs,KV kvs vs∧h.DictOf (mixKind P w) a vs
 | .dT kvs=>kvs.length ≤ sizeLine∧(a == sysModules) = false∧∃ xs:List (List Key × Addr × Value),
   Paired (fun (p:List Key × V) (q:List Key × Addr × Value)=>p.1 = q.1∧H q.2.1 = some (.tup (p.1.map kV))∧RelV p.2 q.2.2) kvs xs∧
   ∃ o es ep,h.get? a = some o∧o.ExactDict∧o.data = .dict es ep∧es.toList = xs.map (entryOfKey (tupleKind (mixKind P w)))∧(xs.map (·.1)).Nodup
 | .set S n=>h.SetOf (intKind P w) a S n
 | .ins C dx fs=>H dx = some (.own a)∧fs.length ≤ 1000∧dx ≠ a∧h.get? a = some (PySem.W.instObj C dx)∧
   ∃ mA,h.Ns1 dx mA∧(∀ f,RelO (fs.lookup f) (mA f))∧PySem.Within mA (fs.map (·.1))
 | .own _=>∃ o,h.get? a = some o
 | .xd fs=>∃ mA,h.Ns1 a mA∧∀ f,RelO (fs.lookup f) (mA f)
 | .rng lo hi=>∃ t u v,h.get? a = some { cls:=.type "range",data:=.fields #[.int lo t,.int hi u,.int 1 v] }
 | .frz o u=>h.get? a = some o∧ObjOk H h a u
 | .tbl ps=>h.get? a = some { cls:=.none,data:=.fields ps }
 | .met f x=>h.get? a = some (PySem.W.methodObj (.ref f) (.ref x))
 | .ext φ=>φ h∧(∃ o,h.get? a = some o)∧∀ h1 h2:Heap,φ h1→(∀ o,h1.get? a = some o→h2.get? a = some o)→φ h2
noncomputable def HOk (H:Hp) (h:Heap):Prop:=∀ a o,H a = some o→ObjOk P w H h a o
end
section
variable {P:Program} {w:World} {H H':Hp} {h h':Heap} {a:Addr} {o:HO}
theorem ObjOk.lt (x:ObjOk P w H h a o):a < h.objs.size:=by
 cases o with
 | lst xs=>obtain ⟨_,_,_,_,e⟩:=x; exact Heap.lt_size e
 | tup xs=>obtain ⟨_,_,_,p⟩:=x; exact p.tup.lt
 | dK kvs=>obtain ⟨_,_,_,_,o,_,_,e,_⟩:=x; exact Heap.lt_size e
 | dT kvs=>obtain ⟨_,_,_,_,o,_,_,e,_⟩:=x; exact Heap.lt_size e
 | set S n=>obtain ⟨o,_,_,_,e,_⟩:=x; exact Heap.lt_size e
 | ins C dx fs=>obtain ⟨_,_,_,e,_⟩:=x; exact Heap.lt_size e
 | own y=>obtain ⟨_,e⟩:=x; exact Heap.lt_size e
 | xd fs=>obtain ⟨_,⟨_,_,_,e,_⟩,_⟩:=x; exact Heap.lt_size e
 | rng lo hi=>obtain ⟨_,_,_,e⟩:=x; exact Heap.lt_size e
 | frz ob u=>obtain ⟨e,_⟩:=x; exact Heap.lt_size e
 | tbl ps=>exact Heap.lt_size (show h.get? a = some _ from x)
 | met f y=>exact Heap.lt_size (show h.get? a = some _ from x)
 | ext φ=>obtain ⟨_,⟨_,e⟩,_⟩:=x; exact Heap.lt_size e
theorem Paired.mapP {α β:Type} {F G:α→β→Prop}:∀ {l₁:List α} {l₂:List β},Paired F l₁ l₂→(∀ a b,F a b→G a b)→Paired G l₁ l₂
 | _,_,.nil,_=>.nil
 | _,_,.cons r t,f=>.cons (f _ _ r) (Paired.mapP t f)
theorem ObjOk.stay (x:ObjOk P w H h a o) (k:∀ b u,(b = a ∨ H b = some (.own a))→h.get? b = some u→h'.get? b = some u)
  (ho:∀ b,H b = some (.own a)→H' b = some (.own a)) (ht:∀ b xs,H b = some (.tup xs)→H' b = some (.tup xs)):ObjOk P w H' h' a o:=by
 induction o with
 | lst xs=>obtain ⟨z,its,n,r,e⟩:=x; exact ⟨z,its,n,r,k _ _ (.inl rfl) e⟩
 | tup xs=>obtain ⟨z,its,r,ob,e,c⟩:=x; exact ⟨z,its,r,ob,k _ _ (.inl rfl) e,c⟩
 | dK kvs=>obtain ⟨z,y,vs,r,ob,es,ep,e,c⟩:=x; exact ⟨z,y,vs,r,ob,es,ep,k _ _ (.inl rfl) e,c⟩
 | dT kvs=>
  obtain ⟨z,y,xs,r,ob,es,ep,e,c⟩:=x
  exact ⟨z,y,xs,Paired.mapP r fun p q z=>⟨z.1,ht _ _ z.2.1,z.2.2⟩,ob,es,ep,k _ _ (.inl rfl) e,c⟩
 | set S n=>obtain ⟨ob,es,ep,t,e,c⟩:=x; exact ⟨ob,es,ep,t,k _ _ (.inl rfl) e,c⟩
 | ins C dx fs=>
  obtain ⟨d,z,ne,e,mA,⟨od,es,ep,e2,c⟩,r⟩:=x
  exact ⟨ho _ d,z,ne,k _ _ (.inl rfl) e,mA,⟨od,es,ep,k _ _ (.inr d) e2,c⟩,r⟩
 | own y=>obtain ⟨ob,e⟩:=x; exact ⟨ob,k _ _ (.inl rfl) e⟩
 | xd fs=>obtain ⟨mA,⟨od,es,ep,e,c⟩,r⟩:=x; exact ⟨mA,⟨od,es,ep,k _ _ (.inl rfl) e,c⟩,r⟩
 | rng lo hi=>obtain ⟨t,u,v,e⟩:=x; exact ⟨t,u,v,k _ _ (.inl rfl) e⟩
 | frz ob u ih=>obtain ⟨e,q⟩:=x; exact ⟨k _ _ (.inl rfl) e,ih q⟩
 | tbl ps=>
  have e:h.get? a = some { cls:=.none,data:=.fields ps }:=x
  show h'.get? a = some { cls:=.none,data:=.fields ps }
  exact k a _ (.inl rfl) e
 | met f y=>
  have e:h.get? a = some (PySem.W.methodObj (.ref f) (.ref y)):=x
  show h'.get? a = some (PySem.W.methodObj (.ref f) (.ref y))
  exact k a _ (.inl rfl) e
 | ext φ=>obtain ⟨p,⟨o,e⟩,st⟩:=x; exact ⟨st _ _ p fun o q=>k _ _ (.inl rfl) q,⟨o,k _ _ (.inl rfl) e⟩,st⟩
theorem HOk.lt (x:HOk P w H h) (e:H a = some o):a < h.objs.size:=(x a o e).lt
theorem HOk.fresh (x:HOk P w H h) (e:h.objs.size ≤ a):H a = none:=by
 cases q:H a with
 | none=>rfl
 | some u=>exact absurd (Nat.lt_of_lt_of_le (x.lt q) e) (Nat.lt_irrefl _)
theorem HOk.kept (x:HOk P w H h) (k:∀ b u,h.get? b = some u→h'.get? b = some u):HOk P w H h':=fun a o e=>
 (x a o e).stay (fun b u _ q=>k b u q) (fun _ q=>q) fun _ _ q=>q
theorem HOk.laid (x:HOk P w H h) (k:∀ b u,h.get? b = some u→h'.get? b = some u) (hp:h.objs.size ≤ a) (new:ObjOk P w (upd H a o) h' a o):HOk P w (upd H a o) h':=fun b u e=>by
 have hn:=x.fresh hp
 by_cases hb:b = a
 ·subst hb; rw [upd_same] at e; cases e; exact new
 ·rw [upd_ne hb] at e
  exact (x b u e).stay (fun c v _ q=>k c v q) (fun c q=>by rw [upd_ne (ne_of_none q hn)]; exact q) fun c xs q=>by rw [upd_ne (ne_of_none q hn)]; exact q
end
noncomputable def Rd (H:Hp) (a:Addr) (u:HO):Prop:=H a = some u ∨ ∃ o,H a = some (.frz o u)
theorem Rd.ok {P:Program} {w:World} {H:Hp} {h:Heap} {a:Addr} {u:HO} (r:Rd H a u) (x:HOk P w H h):ObjOk P w H h a u:=by
 rcases r with r | ⟨o,r⟩
 ·exact x a u r
 ·obtain ⟨_,q⟩:=x a _ r
  exact q
noncomputable def Mut:Option HO→Prop
 | some (.lst _)=>True
 | some (.dK _)=>True
 | some (.dT _)=>True
 | some (.set _ _)=>True
 | some (.ins _ _ _)=>True
 | some (.ext _)=>True
 | _=>False
section
variable {P:Program} {w:World} {H:Hp} {h h':Heap} {x e:Addr} {o':HO}
theorem HOk.write (ok:HOk P w H h) (mu:Mut (H x)) (he:e = x ∨ H e = some (.own x)) (k:∀ b u,b ≠ e→h.get? b = some u→h'.get? b = some u) (heo:∃ u,h'.get? e = some u)
  (new:ObjOk P w (upd H x o') h' x o'):HOk P w (upd H x o') h':=fun b u q=>by
 have nown:∀ c y,H c = some (.own y)→c ≠ x:=fun c y r z=>by subst z; rw [r] at mu; exact mu
 have ntup:∀ c xs,H c = some (.tup xs)→c ≠ x:=fun c xs r z=>by subst z; rw [r] at mu; exact mu
 by_cases hb:b = x
 ·subst hb; rw [upd_same] at q; cases q; exact new
 ·rw [upd_ne hb] at q
  by_cases hbe:b = e
  ·have q':H b = some (.own x):=by
    rcases he with z | z
    ·exact absurd (hbe.trans z) hb
    ·rw [hbe]; exact z
   rw [q] at q'; cases q'
   obtain ⟨v,hv⟩:=heo
   exact ⟨v,by rw [hbe]; exact hv⟩
  ·refine (ok b u q).stay (fun c v hc r=>k c v ?_ r) (fun c r=>by rw [upd_ne (nown c b r)]; exact r) fun c xs r=>by rw [upd_ne (ntup c xs r)]; exact r
   rcases hc with rfl | hc
   ·exact hbe
   ·rintro rfl
    rcases he with z | z
    ·exact nown c b hc z
    ·rw [hc] at z; cases z; exact hb rfl
end
structure Un (fs ex:List Addr) (H H':Hp) (h h':Heap):Prop where
 keep:∀ b o,h.get? b = some o→H b = none→b ∉ fs→b ∉ ex→h'.get? b = some o
 slot:∀ b o,h.get? b = some o→H b = none→b ∈ fs→b ∉ ex→∃ sl,h'.get? b = some { o with slots:=sl }
 free:∀ b o,h.get? b = some o→H b = none→b ∉ ex→H' b = none
 there:∀ b o,h.get? b = some o→b ∉ ex→∃ o',h'.get? b = some o'
 tups:∀ b xs,H b = some (.tup xs)→H' b = some (.tup xs)
 frzs:∀ b o u,H b = some (.frz o u)→H' b = some (.frz o u)
 tbls:∀ b ps,H b = some (.tbl ps)→∃ more,H' b = some (.tbl (ps ++ more))
section
variable {fs fs' ex ex':List Addr} {H H1 H2:Hp} {h h1 h2 h':Heap} {a x e:Addr} {o:HO}
theorem Un.any (u:Un fs ex H H1 h h1) {b:Addr} {ob:Obj} (q:h.get? b = some ob) (n:H b = none) (hx:b ∉ ex):∃ sl,h1.get? b = some { ob with slots:=sl }:=by
 by_cases hb:b ∈ fs
 ·exact u.slot b ob q n hb hx
 ·exact ⟨ob.slots,u.keep b ob q n hb hx⟩
theorem Un.trans (a:Un fs ex H H1 h h1) (b:Un fs ex H1 H2 h1 h2):Un fs ex H H2 h h2 where
 keep:=fun c ob q n hc hx=>b.keep c ob (a.keep c ob q n hc hx) (a.free c ob q n hx) hc hx
 slot:=fun c ob q n hc hx=>by
  obtain ⟨sl,e1⟩:=a.slot c ob q n hc hx
  obtain ⟨sl',e2⟩:=b.slot c _ e1 (a.free c ob q n hx) hc hx
  exact ⟨sl',e2⟩
 free:=fun c ob q n hx=>by
  obtain ⟨o',e1⟩:=a.there c ob q hx
  exact b.free c o' e1 (a.free c ob q n hx) hx
 there:=fun c ob q hx=>by
  obtain ⟨o',e1⟩:=a.there c ob q hx
  exact b.there c o' e1 hx
 tups:=fun c xs q=>b.tups c xs (a.tups c xs q)
 frzs:=fun c ob xs q=>b.frzs c ob xs (a.frzs c ob xs q)
 tbls:=fun c ps q=>by
  obtain ⟨m1,e1⟩:=a.tbls c ps q
  obtain ⟨m2,e2⟩:=b.tbls c _ e1
  exact ⟨m1 ++ m2,by rw [e2,Array.append_assoc]⟩
theorem Un.kept (k:∀ b u,h.get? b = some u→h'.get? b = some u):Un fs ex H H h h':=
 ⟨fun b ob q _ _ _=>k b ob q,fun b ob q _ _ _=>⟨ob.slots,k b ob q⟩,fun _ _ _ n _=>n,fun b ob q _=>⟨ob,k b ob q⟩,fun _ _ q=>q,fun _ _ _ q=>q,fun _ ps q=>⟨#[],by rw [q]; simp⟩⟩
theorem Un.refl:Un fs ex H H h h:=Un.kept fun _ _ q=>q
theorem Un.laid (k:∀ b u,h.get? b = some u→h'.get? b = some u) (hp:h.objs.size ≤ a) (hn:H a = none):Un fs ex H (upd H a o) h h' where
 keep:=fun b u q _ _ _=>k b u q
 slot:=fun b u q _ _ _=>⟨u.slots,k b u q⟩
 free:=fun b u q n _=>by rw [upd_ne (Nat.ne_of_lt (Nat.lt_of_lt_of_le (Heap.lt_size q) hp))]; exact n
 there:=fun b u q _=>⟨u,k b u q⟩
 tups:=fun b xs q=>by rw [upd_ne (ne_of_none q hn)]; exact q
 frzs:=fun b u xs q=>by rw [upd_ne (ne_of_none q hn)]; exact q
 tbls:=fun b ps q=>⟨#[],by rw [upd_ne (ne_of_none q hn),q]; simp⟩
theorem Un.write (mu:Mut (H x)) (he:e = x ∨ H e = some (.own x)) (k:∀ b u,b ≠ e→h.get? b = some u→h'.get? b = some u) (heo:∃ u,h'.get? e = some u):Un fs ex H (upd H x o) h h':=by
 have hx:∀ b,H b = none→b ≠ x:=fun b n z=>by subst z; rw [n] at mu; exact mu
 have hb:∀ b,H b = none→b ≠ e:=fun b n z=>by
  subst z
  rcases he with r | r
  ·exact hx b n r
  ·rw [n] at r; cases r
 have hm:∀ b u,H b = some u→¬ Mut (some u)→b ≠ x:=fun b u q nm z=>by subst z; rw [q] at mu; exact nm mu
 refine ⟨fun b u q n _ _=>k b u (hb b n) q,fun b u q n _ _=>⟨u.slots,k b u (hb b n) q⟩,fun b u q n _=>by rw [upd_ne (hx b n)]; exact n,fun b u q _=>?_,
  fun b xs q=>by rw [upd_ne (hm b _ q fun z=>z)]; exact q,fun b u xs q=>by rw [upd_ne (hm b _ q fun z=>z)]; exact q,fun b ps q=>⟨#[],by rw [upd_ne (hm b _ q fun z=>z),q]; simp⟩⟩
 by_cases hbe:b = e
 ·subst hbe; exact heo
 ·exact ⟨u,k b u hbe q⟩
end
noncomputable def trk (h:Heap) (H:Hp):List Addr:=(List.range h.objs.size).filter fun a=>(H a).isSome
noncomputable def hidT (h:Heap) (H:Hp):Heap:=PySem.W.hideAll h (trk h H)
theorem hidT_size (h:Heap) (H:Hp):(hidT h H).objs.size = h.objs.size:=PySem.W.hideAll_size _ _
theorem hidT_get {h:Heap} {H:Hp} {b:Addr} {o:Obj} (e:h.get? b = some o) (n:H b = none):(hidT h H).get? b = some o:=
 PySem.W.hideAll_get _ e fun hm=>by
  have q:(H b).isSome = true:=(List.mem_filter.mp hm).2
  rw [n] at q; simp at q
theorem of_hidT {h:Heap} {H:Hp} {b:Addr} {o:Obj} (e:(hidT h H).get? b = some o):h.get? b = some o∧H b = none:=by
 have e':h.get? b = some o:=PySem.W.of_hideAll (trk h H) e
 refine ⟨e',?_⟩
 cases q:H b with
 | none=>rfl
 | some x=>
  have hm:b ∈ trk h H:=List.mem_filter.mpr ⟨List.mem_range.mpr (Heap.lt_size e'),by simp [q]⟩
  have z:(hidT h H).get? b = none:=PySem.W.hideAll_none (trk h H) hm
  rw [z] at e; cases e
noncomputable def allNews (g h:Heap) (L:Addr):List (Addr × Obj):=(List.range h.objs.size).filterMap fun a=>if a = L ∨ (g.get? a).isSome = true then none else (h.get? a).map fun o=>(a,o)
noncomputable def rest (g h:Heap) (L d:Addr):List (Addr × Obj):=(allNews g h L).filter fun p=>decide (p.1 ≠ d)
structure Mod (K:PySem.W.Frag) (mg:Str→Option Value) (base:Heap):Prop where
 kin:K.In base
 glob:base.Ns mainGlobals mg
 blt:∃ mb,base.Ns builtinsNs mb∧∀ x:Str,x ≠ "__name__"→mb x = bootBuiltins x
 nolimit:base.NoLimit
structure Cx where
 prog:Program
 w:World
 K:PySem.W.Frag
 mg:Str→Option Value
 base:Heap
 A:Around
 N:List Str
 s₀:Shared
 H₀:Hp
 env:Env
 outer:List Env
 stack:List Env
 ex:List Addr
 fn:Str→Bool
 calm:Bool
 pn:List (Addr × Obj)
 xe:Value→Shared→Prop
noncomputable def frs (l:List Env):List Addr:=l.filterMap (·.frame)
noncomputable abbrev Cx.fs (X:Cx):List Addr:=frs X.outer
noncomputable def Vis (sc:Scope) (x:Str):Prop:=sc.names.lookup x = some .local ∨ sc.names.lookup x = some .cell ∨ sc.names.lookup x = some .free
noncomputable def Loc (sc:Scope) (x:Str):Prop:=sc.names.lookup x = some .local ∨ sc.names.lookup x = some .cell
noncomputable def Look (env:Env) (h:Heap) (m:Str→Option Value) (x:Str) (u:Value):Prop:=
 (env.kindOf x = some .local∧m x = some u) ∨ ((env.kindOf x = some .cell ∨ env.kindOf x = some .free)∧∃ c,env.cells.lookup x = some c∧h.IsCell c (some u))
structure Cx.Ok (X:Cx):Prop where
 mod:Mod X.K X.mg X.base
 kind:X.env.scope.kind = .function
 glob:X.env.globals = mainGlobals
 blt:X.env.builtins = builtinsNs
 above:X.s₀.heap.objs.size ≤ X.env.locals
 inj:∀ x y c,X.env.cells.lookup x = some c→X.env.cells.lookup y = some c→x = y
 has:∀ x,(X.env.kindOf x = some .cell ∨ X.env.kindOf x = some .free)→∃ c,X.env.cells.lookup x = some c
 cab:∀ x c,X.fn x = true→X.env.cells.lookup x = some c→X.s₀.heap.objs.size ≤ c
 hd:X.calm = true→X.A.handled = none
 frames:X.A.frames = some X.stack
 stk:X.stack = X.outer ∨ (X.stack = X.env :: X.outer∧X.env.frame = some X.env.locals)
 exf:∀ b ∈ X.ex,b ≠ X.env.locals∧∀ x c,X.env.cells.lookup x = some c→c ≠ b
 bs:∀ b o,X.base.get? b = some o→X.s₀.heap.get? b = some o∧X.H₀ b = none
 bsz:X.base.objs.size ≤ X.s₀.heap.objs.size
 noex:∀ b o,X.base.get? b = some o→b ∉ X.ex
 exfs:∀ b ∈ X.ex,b ∉ X.fs
 funs:X.s₀.heap.FunFrames X.base X.outer
 frf:∀ b ∈ X.fs,X.H₀ b = none
structure Inv (X:Cx) (pins:List (Addr × Obj)) (σ:List (Option V)) (H:Hp) (s:Shared):Prop where
 ok:X.Ok
 os:s.os = X.s₀.os
 bare:AllBare s.gens
 base:Un X.fs X.ex X.H₀ H X.s₀.heap s.heap
 loc:∃ m,s.heap.Ns X.env.locals m∧∀ (i:Nat) (x:Str) (v:V),X.N[i]? = some x→σ[i]? = some (some v)→Vis X.env.scope x→∃ u,RelV v u∧Look X.env s.heap m x u
 cell:∀ x c,X.env.cells.lookup x = some c→∃ v,s.heap.IsCell c v
 free:H X.env.locals = none
 freeC:∀ x c,X.env.cells.lookup x = some c→H c = none
 pin:∀ p ∈ X.pn ++ pins,s.heap.get? p.1 = some p.2∧H p.1 = none∧p.1 ≠ X.env.locals∧p.1 ∉ X.fs∧∀ v,p.2.data ≠ .cell v
 hok:HOk X.prog X.w H s.heap
 len:σ.length = X.N.length
section
variable {X:Cx} {pins:List (Addr × Obj)} {σ:List (Option V)} {H H':Hp} {s:Shared} {h':Heap}
theorem Cx.Ok.nofr (ok:X.Ok) {b:Addr} {o:Obj} (e:X.base.get? b = some o):b ∉ X.fs:=fun hb=>by
 have:=(ok.funs.mem hb).1
 rw [e] at this; cases this
theorem Inv.bs (I:Inv X pins σ H s):∀ b o,X.base.get? b = some o→s.heap.get? b = some o∧H b = none:=fun b o e=>
 ⟨I.base.keep b o (I.ok.bs b o e).1 (I.ok.bs b o e).2 (I.ok.nofr e) (I.ok.noex b o e),I.base.free b o (I.ok.bs b o e).1 (I.ok.bs b o e).2 (I.ok.noex b o e)⟩
theorem Inv.bk (I:Inv X pins σ H s):∀ b o,X.base.get? b = some o→s.heap.get? b = some o:=fun b o e=>(I.bs b o e).1
theorem Inv.mod (I:Inv X pins σ H s):Mod X.K X.mg X.base:=I.ok.mod
theorem Inv.kIn (I:Inv X pins σ H s):X.K.In s.heap:=I.ok.mod.kin.keeps I.bk
theorem Inv.lt (I:Inv X pins σ H s):X.env.locals < s.heap.objs.size:=let ⟨_,hn,_⟩:=I.loc; hn.lt
theorem Inv.sz (I:Inv X pins σ H s):X.s₀.heap.objs.size ≤ s.heap.objs.size:=Nat.le_trans I.ok.above (Nat.le_of_lt I.lt)
theorem Inv.nofs (I:Inv X pins σ H s) {a:Addr} (h:s.heap.objs.size ≤ a):a ∉ X.fs:=fun hb=>by
 obtain ⟨_,o,ho,_⟩:=I.ok.funs.mem hb
 exact absurd (Nat.lt_of_lt_of_le (Heap.lt_size ho) (Nat.le_trans I.sz h)) (Nat.lt_irrefl _)
theorem Inv.cne (I:Inv X pins σ H s):∀ x c,X.env.cells.lookup x = some c→c ≠ X.env.locals:=fun x c e z=>by
 obtain ⟨v,o,ho,hd⟩:=I.cell x c e
 obtain ⟨m,⟨o',es,ep,ho',hd',_⟩,_⟩:=I.loc
 rw [z,ho'] at ho; cases ho; rw [hd'] at hd; cases hd
theorem Inv.funs (I:Inv X pins σ H s):s.heap.FunFrames X.base X.outer:=by
 have all:∀ (l:List Env),(∀ b ∈ frs l,b ∈ X.fs)→X.s₀.heap.FunFrames X.base l→s.heap.FunFrames X.base l:=by
  intro l
  induction l with
  | nil=>intro _ _; trivial
  | cons env r ih=>
   intro hs hl
   obtain ⟨hk,⟨L,o,hf,hn,ho,hd⟩,hr⟩:=hl
   have hL:L ∈ X.fs:=hs L (by unfold frs; rw [List.filterMap_cons,hf]; exact List.mem_cons_self)
   obtain ⟨sl,e⟩:=I.base.slot L o ho (I.ok.frf L hL) hL fun z=>I.ok.exfs L z hL
   exact ⟨hk,⟨L,_,hf,hn,e,hd⟩,ih (fun b hb=>hs b (by unfold frs; rw [List.filterMap_cons,hf]; exact List.mem_cons_of_mem _ hb)) hr⟩
 exact all X.outer (fun _ hb=>hb) I.ok.funs
theorem Inv.stack (I:Inv X pins σ H s):s.heap.FunFrames X.base X.stack:=by
 rcases I.ok.stk with e | ⟨e,hf⟩
 ·rw [e]; exact I.funs
 ·rw [e]
  obtain ⟨m,hn,_⟩:=I.loc
  refine .cons (by rw [I.ok.kind]; decide) hf hn ?_ I.funs
  exact Heap.get?_none_of_le (Nat.le_trans I.ok.bsz I.ok.above)
theorem Inv.stkSub (I:Inv X pins σ H s):∀ b ∈ frs X.stack,b ∈ X.env.locals :: X.fs:=fun b hb=>by
 rcases I.ok.stk with e | ⟨e,hf⟩
 ·rw [e] at hb; exact List.mem_cons_of_mem _ hb
 ·rw [e] at hb
  unfold frs at hb
  rw [List.filterMap_cons,hf] at hb
  exact hb
theorem Inv.stkFree (I:Inv X pins σ H s):∀ b ∈ frs X.stack,H b = none:=fun b hb=>by
 rcases List.mem_cons.mp (I.stkSub b hb) with e | hb
 ·rw [e]; exact I.free
 ·obtain ⟨_,o,ho,_⟩:=I.ok.funs.mem hb
  exact I.base.free b o ho (I.ok.frf b hb) fun z=>I.ok.exfs b z hb
theorem Inv.step {g':Array GenState} {t':Nat} {d':Drawn} {ch:List Addr} (I:Inv X pins σ H s)
  (hch:∀ b ∈ ch,(b ∈ X.ex ∨ X.s₀.heap.objs.size ≤ b)∧b ≠ X.env.locals∧(∀ x c,X.env.cells.lookup x = some c→c ≠ b)∧∀ p ∈ X.pn ++ pins,p.1 ≠ b)
  (keep:∀ b o,b ≠ X.env.locals→b ∉ X.fs→b ∉ ch→s.heap.get? b = some o→H b = none→h'.get? b = some o)
  (slot:∀ b o,b ≠ X.env.locals→b ∈ X.fs→b ∉ ch→s.heap.get? b = some o→H b = none→∃ sl,h'.get? b = some { o with slots:=sl }) (free:∀ b o,b ∉ ch→s.heap.get? b = some o→H b = none→H' b = none)
  (there:∀ b o,b ∉ ch→s.heap.get? b = some o→∃ o',h'.get? b = some o')
  (tups:∀ b xs,H b = some (.tup xs)→H' b = some (.tup xs)) (frzs:∀ b o u,H b = some (.frz o u)→H' b = some (.frz o u)) (tbls:∀ b ps,H b = some (.tbl ps)→∃ more,H' b = some (.tbl (ps ++ more)))
  (ns:∀ m,s.heap.Ns X.env.locals m→h'.Ns X.env.locals m) (hok:HOk X.prog X.w H' h') (hg:AllBare g') :
  Inv X pins σ H' { s with heap:=h',gens:=g',drawn:=d',toks:=t' }:=by
 have neL:∀ b o,X.s₀.heap.get? b = some o→b ≠ X.env.locals:=fun b o e=>Nat.ne_of_lt (Nat.lt_of_lt_of_le (Heap.lt_size e) I.ok.above)
 have neC:∀ b o,X.s₀.heap.get? b = some o→b ∉ X.ex→b ∉ ch:=fun b o e hx hb=>by
  rcases (hch b hb).1 with z | z
  ·exact hx z
  ·exact absurd (Nat.lt_of_lt_of_le (Heap.lt_size e) z) (Nat.lt_irrefl _)
 have cellK:∀ x c,X.env.cells.lookup x = some c→∀ v,s.heap.IsCell c v→h'.IsCell c v:=fun x c e v ⟨o,ho,hd⟩=>by
  have nch:c ∉ ch:=fun z=>(hch c z).2.2.1 x c e rfl
  by_cases hc:c ∈ X.fs
  ·obtain ⟨sl,q⟩:=slot c o (I.cne x c e) hc nch ho (I.freeC x c e)
   exact ⟨_,q,hd⟩
  ·exact ⟨o,keep c o (I.cne x c e) hc nch ho (I.freeC x c e),hd⟩
 refine ⟨I.ok,I.os,hg,⟨fun b o e n hb hx=>?_,fun b o e n hb hx=>?_,fun b o e n hx=>?_,fun b o e hx=>?_,fun b xs e=>tups b xs (I.base.tups b xs e),fun b o xs e=>frzs b o xs (I.base.frzs b o xs e),fun b ps e=>?_⟩,?_,fun x c e=>?_,?_,fun x c e=>?_,fun p hp=>?_,hok,I.len⟩
 ·exact keep b o (neL b o e) hb (neC b o e hx) (I.base.keep b o e n hb hx) (I.base.free b o e n hx)
 ·obtain ⟨sl,e1⟩:=I.base.slot b o e n hb hx
  obtain ⟨sl',e2⟩:=slot b _ (neL b o e) hb (neC b o e hx) e1 (I.base.free b o e n hx)
  exact ⟨sl',e2⟩
 ·obtain ⟨o',e1⟩:=I.base.there b o e hx
  exact free b o' (neC b o e hx) e1 (I.base.free b o e n hx)
 ·obtain ⟨o',e1⟩:=I.base.there b o e hx
  exact there b o' (neC b o e hx) e1
 ·obtain ⟨m1,e1⟩:=I.base.tbls b ps e
  obtain ⟨m2,e2⟩:=tbls b _ e1
  exact ⟨m1 ++ m2,by rw [e2,Array.append_assoc]⟩
 ·obtain ⟨m,hn,hl⟩:=I.loc
  refine ⟨m,ns m hn,fun i x v e1 e2 e3=>?_⟩
  obtain ⟨u,r,l⟩:=hl i x v e1 e2 e3
  refine ⟨u,r,?_⟩
  rcases l with l | ⟨k,c,e,z⟩
  ·exact .inl l
  ·exact .inr ⟨k,c,e,cellK x c e _ z⟩
 ·obtain ⟨v,z⟩:=I.cell x c e
  exact ⟨v,cellK x c e v z⟩
 ·obtain ⟨m,⟨o,_,_,ho,_⟩,_⟩:=I.loc
  exact free _ o (fun z=>(hch _ z).2.1 rfl) ho I.free
 ·obtain ⟨v,o,ho,hd⟩:=I.cell x c e
  exact free c o (fun z=>(hch c z).2.2.1 x c e rfl) ho (I.freeC x c e)
 ·obtain ⟨e,n,ne,nf,d⟩:=I.pin p hp
  have nch:p.1 ∉ ch:=fun z=>(hch p.1 z).2.2.2 p hp rfl
  exact ⟨keep p.1 p.2 ne nf nch e n,free p.1 p.2 nch e n,ne,nf,d⟩
theorem Inv.un {t':Nat} (I:Inv X pins σ H s) (u:Un X.fs [] H H' s.heap h') (hok:HOk X.prog X.w H' h'):Inv X pins σ H' { s with heap:=h',toks:=t' }:=by
 obtain ⟨m,⟨o,es,ep,ho,r⟩,_⟩:=id I.loc
 obtain ⟨sl,hL⟩:=u.any ho I.free (by simp)
 exact I.step (g':=s.gens) (d':=s.drawn) (ch:=[]) (fun _ z=>nomatch z) (fun b o _ hb _ e n=>u.keep b o e n hb (by simp)) (fun b o _ hb _ e n=>u.slot b o e n hb (by simp)) (fun b o _ e n=>u.free b o e n (by simp)) (fun b o _ e=>u.there b o e (by simp)) u.tups u.frzs u.tbls (fun m' hm=>by
  obtain ⟨o',es',ep',ho',r'⟩:=hm
  rw [ho] at ho'; cases ho'
  exact ⟨_,es',ep',hL,r'⟩) hok I.bare
theorem Inv.call {g':Array GenState} {t':Nat} {d':Drawn} {ch:List Addr} (I:Inv X pins σ H s) (u:Un (frs X.stack) ch H H' s.heap h') (hok:HOk X.prog X.w H' h') (hg:AllBare g')
  (hch:∀ b ∈ ch,(b ∈ X.ex ∨ X.s₀.heap.objs.size ≤ b)∧b ≠ X.env.locals∧(∀ x c,X.env.cells.lookup x = some c→c ≠ b)∧∀ p ∈ X.pn ++ pins,p.1 ≠ b) :
  Inv X pins σ H' { s with heap:=h',gens:=g',drawn:=d',toks:=t' }:=by
 obtain ⟨m,⟨o,es,ep,ho,r⟩,_⟩:=id I.loc
 obtain ⟨sl,hL⟩:=u.any ho I.free fun z=>(hch _ z).2.1 rfl
 exact I.step (ch:=ch) hch (fun b o hL hb hc e n=>u.keep b o e n (fun z=>(List.mem_cons.mp (I.stkSub b z)).elim hL hb) hc) (fun b o _ _ hc e n=>u.any e n hc) (fun b o hc e n=>u.free b o e n hc) (fun b o hc e=>u.there b o e hc) u.tups u.frzs u.tbls (fun m' hm=>by
  obtain ⟨o',es',ep',ho',r'⟩:=hm
  rw [ho] at ho'; cases ho'
  exact ⟨_,es',ep',hL,r'⟩) hok hg
theorem Inv.turned {t':Nat} {it:Addr} (I:Inv X pins σ H s) (k:∀ b o,b ≠ it→s.heap.get? b = some o→h'.get? b = some o) (hn:H it = none) (hL:it ≠ X.env.locals)
  (h1:it ∈ X.ex ∨ X.s₀.heap.objs.size ≤ it) (h2:∀ x c,X.env.cells.lookup x = some c→c ≠ it) (h3:∀ p ∈ X.pn ++ pins,p.1 ≠ it):Inv X pins σ H { s with heap:=h',toks:=t' }:=by
 have nit:∀ b u,H b = some u→b ≠ it:=fun b u e z=>by rw [z,hn] at e; cases e
 refine I.step (g':=s.gens) (d':=s.drawn) (ch:=[it]) (fun b hb=>?_) (fun b o _ _ hc e _=>k b o (fun z=>hc (by simp [z])) e) (fun b o _ _ hc e _=>⟨o.slots,k b o (fun z=>hc (by simp [z])) e⟩) (fun _ _ _ _ n=>n)
  (fun b o hc e=>⟨o,k b o (fun z=>hc (by simp [z])) e⟩) (fun _ _ e=>e) (fun _ _ _ e=>e) (fun b ps e=>⟨#[],by rw [e]; simp⟩) (fun m hm=>?_) (fun b u e=>?_) I.bare
 ·have e:b = it:=by simpa using hb
  subst e
  exact ⟨h1,hL,h2,h3⟩
 ·obtain ⟨o,es,ep,ho,r⟩:=hm
  exact ⟨o,es,ep,k _ o (Ne.symm hL) ho,r⟩
 ·refine (I.hok b u e).stay (fun c v hc q=>k c v ?_ q) (fun _ q=>q) fun _ _ q=>q
  rcases hc with z | z
  ·rw [z]; exact nit b u e
  ·exact nit c _ z
theorem Inv.tok (I:Inv X pins σ H s) (t:Nat):Inv X pins σ H { s with toks:=t }:=I.un (h':=s.heap) (t':=t) Un.refl I.hok
theorem Inv.kept {t':Nat} (I:Inv X pins σ H s) (k:∀ b u,s.heap.get? b = some u→h'.get? b = some u):Inv X pins σ H { s with heap:=h',toks:=t' }:=I.un (Un.kept k) (I.hok.kept k)
theorem Inv.laid {a:Addr} {o:HO} {t':Nat} (I:Inv X pins σ H s) (k:∀ b u,s.heap.get? b = some u→h'.get? b = some u) (hp:s.heap.objs.size ≤ a) (new:ObjOk X.prog X.w (upd H a o) h' a o) :
  Inv X pins σ (upd H a o) { s with heap:=h',toks:=t' }:=I.un (Un.laid k hp (I.hok.fresh hp)) (I.hok.laid k hp new)
theorem Inv.write {x e:Addr} {o:HO} {t':Nat} (I:Inv X pins σ H s) (mu:Mut (H x)) (he:e = x ∨ H e = some (.own x)) (k:∀ b u,b ≠ e→s.heap.get? b = some u→h'.get? b = some u) (heo:∃ u,h'.get? e = some u)
  (new:ObjOk X.prog X.w (upd H x o) h' x o):Inv X pins σ (upd H x o) { s with heap:=h',toks:=t' }:=I.un (Un.write mu he k heo) (I.hok.write mu he k heo new)
theorem Inv.weak {σ':List (Option V)} (I:Inv X pins σ H s) (hl:σ'.length = σ.length) (w:∀ (i:Nat) v,σ'[i]? = some (some v)→σ[i]? = some (some v)):Inv X pins σ' H s:=
 ⟨I.ok,I.os,I.bare,I.base,let ⟨m,hn,hl'⟩:=I.loc; ⟨m,hn,fun i x v e1 e2 e3=>hl' i x v e1 (w i v e2) e3⟩,I.cell,I.free,I.freeC,I.pin,I.hok,hl.trans I.len⟩
theorem Inv.pins_of {pins':List (Addr × Obj)} (I:Inv X pins σ H s) (h:∀ p ∈ pins',s.heap.get? p.1 = some p.2∧H p.1 = none∧p.1 ≠ X.env.locals∧p.1 ∉ X.fs∧∀ v,p.2.data ≠ .cell v):Inv X pins' σ H s:=
 ⟨I.ok,I.os,I.bare,I.base,I.loc,I.cell,I.free,I.freeC,fun p hp=>(List.mem_append.mp hp).elim (fun z=>I.pin p (List.mem_append_left _ z)) (h p),I.hok,I.len⟩
theorem nodup_ix {N:List Str} (hN:N.Nodup) {i j:Nat} {x:Str} (a:N[i]? = some x) (b:N[j]? = some x):i = j:=by
 obtain ⟨h1,e1⟩:=List.getElem?_eq_some_iff.mp a
 obtain ⟨h2,e2⟩:=List.getElem?_eq_some_iff.mp b
 exact (List.getElem_inj hN).mp (e1.trans e2.symm)
theorem store_ok2 {M : Model} {A : Around} {E : Value → Shared → Prop} {i : Nat} {x : Str} {v : V} {u : Value} {Q : Unit → Shared → Prop} (I : Inv X pins σ H s) (hN : X.N.Nodup) (hi : X.N[i]? = some x) (hx : Loc X.env.scope x) (r : RelV v u)
  (h : ∀ s', Inv X pins (σ.set i (some v)) H s' → (∃ a, Heap.SameBut a s.heap s'.heap ∧ (a = X.env.locals ∨ X.env.cells.lookup x = some a)) → Q () s') (hf : X.fn x = true ∨ X.env.scope.names.lookup x = some .local := by first | exact .inl rfl | exact .inr rfl | assumption) : wpAny M A (storeName X.env x u) Q E s := by
 obtain ⟨m, hn, hl⟩ := id I.loc
 have hcls : (X.env.scope.kind == .class || (X.env.scope.kind == .module && X.env.locals != X.env.globals)) = false := by rw [I.ok.kind]; rfl
 have hiσ : i < σ.length := by rw [I.len]; exact (List.getElem?_eq_some_iff.mp hi).1
 have cne := I.cne
 have tracked : ∀ {a : Addr} {h' : Heap}, (∃ o, s.heap.get? a = some o ∧ H a = none) → Heap.SameBut a s.heap h' → HOk X.prog X.w H h' := fun {a h'} ha hs b ob e => by
  obtain ⟨_, _, hfree⟩ := ha
  refine (I.hok b ob e).stay (fun c w' hc q => (hs.2 c ?_).trans q) (fun _ q => q) fun _ _ q => q
  rintro rfl
  rcases hc with rfl | hc
  ·rw [hfree] at e; cases e
  ·rw [hfree] at hc; cases hc
 rcases hx with hk | hk
 ·refine wpAny_storeName_local hk hn (fun h' hn' hs => ?_) hcls
  obtain ⟨oL, _, _, hoL, _⟩ := id hn
  refine h _ ⟨I.ok, I.os, I.bare, ⟨fun b o e n hb hx => ?_, fun b o e n hb hx => ?_, I.base.free, fun b o e hx => ?_, I.base.tups, I.base.frzs, I.base.tbls⟩, ⟨_, hn', fun j y v' e1 e2 e3 => ?_⟩, fun y c e => ?_, I.free, I.freeC, fun p hp => ?_, tracked ⟨oL, hoL, I.free⟩ hs, by simpa using I.len⟩ ⟨_, hs, .inl rfl⟩
  ·exact (hs.2 b (Nat.ne_of_lt (Nat.lt_of_lt_of_le (Heap.lt_size e) I.ok.above))).trans (I.base.keep b o e n hb hx)
  ·obtain ⟨sl, e1⟩ := I.base.slot b o e n hb hx
   exact ⟨sl, (hs.2 b (Nat.ne_of_lt (Nat.lt_of_lt_of_le (Heap.lt_size e) I.ok.above))).trans e1⟩
  ·obtain ⟨o', e1⟩ := I.base.there b o e hx
   exact ⟨o', (hs.2 b (Nat.ne_of_lt (Nat.lt_of_lt_of_le (Heap.lt_size e) I.ok.above))).trans e1⟩
  ·by_cases hj : j = i
   ·subst hj
    rw [hi] at e1; cases e1
    rw [List.getElem?_set_self hiσ] at e2
    cases e2
    exact ⟨u, r, .inl ⟨hk, by simp⟩⟩
   ·rw [List.getElem?_set_ne (Ne.symm hj)] at e2
    obtain ⟨u', r', q⟩ := hl j y v' e1 e2 e3
    refine ⟨u', r', ?_⟩
    rcases q with ⟨k, e⟩ | ⟨k, c, e, z⟩
    ·refine .inl ⟨k, ?_⟩
     have : y ≠ x := fun e => hj (nodup_ix hN e1 (e ▸ hi))
     simp [this, e]
    ·exact .inr ⟨k, c, e, z.sameBut hs (cne y c e)⟩
  ·obtain ⟨w', z⟩ := I.cell y c e
   exact ⟨w', z.sameBut hs (cne y c e)⟩
  ·obtain ⟨e, n, ne, nf, d⟩ := I.pin p hp
   exact ⟨(hs.2 p.1 ne).trans e, n, ne, nf, d⟩
 ·have hfn : X.fn x = true := by
   rcases hf with z | z
   ·exact z
   ·rw [z] at hk; cases hk
  obtain ⟨c, hc⟩ := I.ok.has x (.inl hk)
  obtain ⟨w', z⟩ := I.cell x c hc
  refine wpAny_storeName_cell I.ok.kind hk hc z (fun h' hc' hs => ?_)
  obtain ⟨oc, hoc, hocd⟩ := id z
  refine h { s with heap := h' } ⟨I.ok, I.os, I.bare, ⟨fun b o e n hb hx => ?_, fun b o e n hb hx => ?_, I.base.free, fun b o e hx => ?_, I.base.tups, I.base.frzs, I.base.tbls⟩, ⟨m, hn.sameBut hs (Ne.symm (cne x c hc)), fun j y v' e1 e2 e3 => ?_⟩, fun y c' e => ?_, I.free, I.freeC, fun p hp => ?_, tracked ⟨oc, hoc, I.freeC x c hc⟩ hs, by simpa using I.len⟩ ⟨c, hs, .inr hc⟩
  ·exact (hs.2 b (Nat.ne_of_lt (Nat.lt_of_lt_of_le (Heap.lt_size e) (I.ok.cab x c hfn hc)))).trans (I.base.keep b o e n hb hx)
  ·obtain ⟨sl, e1⟩ := I.base.slot b o e n hb hx
   exact ⟨sl, (hs.2 b (Nat.ne_of_lt (Nat.lt_of_lt_of_le (Heap.lt_size e) (I.ok.cab x c hfn hc)))).trans e1⟩
  ·obtain ⟨o', e1⟩ := I.base.there b o e hx
   exact ⟨o', (hs.2 b (Nat.ne_of_lt (Nat.lt_of_lt_of_le (Heap.lt_size e) (I.ok.cab x c hfn hc)))).trans e1⟩
  ·by_cases hj : j = i
   ·subst hj
    rw [hi] at e1; cases e1
    rw [List.getElem?_set_self hiσ] at e2
    cases e2
    exact ⟨u, r, .inr ⟨.inl hk, c, hc, hc'⟩⟩
   ·rw [List.getElem?_set_ne (Ne.symm hj)] at e2
    obtain ⟨u', r', q⟩ := hl j y v' e1 e2 e3
    refine ⟨u', r', ?_⟩
    rcases q with q | ⟨k, c', e, z'⟩
    ·exact .inl q
    ·refine .inr ⟨k, c', e, z'.sameBut hs ?_⟩
     rintro rfl
     exact hj (nodup_ix hN e1 (I.ok.inj _ _ _ e hc ▸ hi))
  ·by_cases hcc : c' = c
   ·subst hcc; exact ⟨_, hc'⟩
   ·obtain ⟨w2, z2⟩ := I.cell y c' e
    exact ⟨w2, z2.sameBut hs hcc⟩
  ·obtain ⟨e, n, ne, nf, d⟩ := I.pin p hp
   refine ⟨(hs.2 p.1 ?_).trans e, n, ne, nf, d⟩
   intro q
   rw [q, hoc] at e
   have q' : oc = p.2 := Option.some.inj e
   exact d w' (by rw [← q']; exact hocd)
theorem store_ok {M:Model} {A:Around} {E:Value→Shared→Prop} {i:Nat} {x:Str} {v:V} {u:Value} {Q:Unit→Shared→Prop} (I:Inv X pins σ H s) (hN:X.N.Nodup) (hi:X.N[i]? = some x) (hx:Loc X.env.scope x) (r:RelV v u)
  (h:∀ s',Inv X pins (σ.set i (some v)) H s'→Q () s') (hf:X.fn x = true ∨ X.env.scope.names.lookup x = some .local:=by first | exact .inl rfl | exact .inr rfl | assumption):wpAny M A (storeName X.env x u) Q E s:=
 store_ok2 I hN hi hx r (fun s' I' _=>h s' I') hf
theorem Inv.call' {s':Shared} {ch:List Addr} (I:Inv X pins σ H s) (ho:s'.os = s.os) (u:Un (frs X.stack) ch H H' s.heap s'.heap) (hok:HOk X.prog X.w H' s'.heap) (hg:AllBare s'.gens)
  (hch:∀ b ∈ ch,(b ∈ X.ex ∨ X.s₀.heap.objs.size ≤ b)∧b ≠ X.env.locals∧(∀ x c,X.env.cells.lookup x = some c→c ≠ b)∧∀ p ∈ X.pn ++ pins,p.1 ≠ b):Inv X pins σ H' s':=by
 obtain ⟨h',g',d',t',o'⟩:=s'
 have e:o' = s.os:=ho
 subst e
 exact I.call (g':=g') (t':=t') (d':=d') u hok hg hch
end
noncomputable abbrev XK:=Value→Option Addr→Hp→Prop
noncomputable abbrev St:=List (Option V)
noncomputable abbrev VK:=V→Hp→Prop
noncomputable abbrev TE:=St→Hp→VK→Prop
noncomputable abbrev TT:=St→Hp→(Bool→Hp→Prop)→Prop
noncomputable abbrev TA:=St→Hp→(List V→Hp→Prop)→Prop
structure Ends where
 nx:St→Hp→Prop
 rt:VK
 bk:St→Hp→Prop:=fun _ _=>False
 ct:St→Hp→Prop:=fun _ _=>False
noncomputable abbrev TS:=Ends→St→Hp→Prop
noncomputable def EP (X:Cx) (pins:List (Addr × Obj)) (σ:St) (Q:VK) (u:Value) (s':Shared):Prop:=∃ v H',Inv X pins σ H' s'∧RelV v u∧Q v H'
noncomputable def TP (X:Cx) (pins:List (Addr × Obj)) (σ:St) (Q:Bool→Hp→Prop) (b:Bool) (s':Shared):Prop:=∃ H',Inv X pins σ H' s'∧Q b H'
noncomputable def AP (X:Cx) (pins:List (Addr × Obj)) (σ:St) (Q:List V→Hp→Prop) (us:List Value) (s':Shared):Prop:=∃ vs H',Inv X pins σ H' s'∧Vals vs us∧Q vs H'
noncomputable def SP (X:Cx) (pins:List (Addr × Obj)) (D:Ends) (f:Flow) (s':Shared):Prop:=
 match f with
 | .next=>∃ σ' H',Inv X pins σ' H' s'∧D.nx σ' H'
 | .brk=>∃ σ' H',Inv X pins σ' H' s'∧D.bk σ' H'
 | .cont=>∃ σ' H',Inv X pins σ' H' s'∧D.ct σ' H'
 | .ret u=>∃ v σ' H',Inv X pins σ' H' s'∧RelV v u∧D.rt v H'
noncomputable def PE (X:Cx) (e:Expr) (t:TE):Prop:=
 ∀ (pins:List (Addr × Obj)) (s:Shared) (σ:St) (H:Hp) (Q:VK),Inv X pins σ H s→t σ H Q→wpAny (model X.prog X.w) X.A (eval e X.env) (EP X pins σ Q) X.xe s
noncomputable def PT (X:Cx) (e:Expr) (t:TT):Prop:=
 ∀ (pins:List (Addr × Obj)) (s:Shared) (σ:St) (H:Hp) (Q:Bool→Hp→Prop),Inv X pins σ H s→t σ H Q→wpAny (model X.prog X.w) X.A (isTrue e X.env (eval e X.env)) (TP X pins σ Q) X.xe s
noncomputable def PW (X:Cx) (e:Expr) (t:TT):Prop:=
 ∀ (whole:Sem Value) (pins:List (Addr × Obj)) (s:Shared) (σ:St) (H:Hp) (Q:Bool→Hp→Prop),Inv X pins σ H s→t σ H Q→wpAny (model X.prog X.w) X.A (isTrue e X.env whole) (TP X pins σ Q) X.xe s
theorem PW.pt {X:Cx} {e:Expr} {t:TT} (h:PW X e t):PT X e t:=h _
noncomputable def PA (X:Cx) (es:List Expr) (t:TA):Prop:=
 ∀ (pos:Pos) (pins:List (Addr × Obj)) (s:Shared) (σ:St) (H:Hp) (Q:List V→Hp→Prop),Inv X pins σ H s→t σ H Q→wpAny (model X.prog X.w) X.A (spliced (backTo pos (starEach es X.env))) (AP X pins σ Q) X.xe s
noncomputable def PS (X:Cx) (st:Stmt) (t:TS):Prop:=
 ∀ (pins:List (Addr × Obj)) (s:Shared) (σ:St) (H:Hp) (D:Ends),Inv X pins σ H s→t D σ H→wpAny (model X.prog X.w) X.A (exec st X.env) (SP X pins D) X.xe s
noncomputable def PSs (X:Cx) (st:List Stmt) (t:TS):Prop:=
 ∀ (pins:List (Addr × Obj)) (s:Shared) (σ:St) (H:Hp) (D:Ends),Inv X pins σ H s→t D σ H→wpAny (model X.prog X.w) X.A (execs st X.env) (SP X pins D) X.xe s
theorem thn {α:Type} {t:Sem α} {Q Q':α→Shared→Prop} {M:Model} {A:Around} {E:Value→Shared→Prop} {s:Shared} (h:wpAny M A t Q E s) (hQ:∀ a s,Q a s→Q' a s):wpAny M A t Q' E s:=wpAny_mono h hQ fun _ _ x=>x
section
variable {X:Cx}
noncomputable def tVar (i:Nat):TE:=fun σ H Q=>∃ v,σ[i]? = some (some v)∧Q v H
noncomputable def tC (v:V):TE:=fun _ H Q=>Q v H
theorem pe_var {i:Nat} {x:Str} {pos:Pos} (hN:X.N[i]? = some x) (hv:Vis X.env.scope x) (hd:(x == ("__debug__":Str)) = false:=by decide) (hcd:(x == ("__classdict__":Str)) = false:=by decide):PE X (.Name x pos) (tVar i):=by
 intro pins s σ H Q I h
 obtain ⟨v,e,h⟩:=h
 obtain ⟨m,hn,hl⟩:=I.loc
 obtain ⟨u,r,l⟩:=hl i x v hN e hv
 have fin:EP X pins σ Q u s:=⟨v,H,I,r,h⟩
 rcases l with ⟨hk,hm⟩ | ⟨hk,c,hc,hcell⟩
 ·exact wpAny_Name (wpAny_loadName_local I.ok.kind hk hn hm fin) hd
 ·rcases hk with hk | hk
  ·exact wpAny_Name (wpAny_loadName_cell I.ok.kind hk hc hcell fin) hd
  ·exact wpAny_Name (wpAny_loadName_free I.ok.kind hk hc hcell fin hcd) hd
theorem pe_int {i j pos}:PE X (.Constant (.int i) j pos) (tC (.int i)):=fun _ _ _ H _ I h=>wpAny_Constant_int ⟨.int i,H,I.tok _,⟨_,rfl⟩,h⟩
theorem pe_bl {b j pos}:PE X (.Constant (.bool b) j pos) (tC (.bl b)):=fun _ _ _ H _ I h=>Constant_bool ⟨.bl b,H,I,rfl,h⟩
theorem pe_non {j pos}:PE X (.Constant .none j pos) (tC .non):=fun _ _ _ H _ I h=>Constant_none ⟨.non,H,I,rfl,h⟩
theorem pe_str {x j pos}:PE X (.Constant (.str x) j pos) (tC (.str x)):=fun _ _ _ H _ I h=>Calls.Constant_str ⟨.str x,H,I.tok _,⟨_,rfl⟩,h⟩
noncomputable def Gl (X:Cx) (x:Str):Prop:=X.env.kindOf x = some .globalImplicit
theorem ld_glob {E:Value→Shared→Prop} {pins:List (Addr × Obj)} {s:Shared} {σ:St} {H:Hp} {x:Str} {u:Value} {pos:Pos} {Q:Value→Shared→Prop} (I:Inv X pins σ H s) (hg:Gl X x) (hm:X.mg x = some u) (h:Q u s)
  (hd:(x == ("__debug__":Str)) = false:=by decide):wpAny (model X.prog X.w) X.A (eval (.Name x pos) X.env) Q E s:=
 Calls.Name_function_global I.ok.kind hg (Calls.loadGlobal_global (by rw [I.ok.glob]; exact I.mod.glob.keeps I.bk) hm h) hd
theorem ld_blt {E:Value→Shared→Prop} {pins:List (Addr × Obj)} {s:Shared} {σ:St} {H:Hp} {x:Str} {u:Value} {pos:Pos} {Q:Value→Shared→Prop} (I:Inv X pins σ H s) (hg:Gl X x) (hm:X.mg x = none) (hv:bootBuiltins x = some u) (h:Q u s)
  (hn:x ≠ "__name__":=by decide) (hd:(x == ("__debug__":Str)) = false:=by decide):wpAny (model X.prog X.w) X.A (eval (.Name x pos) X.env) Q E s:=by
 obtain ⟨mb,h1,h2⟩:=I.mod.blt
 exact Calls.Name_function_global I.ok.kind hg (Calls.loadGlobal_builtin (by rw [I.ok.glob]; exact I.mod.glob.keeps I.bk) hm (by rw [I.ok.blt]; exact h1.keeps I.bk) ((h2 x hn).trans hv) h) hd
theorem pe_glob {x:Str} {v:V} {u:Value} {pos:Pos} (hg:Gl X x) (hm:X.mg x = some u) (r:RelV v u) (hd:(x == ("__debug__":Str)) = false:=by decide):PE X (.Name x pos) (tC v):=
 fun _ _ _ H _ I h=>ld_glob I hg hm ⟨v,H,I,r,h⟩ hd
theorem pe_bltn {x:Str} {v:V} {u:Value} {pos:Pos} (hg:Gl X x) (hm:X.mg x = none) (hv:bootBuiltins x = some u) (r:RelV v u) (hn:x ≠ "__name__":=by decide) (hd:(x == ("__debug__":Str)) = false:=by decide):PE X (.Name x pos) (tC v):=
 fun _ _ _ H _ I h=>ld_blt I hg hm hv ⟨v,H,I,r,h⟩ hn hd
variable {a b:Expr} {ta tb:TE} {pos:Pos}
noncomputable def tB (t:TE):TT:=fun σ H Q=>t σ H fun x H1=>∃ c,x = .bl c∧Q c H1
theorem pt_val {e:Expr} {t:TE} (h:PE X e t) (he:∀ whole,isTrue e X.env whole = (do let v ← whole; standAt e.pos; holding [v] (truthy v)):=by intro _; rfl):PT X e (tB t):=by
 intro pins s σ H Q I hw
 refine isTrue_plain (thn (h pins s σ H _ I hw) fun v s1 ⟨x,H1,I1,r1,q1⟩=>?_) (he _)
 obtain ⟨d,rfl,q⟩:=q1
 cases r1
 exact wpAny_truthy_bool ⟨H1,I1,q⟩
variable {tA tB':TT} {rest:List Expr}
noncomputable def tAnd (t u:TT):TT:=fun σ H Q=>t σ H fun c H1=>if c = true then u σ H1 Q else Q false H1
noncomputable def tOr (t u:TT):TT:=fun σ H Q=>t σ H fun c H1=>if c = true then Q true H1 else u σ H1 Q
noncomputable def tNot (t:TT):TT:=fun σ H Q=>t σ H fun c H1=>Q (!c) H1
theorem pw_and1 (ha:PT X a tA):PW X (.BoolOp .And [a] pos) tA:=by
 intro wh pins s σ H Q I h
 refine isTrue_and (thn (ha pins s σ H Q I h) fun c s1 e=>?_)
 cases c with
 | true=>exact isTrue_and_nil e
 | false=>exact e
theorem pw_or1 (ha:PT X a tA):PW X (.BoolOp .Or [a] pos) tA:=by
 intro wh pins s σ H Q I h
 refine isTrue_or (thn (ha pins s σ H Q I h) fun c s1 e=>?_)
 cases c with
 | false=>exact isTrue_or_nil e
 | true=>exact e
theorem pw_and (ha:PT X a tA) (hb:PW X (.BoolOp .And (b :: rest) pos) tB'):PW X (.BoolOp .And (a :: b :: rest) pos) (tAnd tA tB'):=by
 intro wh pins s σ H Q I h
 refine isTrue_and (thn (ha pins s σ H _ I h) fun c s1 ⟨H1,I1,q1⟩=>?_)
 cases c with
 | true=>exact hb wh pins s1 σ H1 Q I1 q1
 | false=>exact ⟨H1,I1,q1⟩
theorem pw_or (ha:PT X a tA) (hb:PW X (.BoolOp .Or (b :: rest) pos) tB'):PW X (.BoolOp .Or (a :: b :: rest) pos) (tOr tA tB'):=by
 intro wh pins s σ H Q I h
 refine isTrue_or (thn (ha pins s σ H _ I h) fun c s1 ⟨H1,I1,q1⟩=>?_)
 cases c with
 | true=>exact ⟨H1,I1,q1⟩
 | false=>exact hb wh pins s1 σ H1 Q I1 q1
theorem pt_not (ha:PT X a tA):PT X (.UnaryOp .Not a pos) (tNot tA):=by
 intro pins s σ H Q I h
 exact isTrue_not (ha pins s σ H (fun c H1=>Q (!c) H1) I h)
noncomputable def tNotV (ta:TE):TE:=fun σ H Q=>ta σ H fun x H1=>∃ c,x = .bl c∧Q (.bl (!c)) H1
theorem pe_not (ha:PE X a ta):PE X (.UnaryOp .Not a pos) (tNotV ta):=by
 intro pins s σ H Q I h
 refine UnaryOp_ (thn (ha pins s σ H _ I h) fun v s1 ⟨x,H1,I1,r1,q1⟩=>?_)
 obtain ⟨c,rfl,q1⟩:=q1
 cases r1
 exact not_of (wpAny_truthy_bool ⟨.bl (!c),H1,I1,rfl,q1⟩)
noncomputable def tIf (t:TT) (ta tb:TE):TE:=fun σ H Q=>t σ H fun c H1=>if c = true then ta σ H1 Q else tb σ H1 Q
theorem pe_ifExp {c:Expr} (hc:PT X c tA) (ha:PE X a ta) (hb:PE X b tb):PE X (.IfExp c a b pos) (tIf tA ta tb):=by
 intro pins s σ H Q I h
 refine wpAny_IfExp (thn (hc pins s σ H _ I h) fun d s1 ⟨H1,I1,q1⟩=>?_)
 cases d with
 | true=>exact ha pins s1 σ H1 Q I1 q1
 | false=>exact hb pins s1 σ H1 Q I1 q1
end
noncomputable def SqL (K:PySem.W.Frag) (H:Hp) (a:Addr) (xs:List V):Prop:=
 Rd H a (.lst xs) ∨
  ∃ (o:Obj) (its:Array Value) (n:Nat),K.lookup a = some o∧o.cls = .type "list"∧o.dict = none∧o.data = .seq its n∧its.size ≤ sizeLine∧Vals xs its.toList
noncomputable def SqT (K:PySem.W.Frag) (H:Hp) (a:Addr) (xs:List V):Prop:=
 Rd H a (.tup xs) ∨
  ∃ (o:Obj) (its:Array Value) (n:Nat),K.lookup a = some o∧o.cls = .type "tuple"∧o.dict = none∧o.data = .seq its n∧its.size ≤ sizeLine∧Vals xs its.toList
noncomputable def absV:Value→Option V
 | .none=>some .non
 | .bool b=>some (.bl b)
 | .int i _=>some (.int i)
 | .str x _=>some (.str x)
 | .bytes b _=>some (.byt b)
 | .float b _=>some (.flt b)
 | .ref a=>some (.ref a)
 | .type n=>some (.ty n)
 | _=>none
theorem RelV.abs {x:V} {u:Value} (r:RelV x u):absV u = some x:=by
 cases x with
 | non=>cases r; rfl
 | bl _=>cases r; rfl
 | int _=>obtain ⟨t,rfl⟩:=r; rfl
 | str _=>obtain ⟨t,rfl⟩:=r; rfl
 | byt _=>obtain ⟨t,rfl⟩:=r; rfl
 | flt _=>obtain ⟨t,rfl⟩:=r; rfl
 | ref _=>cases r; rfl
 | ty _=>cases r; rfl
theorem RelV.inj {x y:V} {u:Value} (r:RelV x u) (q:RelV y u):x = y:=Option.some.inj (r.abs.symm.trans q.abs)
theorem Vals.inj:∀ {xs ys:List V} {us:List Value},Vals xs us→Vals ys us→xs = ys
 | _,_,_,.nil,.nil=>rfl
 | _,_,_,.cons r t,.cons r' t'=>by rw [r.inj r',Vals.inj t t']
section
variable {X:Cx} {pins:List (Addr × Obj)} {σ:St} {H:Hp} {s:Shared} {a:Addr} {xs ys:List V}
theorem SqL.of {K:PySem.W.Frag} (h:H a = some (.lst xs)):SqL K H a xs:=.inl (.inl h)
theorem SqT.of {K:PySem.W.Frag} (h:H a = some (.tup xs)):SqT K H a xs:=.inl (.inl h)
theorem Inv.list (I:Inv X pins σ H s) (h:SqL X.K H a xs):∃ its:List Value,Vals xs its∧PlainL s.heap a its.toArray∧xs.length ≤ sizeLine:=by
 rcases h with h | ⟨o,its,n,hk,hc,hd,hs,hz,r⟩
 ·obtain ⟨z,its,n,r,e⟩:=h.ok I.hok
  exact ⟨its,r,⟨_,n,e,rfl,rfl,rfl⟩,z⟩
 ·refine ⟨its.toList,r,⟨o,n,I.kIn a o hk,hc,hd,by simpa using hs⟩,?_⟩
  have e:=r.length
  simp only [Array.length_toList] at e
  omega
theorem Inv.tuple (I:Inv X pins σ H s) (h:SqT X.K H a xs):∃ its:List Value,Vals xs its∧IsTup s.heap a its.toArray∧xs.length ≤ sizeLine:=by
 rcases h with h | ⟨o,its,n,hk,hc,_,hs,hz,r⟩
 ·obtain ⟨z,its,r,p⟩:=h.ok I.hok
  exact ⟨its,r,p.tup,z⟩
 ·refine ⟨its.toList,r,⟨o,I.kIn a o hk,hc,n,by simpa using hs⟩,?_⟩
  have e:=r.length
  simp only [Array.length_toList] at e
  omega
theorem Inv.list_inj (I:Inv X pins σ H s) (h:SqL X.K H a xs) (h':SqL X.K H a ys):xs = ys:=by
 obtain ⟨its,r,⟨o,n,e,_,_,d⟩,_⟩:=I.list h
 obtain ⟨its',r',⟨o',n',e',_,_,d'⟩,_⟩:=I.list h'
 rw [e] at e'; cases e'
 rw [d] at d'
 injection d' with d1 _
 have:its = its':=by simpa using congrArg Array.toList d1
 subst this
 exact r.inj r'
theorem Inv.tuple_inj (I:Inv X pins σ H s) (h:SqT X.K H a xs) (h':SqT X.K H a ys):xs = ys:=by
 obtain ⟨its,r,⟨o,e,_,n,d⟩,_⟩:=I.tuple h
 obtain ⟨its',r',⟨o',e',_,n',d'⟩,_⟩:=I.tuple h'
 rw [e] at e'; cases e'
 rw [d] at d'
 injection d' with d1 _
 have:its = its':=by simpa using congrArg Array.toList d1
 subst this
 exact r.inj r'
end
noncomputable abbrev Cx.wish (X:Cx) (E:Value→Shared→Prop):Cx:={ X with xe:=E }
noncomputable abbrev Cx.nox (X:Cx):Cx:=X.wish fun _ _=>False
theorem Cx.Ok.wish {X:Cx} (ok:X.Ok) (E:Value→Shared→Prop):(X.wish E).Ok:=
 ⟨ok.mod,ok.kind,ok.glob,ok.blt,ok.above,ok.inj,ok.has,ok.cab,ok.hd,ok.frames,ok.stk,ok.exf,ok.bs,ok.bsz,ok.noex,ok.exfs,ok.funs,ok.frf⟩
theorem Cx.Ok.unwish {X:Cx} {E:Value→Shared→Prop} (ok:(X.wish E).Ok):X.Ok:=
 ⟨ok.mod,ok.kind,ok.glob,ok.blt,ok.above,ok.inj,ok.has,ok.cab,ok.hd,ok.frames,ok.stk,ok.exf,ok.bs,ok.bsz,ok.noex,ok.exfs,ok.funs,ok.frf⟩
section
variable {X:Cx} {pins:List (Addr × Obj)} {σ:St} {H:Hp} {s:Shared} {E:Value→Shared→Prop}
theorem Inv.wish (I:Inv X pins σ H s) (E:Value→Shared→Prop):Inv (X.wish E) pins σ H s:=⟨I.ok.wish E,I.os,I.bare,I.base,I.loc,I.cell,I.free,I.freeC,I.pin,I.hok,I.len⟩
theorem Inv.unwish (I:Inv (X.wish E) pins σ H s):Inv X pins σ H s:=⟨I.ok.unwish,I.os,I.bare,I.base,I.loc,I.cell,I.free,I.freeC,I.pin,I.hok,I.len⟩
theorem SP.unwish {D:Ends} {f:Flow} {s':Shared} (h:SP (X.wish E) pins D f s'):SP X pins D f s':=by
 cases f with
 | next=>obtain ⟨σ',H',I,q⟩:=h; exact ⟨σ',H',I.unwish,q⟩
 | brk=>obtain ⟨σ',H',I,q⟩:=h; exact ⟨σ',H',I.unwish,q⟩
 | cont=>obtain ⟨σ',H',I,q⟩:=h; exact ⟨σ',H',I.unwish,q⟩
 | ret u=>obtain ⟨v,σ',H',I,r,q⟩:=h; exact ⟨v,σ',H',I.unwish,r,q⟩
theorem PE.nox {e:Expr} {t:TE} (h:PE X.nox e t):PE X e t:=fun pins s σ H Q I hw=>
 wpAny_mono (h pins s σ H Q (I.wish _) hw) (fun _ _ ⟨v,H',I',r,q⟩=>⟨v,H',I'.unwish,r,q⟩) fun _ _ z=>False.elim z
theorem PT.nox {e:Expr} {t:TT} (h:PT X.nox e t):PT X e t:=fun pins s σ H Q I hw=>
 wpAny_mono (h pins s σ H Q (I.wish _) hw) (fun _ _ ⟨H',I',q⟩=>⟨H',I'.unwish,q⟩) fun _ _ z=>False.elim z
theorem PSs.nox {st:List Stmt} {t:TS} (h:PSs X.nox st t):PSs X st t:=fun pins s σ H D I hw=>
 wpAny_mono (h pins s σ H D (I.wish _) hw) (fun _ _ q=>q.unwish) fun _ _ z=>False.elim z
end
section
variable {X:Cx} {st:Stmt} {rest:List Stmt} {t u:TS} {e:Expr} {te:TE} {pos:Pos}
noncomputable def tNext:TS:=fun D σ H=>D.nx σ H
noncomputable def tSeq (t u:TS):TS:=fun D σ H=>t { D with nx:=u D } σ H
theorem pss_nil:PSs X [] tNext:=fun _ _ σ H _ I h=>wpAny_execs_nil ⟨σ,H,I,h⟩
theorem pss_cons (h1:PS X st t) (h2:PSs X rest u):PSs X (st :: rest) (tSeq t u):=by
 intro pins s σ H D I h
 refine wpAny_execs_cons (thn (h1 pins s σ H { D with nx:=u D } I h) fun f s1 q=>?_)
 cases f with
 | next=>
  obtain ⟨σ',H',I',q⟩:=q
  exact h2 pins s1 σ' H' D I' q
 | ret v=>exact q
 | brk=>exact q
 | cont=>exact q
theorem pss_one (h1:PS X st t):PSs X [st] t:=by
 intro pins s σ H D I h
 refine wpAny_execs_cons (thn (h1 pins s σ H D I h) fun f s1 q=>?_)
 cases f with
 | next=>exact wpAny_execs_nil q
 | ret v=>exact q
 | brk=>exact q
 | cont=>exact q
theorem Inv.quiet {pins:List (Addr × Obj)} {σ:St} {H:Hp} {s:Shared} (I:Inv X pins σ H s):interactive X.env = false:=by simp [interactive,I.ok.kind]
noncomputable def tDrop (te:TE):TS:=fun D σ H=>te σ H fun _ H1=>D.nx σ H1
theorem ps_expr (he:PE X e te) (hs:swapsWith e none pos.line X.env = pure false:=by rfl):PS X (.Expr e pos) (tDrop te):=by
 intro pins s σ H D I h
 exact wpAny_Expr_any (thn (he pins s σ H _ I h) fun v s1 ⟨x,H1,I1,r1,q1⟩=>⟨σ,H1,I1,q1⟩) I.quiet hs
noncomputable def tRet (te:TE):TS:=fun D σ H=>te σ H D.rt
theorem ps_ret (he:PE X e te):PS X (.Return (some e) pos) (tRet te):=by
 intro pins s σ H D I h
 exact wpAny_Return_some (thn (he pins s σ H _ I h) fun v s1 ⟨x,H1,I1,r1,q1⟩=>⟨x,σ,H1,I1,r1,q1⟩)
noncomputable def tRetN:TS:=fun D _ H=>D.rt .non H
theorem ps_retN:PS X (.Return none pos) tRetN:=fun _ _ σ H _ I h=>wpAny_Return_none ⟨.non,σ,H,I,rfl,h⟩
noncomputable def tIfS (c:TT) (t u:TS):TS:=fun D σ H=>c σ H fun b H1=>if b = true then t D σ H1 else u D σ H1
theorem ps_if {c:Expr} {a b:List Stmt} {tc:TT} (hc:PT X c tc) (ha:PSs X a t) (hb:PSs X b u):PS X (.If c a b pos) (tIfS tc t u):=by
 intro pins s σ H D I h
 refine wpAny_If (thn (hc pins s σ H _ I h) fun d s1 ⟨H1,I1,q1⟩=>?_)
 cases d with
 | true=>exact ha pins s1 σ H1 D I1 q1
 | false=>exact hb pins s1 σ H1 D I1 q1
end
noncomputable abbrev TG:=V→St→Hp→(St→Hp→Prop)→Prop
noncomputable abbrev TGs:=List V→St→Hp→(St→Hp→Prop)→Prop
noncomputable def PG (X:Cx) (target:Expr) (t:TG):Prop:=
 ∀ (pins:List (Addr × Obj)) (s:Shared) (σ:St) (H:Hp) (v:V) (u:Value) (Q:St→Hp→Prop),Inv X pins σ H s→RelV v u→t v σ H Q→
  wpAny (model X.prog X.w) X.A (assign target X.env u) (fun _ s'=>∃ σ' H',Inv X pins σ' H' s'∧Q σ' H') X.xe s
noncomputable def PGs (X:Cx) (ts:List Expr) (t:TGs):Prop:=
 ∀ (pins:List (Addr × Obj)) (s:Shared) (σ:St) (H:Hp) (vs:List V) (us:List Value) (Q:St→Hp→Prop),Inv X pins σ H s→Vals vs us→t vs σ H Q→
  wpAny (model X.prog X.w) X.A (assignInOrder ((assignEach ts X.env).map (·.2)) us) (fun _ s'=>∃ σ' H',Inv X pins σ' H' s'∧Q σ' H') X.xe s
noncomputable abbrev TSet:=V→V→V→Hp→(Hp→Prop)→Prop
noncomputable def PSet (X:Cx) (t:TSet):Prop:=
 ∀ (pins:List (Addr × Obj)) (s:Shared) (σ:St) (H:Hp) (o i v:V) (ov iv u:Value) (Q:Hp→Prop),Inv X pins σ H s→RelV o ov→RelV i iv→RelV v u→t o i v H Q→
  wpAny (model X.prog X.w) X.A (setItem ov iv u) (fun _ s'=>∃ H',Inv X pins σ H' s'∧Q H') X.xe s
section
variable {X:Cx} {pos:Pos}
noncomputable def gName (i:Nat):TG:=fun v σ H Q=>Q (σ.set i (some v)) H
theorem pg_name {i:Nat} {x:Str} (hN:X.N.Nodup) (hi:X.N[i]? = some x) (hx:Loc X.env.scope x) (hf:X.fn x = true ∨ X.env.scope.names.lookup x = some .local:=by first | exact .inl rfl | exact .inr rfl | assumption):PG X (.Name x pos) (gName i):=by
 intro pins s σ H v u Q I r h
 exact wpAny_assign_Name (store_ok I hN hi hx r (fun s' I'=>⟨_,H,I',h⟩) hf)
noncomputable def gNil:TGs:=fun vs σ H Q=>vs = []∧Q σ H
noncomputable def gCons (t:TG) (u:TGs):TGs:=fun vs σ H Q=>∃ v r,vs = v :: r∧t v σ H fun σ' H'=>u r σ' H' Q
theorem pgs_nil:PGs X [] gNil:=by
 intro pins s σ H vs us Q I r h
 obtain ⟨e,h⟩:=h
 subst e
 cases r
 exact assignInOrder_nil ⟨σ,H,I,h⟩
theorem pgs_cons {e:Expr} {es:List Expr} {t:TG} {u:TGs} (h1:PG X e t) (h2:PGs X es u)
  (hs:(assignEach (e :: es) X.env).map (·.2) = assign e X.env :: (assignEach es X.env).map (·.2):=by rfl):PGs X (e :: es) (gCons t u):=by
 intro pins s σ H vs us Q I r h
 obtain ⟨v,vr,e1,h⟩:=h
 subst e1
 cases r with
 | cons r rr=>
  rw [hs]
  refine assignInOrder_cons (thn (h1 pins s σ H _ _ _ I r h) fun _ s1 ⟨σ1,H1,I1,q1⟩=>?_)
  exact h2 pins s1 σ1 H1 _ _ Q I1 rr q1
noncomputable def gTup (K:PySem.W.Frag) (n:Nat) (t:TGs):TG:=fun v σ H Q=>∃ a xs,v = .ref a∧SqT K H a xs∧xs.length = n∧t xs σ H Q
theorem pg_tup {es:List Expr} {k:Nat} {t:TGs} {n:Nat} (hc:X.calm = true) (h:PGs X es t)
  (hn:(assignEach es X.env).length = n:=by rfl) (hst:(assignEach es X.env).findIdx? (·.1) = none:=by rfl):PG X (.Tuple es k pos) (gTup X.K n t):=by
 intro pins s σ H v u Q I r hw
 obtain ⟨a,xs,e1,hq,hl,hw⟩:=hw
 subst e1
 cases r
 obtain ⟨its,rv,ht,hz⟩:=I.tuple hq
 refine assign_Tuple_tuple (I.ok.hd hc) ht (by simp [hn,← hl,rv.length]) hst fun h' hx=>?_
 have I1:Inv X pins σ H { s with heap:=h' }:=I.kept (t':=s.toks) fun b o e=>hx b o (Nat.ne_of_lt (Heap.lt_size e)) e
 exact h pins _ σ H xs _ Q I1 (by simpa using rv) hw
noncomputable def gSub (to ti:TE) (t:TSet):TG:=fun v σ H Q=>to σ H fun o H1=>ti σ H1 fun i H2=>t o i v H2 fun H3=>Q σ H3
theorem pg_sub {o i:Expr} {to ti:TE} {t:TSet} (ho:PE X o to) (hi:PE X i ti) (hs:PSet X t)
  (ha:∀ v,assign (.Subscript o i pos) X.env v = (do
   let ov ← holding [v] (eval o X.env)
   let iv ← holding [v,ov] (eval i X.env)
   standAt pos
   holding [v,ov,iv] (setItem ov iv v)
   release [v,ov,iv] []):=by intro _; rfl):PG X (.Subscript o i pos) (gSub to ti t):=by
 intro pins s σ H v u Q I r h
 rw [ha]
 refine wpAny_bind (wpAny_holding (thn (ho pins s σ H _ I h) fun ov s1 ⟨x,H1,I1,r1,q1⟩=>?_))
 refine wpAny_bind (wpAny_holding (thn (hi pins s1 σ H1 _ I1 q1) fun iv s2 ⟨y,H2,I2,r2,q2⟩=>?_))
 refine wpAny_bind (wpAny_standAt (wpAny_bind (wpAny_holding (thn (hs pins s2 σ H2 x y v ov iv u _ I2 r1 r2 r q2) fun _ s3 ⟨H3,I3,q3⟩=>?_))))
 exact wpAny_release ⟨σ,H3,I3,q3⟩
noncomputable def tAsg (te:TE) (g:TG):TS:=fun D σ H=>te σ H fun x H1=>g x σ H1 D.nx
theorem ps_asg {tg e:Expr} {te:TE} {g:TG} (he:PE X e te) (hg:PG X tg g) (hs:swapsWithSole [tg] e pos.line X.env = pure false:=by rfl) (hw:swappedStores [tg] e X.env = pure none:=by rfl)
  (h1:(assignEach [tg] X.env).map (·.2) = [assign tg X.env]:=by rfl):PS X (.Assign [tg] e pos) (tAsg te g):=by
 intro pins s σ H D I h
 refine wpAny_Assign_stores (thn (he pins s σ H _ I h) fun v s1 ⟨x,H1,I1,r1,q1⟩=>?_) hs hw
 rw [h1]
 exact thn (hg pins s1 σ H1 x v _ I1 r1 q1) fun _ s2 q=>q
theorem ps_set {i:Nat} {x:Str} {e:Expr} {te:TE} {pos':Pos} (hN:X.N.Nodup) (hi:X.N[i]? = some x) (hx:Loc X.env.scope x) (he:PE X e te) (hs:swapsWith e (some (.Name x pos')) pos.line X.env = pure false:=by rfl) (hf:X.fn x = true ∨ X.env.scope.names.lookup x = some .local:=by first | exact .inl rfl | exact .inr rfl | assumption) :
  PS X (.Assign [.Name x pos'] e pos) (tAsg te (gName i)):=by
 intro pins s σ H D I h
 refine wpAny_Assign_Name (thn (he pins s σ H _ I h) fun v s1 ⟨y,H1,I1,r1,q1⟩=>?_) hs
 exact store_ok I1 hN hi hx r1 (fun s2 I2=>⟨_,H1,I2,q1⟩) hf
noncomputable def tPar (i j:Nat) (ta:TA):TS:=fun D σ H=>ta σ H fun vs H1=>∃ v w,vs = [v,w]∧D.nx ((σ.set i (some v)).set j (some w)) H1
theorem ps_par {i j:Nat} {x y:Str} {a b:Expr} {ta:TA} {px py pt:Pos} {kt k2 pt2} (hc:X.calm = true) (hN:X.N.Nodup) (hi:X.N[i]? = some x) (hj:X.N[j]? = some y) (hij:i ≠ j)
  (hx:X.env.scope.names.lookup x = some .local) (hy:X.env.scope.names.lookup y = some .local) (ha:PA X [a,b] ta)
  (hw:swappedStores [.Tuple [.Name x px,.Name y py] kt pt] (.Tuple [a,b] k2 pt2) X.env = pure (some [x,y]))
  (hs:swapsWithSole [.Tuple [.Name x px,.Name y py] kt pt] (.Tuple [a,b] k2 pt2) pos.line X.env = pure false:=by rfl) :
  PS X (.Assign [.Tuple [.Name x px,.Name y py] kt pt] (.Tuple [a,b] k2 pt2) pos) (tPar i j ta):=by
 intro pins s σ H D I h
 rw [exec_Assign_arm]
 refine wpAny_bind (wpAny_standAt ?_)
 rw [hs]
 refine wpAny_bind (wpAny_pure ?_)
 rw [if_neg (by decide)]
 refine wpAny_bind (Tuple_ (thn (ha _ pins s σ H _ I h) fun us s1 ⟨vs,H1,I1,r1,q1⟩=>?_))
 obtain ⟨v,w,e1,q1⟩:=q1
 subst e1
 obtain ⟨u1,u2,rfl,rv,rw'⟩:∃ u1 u2,us = [u1,u2]∧RelV v u1∧RelV w u2:=by
  cases r1 with
  | cons p q=>
   cases q with
   | cons p' q'=>
    cases q'
    exact ⟨_,_,rfl,p,p'⟩
 refine wpAny_newObj_type ?_ (by show 2 ≤ sizeLine; decide)
 have I2:Inv X pins σ H1 { s1 with heap:=s1.heap.push { cls:=.type "tuple",data:=.seq [u1,u2].toArray } }:=I1.kept (t':=s1.toks) fun b o e=>Heap.get?_push_of_some _ e
 rw [hw]
 refine wpAny_bind (wpAny_pure ?_)
 show wpAny (model X.prog X.w) X.A (do rule "assign.swapped-stores"; let items ← unpackItems (.ref s1.heap.objs.size) 2 none; assignInOrder [fun v=>bindName X.env y v,fun v=>bindName X.env x v] items.reverse; pure Flow.next) _ _ _
 refine wpAny_bind (wpAny_rule (wpAny_bind (unpackItems_tuple (items:=#[u1,u2]) (I.ok.hd hc) (IsTup.new s1.heap _) fun h' hx'=>?_)))
 have I3:=I2.kept (h':=h') (t':=s1.toks) fun b o e=>hx' b o (Nat.ne_of_lt (Heap.lt_size e)) e
 show wpAny _ _ (assignInOrder [fun v=>bindName X.env y v,fun v=>bindName X.env x v] [u2,u1] >>= fun _=>pure Flow.next) _ _ _
 refine wpAny_bind (assignInOrder_cons (wpAny_bindName (store_ok I3 hN hj (.inl hy) rw' (fun s2 I4=>?_) (.inr hy))))
 refine assignInOrder_cons (wpAny_bindName (store_ok I4 hN hi (.inl hx) rv (fun s3 I5=>assignInOrder_nil (wpAny_pure ?_)) (.inr hx)))
 rw [List.set_comm _ _ (Ne.symm hij)] at I5
 exact ⟨_,H1,I5,q1⟩
end
section
variable {X:Cx} {pos:Pos}
noncomputable def tWhile (c:TT) (tb:TS):TS:=fun D σ H=>∃ W:Nat→St→Hp→Prop,(∃ m,W m σ H)∧∀ m σ H,W m σ H→
 c σ H fun b H1=>if b = true then ∃ N:St→Hp→Prop,(∀ σ' H',N σ' H'→∃ m',m' < m∧W m' σ' H')∧tb { D with nx:=N,ct:=N,bk:=D.nx } σ H1 else D.nx σ H1
theorem ps_while {c:Expr} {body:List Stmt} {tc:TT} {tb:TS} (hp:PassesOwn (model X.prog X.w) X.A X.env X.xe) (hc:PT X c tc) (hb:PSs X body tb):PS X (.While c body [] pos) (tWhile tc tb):=by
 intro pins s σ H D I h
 obtain ⟨W,⟨m0,w0⟩,turn⟩:=h
 refine wpAny_While (codeAny_whileLoop (fun n s'=>∃ σ' H',Inv X pins σ' H' s'∧W n σ' H') ?_ m0 ⟨σ,H,I,w0⟩)
 rintro n s1 ⟨σ1,H1,I1,w1⟩
 refine wpAny_passesOwn hp (thn (hc pins s1 σ1 H1 _ I1 (turn n σ1 H1 w1)) fun b s2 ⟨H2,I2,q2⟩=>?_)
 cases b with
 | true=>
  obtain ⟨N,hN,q2⟩:=q2
  rw [if_pos rfl]
  refine wpAny_passesOwn hp (thn (hb pins s2 σ1 H2 _ I2 q2) fun f s3 q3=>?_)
  cases f with
  | next=>
   obtain ⟨σ3,H3,I3,n3⟩:=q3
   obtain ⟨m',hm,w3⟩:=hN σ3 H3 n3
   exact ⟨m',hm,σ3,H3,I3,w3⟩
  | cont=>
   obtain ⟨σ3,H3,I3,n3⟩:=q3
   obtain ⟨m',hm,w3⟩:=hN σ3 H3 n3
   exact ⟨m',hm,σ3,H3,I3,w3⟩
  | brk=>exact q3
  | ret v=>exact q3
 | false=>
  rw [if_neg Bool.false_ne_true]
  exact wpAny_execs_nil ⟨σ1,H2,I2,q2⟩
end
structure It where
 go:Nat→Hp→Prop
 yld:Nat→Hp→V→Hp→Prop
 stop:Nat→Hp→Prop
noncomputable def FpOk (X:Cx) (pins:List (Addr × Obj)) (H:Hp) (b:Addr):Prop:=
 H b = none∧b ≠ X.env.locals∧b ∉ X.fs∧(b ∈ X.ex ∨ X.s₀.heap.objs.size ≤ b)∧(∀ x c,X.env.cells.lookup x = some c→c ≠ b)∧∀ p ∈ X.pn ++ pins,p.1 ≠ b
theorem Inv.fpOk {X:Cx} {pins:List (Addr × Obj)} {σ:St} {H H':Hp} {s:Shared} {b:Addr} (I:Inv X pins σ H s) (hb:s.heap.objs.size ≤ b) (hn:H' b = none):FpOk X pins H' b:=by
 refine ⟨hn,Nat.ne_of_gt (Nat.lt_of_lt_of_le I.lt hb),I.nofs hb,.inr (Nat.le_trans I.sz hb),fun x c e z=>?_,fun p hp z=>?_⟩
 ·obtain ⟨v,q⟩:=I.cell x c e
  exact absurd (Nat.lt_of_lt_of_le q.lt (by rw [z]; exact hb)) (Nat.lt_irrefl _)
 ·exact absurd (Nat.lt_of_lt_of_le (Heap.lt_size (I.pin p hp).1) (by rw [z]; exact hb)) (Nat.lt_irrefl _)
structure Turn (P:Program) (w:World) (K:PySem.W.Frag) (tg:Expr) (J:It) (fp:List Addr) (it:Addr) (tn:Nat→Heap→Prop):Prop where
 mem:it ∈ fp
 obj:∀ i h,tn i h→∀ b ∈ fp,∃ o,h.get? b = some o∧∀ v,o.data ≠ .cell v
 keep:∀ i h h',tn i h→(∀ b ∈ fp,∀ o,h.get? b = some o→h'.get? b = some o)→tn i h'
 item:∀ (X:Cx),X.prog = P→X.w = w→X.K = K→X.calm = true→∀ (i:Nat) (pins:List (Addr × Obj)) (s:Shared) (σ:St) (H:Hp) (E:Value→Shared→Prop),Inv X pins σ H s→(∀ b ∈ fp,FpOk X pins H b)→tn i s.heap→J.go i H→
  wpAny (model P w) X.A (pyNext (.ref it)) (fun r s1=>∃ u,r = some u∧
   wpAny (model P w) X.A (letOwnedTupleGo tg (.ref it) u) (fun _ s2=>∃ x H',Inv X pins σ H' s2∧RelV x u∧J.yld i H x H'∧tn (i + 1) s2.heap∧∀ b ∈ fp,H' b = none) E s1) E s
 done:∀ (X:Cx),X.prog = P→X.w = w→X.K = K→X.calm = true→∀ (i:Nat) (pins:List (Addr × Obj)) (s:Shared) (σ:St) (H:Hp) (E:Value→Shared→Prop),Inv X pins σ H s→(∀ b ∈ fp,FpOk X pins H b)→tn i s.heap→J.stop i H→
  wpAny (model P w) X.A (pyNext (.ref it)) (fun r s1=>r = none∧Inv X pins σ H s1) E s
 self:∀ (A:Around) (i:Nat) (s:Shared) (Q:Value→Shared→Prop) (E:Value→Shared→Prop),tn i s.heap→Q (.ref it) s→wpAny (model P w) A (pyIter (.ref it)) Q E s
noncomputable abbrev TI:=St→Hp→(It→Hp→Prop)→Prop
noncomputable def PIE (X:Cx) (pins:List (Addr × Obj)) (σ:St) (tg:Expr) (R:It→Hp→Prop) (itv:Value) (s2:Shared):Prop:=
 ∃ (it:Addr) (fp:List Addr) (tn:Nat→Heap→Prop) (J:It) (H':Hp),itv = .ref it∧Inv X pins σ H' s2∧Turn X.prog X.w X.K tg J fp it tn∧tn 0 s2.heap∧(∀ b ∈ fp,FpOk X pins H' b)∧R J H'
noncomputable def PI (X:Cx) (tg iter:Expr) (wi:TI):Prop:=
 ∀ (pins:List (Addr × Obj)) (s:Shared) (σ:St) (H:Hp) (R:It→Hp→Prop),Inv X pins σ H s→wi σ H R→
  wpAny (model X.prog X.w) X.A (eval iter X.env) (fun v s1=>wpAny (model X.prog X.w) X.A (pyIter v) (PIE X pins σ tg R) X.xe s1) X.xe s
theorem go_of {M : Model} {A : Around} {E : Value → Shared → Prop} {s : Shared} {tg : Expr} {it : Addr} {u : Value} {o : Obj} {n : String} {vs : Array Value} {Q : Unit → Shared → Prop} (ho : s.heap.get? it = some o) (hc : o.cls = .type n) (hd : o.data = .fields vs)
    (hn : ["enumerate", "zip", "dict_itemiterator", "dict_reverseitemiterator", "odict_iterator", "itertools.zip_longest", "itertools.pairwise"].contains n = false) (hQ : Q () s) : wpAny M A (letOwnedTupleGo tg (.ref it) u) Q E s := by
  unfold letOwnedTupleGo
  cases tg <;> first
    | exact wpAny_pure hQ
    | (cases u <;> first
        | exact wpAny_pure hQ
        | (refine wpAny_bind (wpAny_load ho ?_)
           rw [hc, hd]
           show wpAny M A (if (["enumerate", "zip", "dict_itemiterator", "dict_reverseitemiterator", "odict_iterator", "itertools.zip_longest", "itertools.pairwise"].contains n && vs[0]? == some (rawInt _)) = true then _ else _) Q E s
           rw [if_neg (by intro h; rw [hn, Bool.false_and] at h; cases h)]
           exact wpAny_pure hQ))
noncomputable def Itl (K:PySem.W.Frag) (a:Addr):It:=
 ⟨fun i H=>∃ xs x,SqL K H a xs∧xs[i]? = some x,fun i H x H'=>H' = H∧∀ xs,SqL K H a xs→xs[i]? = some x,fun i H=>∃ xs,SqL K H a xs∧xs.length ≤ i⟩
noncomputable def Itt (K:PySem.W.Frag) (a:Addr):It:=
 ⟨fun i H=>∃ xs x,SqT K H a xs∧xs[i]? = some x,fun i H x H'=>H' = H∧∀ xs,SqT K H a xs→xs[i]? = some x,fun i H=>∃ xs,SqT K H a xs∧xs.length ≤ i⟩
noncomputable def Itr (lo:Int) (n:Nat):It:=⟨fun i _=>i < n,fun i H x H'=>H' = H∧x = .int (lo + i),fun i _=>n ≤ i⟩
theorem turn_list {P:Program} {w:World} {K:PySem.W.Frag} {tg:Expr} (a it:Addr):Turn P w K tg (Itl K a) [it] it (fun i h=>h.IsListIter it a i) where
 mem:=by simp
 obj:=fun i h st b hb=>by
  have e:b = it:=by simpa using hb
  subst e
  obtain ⟨o,e,c,d⟩:=st
  exact ⟨o,e,fun v z=>by rw [d] at z; cases z⟩
 keep:=fun i h h' st k=>st.at fun o e=>k it (by simp) o e
 item:=by
  intro X hP hw hK hc i pins s σ H E I hf st hg
  subst hP hw hK
  obtain ⟨xs,x,hq,hx⟩:=hg
  obtain ⟨its,rv,p,hz⟩:=I.list hq
  obtain ⟨u,hu,ru⟩:=rv.get hx
  obtain ⟨f0,f1,f2,f3,f4,f5⟩:=hf it (by simp)
  refine wpAny_pyNext_list_item st p.isList (x:=u) (by simpa using hu) fun h' st' sb=>?_
  have I1:Inv X pins σ H { s with heap:=h' }:=I.turned (t':=s.toks) (fun b o hb e=>(sb.2 b hb).trans e) f0 f1 f3 f4 f5
  obtain ⟨o,e,c,d⟩:=id st'
  exact ⟨u,rfl,go_of (s:={ s with heap:=h' }) e c d (by decide) ⟨x,H,I1,ru,⟨rfl,fun ys hy=>by rw [I.list_inj hy hq]; exact hx⟩,st',fun b hb=>(hf b hb).1⟩⟩
 done:=by
  intro X hP hw hK hc i pins s σ H E I hf st hg
  subst hP hw hK
  obtain ⟨xs,hq,hx⟩:=hg
  obtain ⟨its,rv,p,hz⟩:=I.list hq
  obtain ⟨f0,f1,f2,f3,f4,f5⟩:=hf it (by simp)
  have hl:=rv.length
  exact wpAny_pyNext_list_end (I.ok.hd hc) st p.isList (by simp; omega) fun h' eb=>⟨rfl,I.turned (t':=s.toks) (fun b o hb e=>eb b o hb e) f0 f1 f3 f4 f5⟩
 self:=fun _ _ _ _ _ st h=>wpAny_pyIter_listiter st h
theorem turn_tuple {P:Program} {w:World} {K:PySem.W.Frag} {tg:Expr} (a it:Addr):Turn P w K tg (Itt K a) [it] it (fun i h=>h.IsTupleIter it a i) where
 mem:=by simp
 obj:=fun i h st b hb=>by
  have e:b = it:=by simpa using hb
  subst e
  obtain ⟨o,e,c,d⟩:=st
  exact ⟨o,e,fun v z=>by rw [d] at z; cases z⟩
 keep:=fun i h h' st k=>st.at fun o e=>k it (by simp) o e
 item:=by
  intro X hP hw hK hc i pins s σ H E I hf st hg
  subst hP hw hK
  obtain ⟨xs,x,hq,hx⟩:=hg
  obtain ⟨its,rv,p,hz⟩:=I.tuple hq
  obtain ⟨u,hu,ru⟩:=rv.get hx
  obtain ⟨f0,f1,f2,f3,f4,f5⟩:=hf it (by simp)
  refine wpAny_pyNext_tuple_item st (show s.heap.IsTuple a its.toArray from p) (x:=u) (by simpa using hu) fun h' st' sb=>?_
  have I1:Inv X pins σ H { s with heap:=h' }:=I.turned (t':=s.toks) (fun b o hb e=>(sb.2 b hb).trans e) f0 f1 f3 f4 f5
  obtain ⟨o,e,c,d⟩:=id st'
  exact ⟨u,rfl,go_of (s:={ s with heap:=h' }) e c d (by decide) ⟨x,H,I1,ru,⟨rfl,fun ys hy=>by rw [I.tuple_inj hy hq]; exact hx⟩,st',fun b hb=>(hf b hb).1⟩⟩
 done:=by
  intro X hP hw hK hc i pins s σ H E I hf st hg
  subst hP hw hK
  obtain ⟨xs,hq,hx⟩:=hg
  obtain ⟨its,rv,p,hz⟩:=I.tuple hq
  obtain ⟨f0,f1,f2,f3,f4,f5⟩:=hf it (by simp)
  have hl:=rv.length
  exact wpAny_pyNext_tuple_end (I.ok.hd hc) st (show s.heap.IsTuple a its.toArray from p) (by simp; omega) fun h' eb=>⟨rfl,I.turned (t':=s.toks) (fun b o hb e=>eb b o hb e) f0 f1 f3 f4 f5⟩
 self:=fun _ _ _ _ _ st h=>wpAny_pyIter_tupleiter st h
theorem turn_range {P:Program} {w:World} {K:PySem.W.Frag} {tg:Expr} (it:Addr) (lo:Int) (n:Nat):Turn P w K tg (Itr lo n) [it] it (fun i h=>IsRangeIter h it (lo + (i:Nat) * 1) ((n:Int) - (i:Nat)) 1) where
 mem:=by simp
 obj:=fun i h st b hb=>by
  have e:b = it:=by simpa using hb
  subst e
  exact ⟨_,st,fun v z=>by
   have z':Data.fields _ = Data.cell v:=z
   cases z'⟩
 keep:=fun i h h' st k=>k it (by simp) _ st
 item:=by
  intro X hP hw hK hc i pins s σ H E I hf st hg
  subst hP hw hK
  obtain ⟨f0,f1,f2,f3,f4,f5⟩:=hf it (by simp)
  have W:=Walks.range (prog:=X.prog) (w:=X.w) (I.ok.hd hc) it lo 1 n
  refine W.item i s _ _ hg st fun v h' tk hv st' kk=>?_
  obtain ⟨t,rfl⟩:=hv
  have I1:Inv X pins σ H { s with heap:=h',toks:=tk }:=I.turned (fun b o hb e=>kk b o (by simpa using hb) e) f0 f1 f3 f4 f5
  refine ⟨_,rfl,go_of (s:={ s with heap:=h',toks:=tk }) (n:="range_iterator") st' rfl rfl (by decide) ⟨.int (lo + i),H,I1,⟨t,?_⟩,⟨rfl,rfl⟩,st',fun b hb=>(hf b hb).1⟩⟩
  rw [Int.mul_one]
 done:=by
  intro X hP hw hK hc i pins s σ H E I hf st hg
  subst hP hw hK
  obtain ⟨f0,f1,f2,f3,f4,f5⟩:=hf it (by simp)
  exact wpAny_pyNext_range_end (I.ok.hd hc) st (by have:n ≤ i:=hg; omega) fun h' eb=>⟨rfl,I.turned (t':=s.toks) (fun b o hb e=>eb b o hb e) f0 f1 f3 f4 f5⟩
 self:=fun _ _ _ _ _ st h=>wpAny_pyIter_rangeiter st h
section
variable {X:Cx} {tg:Expr}
theorem range_it {pins:List (Addr × Obj)} {σ:St} {H:Hp} {s:Shared} {R:It→Hp→Prop} {E:Value→Shared→Prop} {lo hi:Int} {t u v:Tok} {tk:Nat} (I:Inv X pins σ H s) (h1:-(2 ^ 62) ≤ lo) (h2:lo < 2 ^ 62) (h3:-(2 ^ 62) ≤ hi) (h4:hi < 2 ^ 62)
  (q:R (Itr lo (hi - lo).toNat) H):wpAny (model X.prog X.w) X.A (pyIter (.ref s.heap.objs.size)) (PIE X pins σ tg R) E { s with heap:=s.heap.push { cls:=.type "range",data:=.fields #[.int lo t,.int hi u,.int 1 v] },toks:=tk }:=by
 refine wpAny_pyIter_range (IsRange.new ..) (small_one h1 h2 h3 h4) ?_
 have I1:Inv X pins σ H { s with heap:=s.heap.push { cls:=.type "range",data:=.fields #[.int lo t,.int hi u,.int 1 v] },toks:=tk }:=I.kept fun b o e=>Heap.get?_push_of_some _ e
 refine ⟨(s.heap.push { cls:=.type "range",data:=.fields #[.int lo t,.int hi u,.int 1 v] }).objs.size,[(s.heap.push { cls:=.type "range",data:=.fields #[.int lo t,.int hi u,.int 1 v] }).objs.size],_,_,H,rfl,
  I1.kept (t':=tk) fun b o e=>Heap.get?_push_of_some _ e,turn_range _ lo (hi - lo).toNat,?_,fun b hb=>?_,q⟩
 ·have e1:lo + ((0:Nat):Int) * 1 = lo:=by simp
  have e2:(((hi - lo).toNat:Nat):Int) - ((0:Nat):Int) = Builtin.Range.rangeSize lo hi 1:=by rw [rangeSize_one]; split <;> omega
  show IsRangeIter _ _ (lo + ((0:Nat):Int) * 1) ((((hi - lo).toNat:Nat):Int) - ((0:Nat):Int)) 1
  rw [e1,e2]
  exact Heap.get?_push_size _ rfl
 ·have e:b = (s.heap.push { cls:=.type "range",data:=.fields #[.int lo t,.int hi u,.int 1 v] }).objs.size:=by simpa using hb
  subst e
  exact I1.fpOk (Nat.le_refl _) (I1.hok.fresh (Nat.le_refl _))
noncomputable def iRng1 (ta:TA):TI:=fun σ H R=>ta σ H fun vs H1=>∃ j:Int,vs = [.int j]∧-(2 ^ 62) ≤ j∧j < 2 ^ 62∧R (Itr 0 j.toNat) H1
theorem pi_range1 {a:Expr} {ta:TA} {p pos:Pos} (hg:Gl X "range") (hm:X.mg "range" = none) (ha:PA X [a] ta) (hs:starEach [a] X.env = [(false,eval a X.env)]:=by rfl):PI X tg (.Call (.Name "range" p) [a] [] pos) (iRng1 ta):=by
 intro pins s σ H R I h
 refine Call_ (ld_blt I hg hm boot_range (PyProof.Rows.callWith_type1 (thn (ha pos pins s σ H _ I h) fun us s1 ⟨vs,H1,I1,r1,q1⟩=>?_) hs rfl))
 obtain ⟨j,e,q1,q2,q⟩:=q1
 subst e
 cases r1 with
 | cons r rr=>
  cases rr
  obtain ⟨t,rfl⟩:=r
  exact call_range_1 (range_it I1 (by omega) (by omega) q1 q2 (by simpa using q))
noncomputable def tFor (wi:TI) (g:TG) (tb:TS):TS:=fun D σ H=>wi σ H fun J H1=>∃ W:Nat→Nat→St→Hp→Prop,(∃ m,W 0 m σ H1)∧∀ i m σ H,W i m σ H→
 (J.stop i H∧D.nx σ H) ∨ (J.go i H∧∃ N:St→Hp→Prop,(∀ σ' H',N σ' H'→∃ m',m' < m∧W (i + 1) m' σ' H')∧∀ x H',J.yld i H x H'→g x σ H' fun σ2 H2=>tb { D with nx:=N,ct:=N,bk:=D.nx } σ2 H2)
noncomputable def pinsAt (fp:List Addr) (h:Heap):List (Addr × Obj):=fp.filterMap fun b=>(h.get? b).map fun o=>(b,o)
theorem mem_pinsAt {fp:List Addr} {h:Heap} {b:Addr} {o:Obj} (hb:b ∈ fp) (e:h.get? b = some o):(b,o) ∈ pinsAt fp h:=List.mem_filterMap.mpr ⟨b,hb,by rw [e]; rfl⟩
theorem of_pinsAt {fp:List Addr} {h:Heap} {p:Addr × Obj} (hp:p ∈ pinsAt fp h):p.1 ∈ fp∧h.get? p.1 = some p.2:=by
 obtain ⟨b,hb,e⟩:=List.mem_filterMap.mp hp
 cases q:h.get? b with
 | none=>rw [q] at e; cases e
 | some o=>
  rw [q] at e
  have e':(b,o) = p:=Option.some.inj e
  subst e'
  exact ⟨hb,q⟩
theorem Inv.pinned {pins:List (Addr × Obj)} {σ:St} {H:Hp} {s:Shared} {fp:List Addr} (I:Inv X pins σ H s) (hf:∀ b ∈ fp,FpOk X pins H b) (ho:∀ b ∈ fp,∃ o,s.heap.get? b = some o∧∀ v,o.data ≠ .cell v):Inv X (pins ++ pinsAt fp s.heap) σ H s:=
 I.pins_of fun p hp=>(List.mem_append.mp hp).elim (fun z=>I.pin p (List.mem_append_right _ z)) fun z=>by
  obtain ⟨hb,e⟩:=of_pinsAt z
  obtain ⟨f0,f1,f2,_⟩:=hf p.1 hb
  obtain ⟨o,e',d⟩:=ho p.1 hb
  rw [e] at e'; cases e'
  exact ⟨e,f0,f1,f2,d⟩
theorem Inv.unpinned {pins pl:List (Addr × Obj)} {σ:St} {H:Hp} {s:Shared} (I:Inv X (pins ++ pl) σ H s):Inv X pins σ H s:=I.pins_of fun p hp=>I.pin p (List.mem_append_right _ (List.mem_append_left _ hp))
theorem ps_for {iter:Expr} {body:List Stmt} {wi:TI} {g:TG} {tb:TS} {pos:Pos} (hp:PassesOwn (model X.prog X.w) X.A X.env X.xe) (hc:X.calm = true) (hi:PI X tg iter wi) (hg:PG X tg g) (hb:PSs X body tb)
  (hs:∀ x,foldedSetIterable iter X.env x = pure x:=by intro _; rfl):PS X (.For tg iter body [] pos) (tFor wi g tb):=by
 intro pins s σ H D I h
 refine wpAny_For (thn (hi pins s σ H _ I h) fun v s1 h1=>thn h1 fun itv s2 h2=>?_) hs
 obtain ⟨it,fp,tn,J,H2,e,I2,T,st2,f2,W,⟨m0,w0⟩,turn⟩:=h2
 subst e
 -- what stays true of the iterator's objects through the loop
 have stat:∀ {H':Hp},(∀ b ∈ fp,H' b = none)→∀ b ∈ fp,FpOk X pins H' b:=fun hn b hb=>⟨hn b hb,(f2 b hb).2⟩
 refine codeAny_forLoop_any (fun n s'=>∃ i σ' H',Inv X pins σ' H' s'∧tn i s'.heap∧(∀ b ∈ fp,H' b = none)∧W i n σ' H') ?_ m0 ⟨0,σ,H2,I2,st2,fun b hb=>(f2 b hb).1,w0⟩
 rintro n s3 ⟨i,σ3,H3,I3,st3,fr3,w3⟩
 rcases turn i n σ3 H3 w3 with ⟨stop,qn⟩ | ⟨go,N,hN,step⟩
 ·refine wpAny_passesOwn hp (thn (T.done X rfl rfl rfl hc i pins s3 σ3 H3 X.xe I3 (stat fr3) st3 stop) fun r s4 ⟨hr,I4⟩=>?_)
  subst hr
  exact wpAny_execs_nil ⟨σ3,H3,I4,qn⟩
 ·refine wpAny_passesOwn hp (thn (T.item X rfl rfl rfl hc i pins s3 σ3 H3 X.xe I3 (stat fr3) st3 go) fun r s4 ⟨u,hr,h4⟩=>?_)
  subst hr
  refine wpAny_passesOwn hp (thn h4 fun _ s5 ⟨x,H5,I5,r5,y5,st5,fr5⟩=>?_)
  have I5':=I5.pinned (stat fr5) (T.obj _ _ st5)
  refine wpAny_passesOwn hp (thn (hg _ s5 σ3 H5 x u _ I5' r5 (step x H5 y5)) fun _ s6 ⟨σ6,H6,I6,q6⟩=>?_)
  refine wpAny_passesOwn hp (thn (hb _ s6 σ6 H6 _ I6 q6) fun f s7 q7=>?_)
  have again:∀ {σ7:St} {H7:Hp},Inv X (pins ++ pinsAt fp s5.heap) σ7 H7 s7→N σ7 H7→∃ m,m < n∧∃ i σ' H',Inv X pins σ' H' s7∧tn i s7.heap∧(∀ b ∈ fp,H' b = none)∧W i m σ' H':=fun {σ7 H7} I7 n7=>by
   obtain ⟨m',hm,w7⟩:=hN σ7 H7 n7
   refine ⟨m',hm,i + 1,σ7,H7,I7.unpinned,T.keep _ _ _ st5 fun b hb o e=>(I7.pin (b,o) (List.mem_append_right _ (List.mem_append_right _ (mem_pinsAt hb e)))).1,fun b hb=>?_,w7⟩
   obtain ⟨o,e,d⟩:=T.obj _ _ st5 b hb
   exact (I7.pin (b,o) (List.mem_append_right _ (List.mem_append_right _ (mem_pinsAt hb e)))).2.1
  cases f with
  | next=>obtain ⟨σ7,H7,I7,n7⟩:=q7; exact again I7 n7
  | cont=>obtain ⟨σ7,H7,I7,n7⟩:=q7; exact again I7 n7
  | brk=>obtain ⟨σ7,H7,I7,q7⟩:=q7; exact ⟨σ7,H7,I7.unpinned,q7⟩
  | ret v=>obtain ⟨x7,σ7,H7,I7,r7,q7⟩:=q7; exact ⟨x7,σ7,H7,I7.unpinned,r7,q7⟩
end
noncomputable abbrev R2:=V→V→Hp→VK→Prop
noncomputable def OpR (X:Cx) (f:Value→Value→Sem Value) (r:R2):Prop:=
 ∀ (pins:List (Addr × Obj)) (s:Shared) (σ:St) (H:Hp) (x y:V) (v u:Value) (Q:VK),Inv X pins σ H s→RelV x v→RelV y u→r x y H Q→
  wpAny (model X.prog X.w) X.A (f v u) (EP X pins σ Q) X.xe s
noncomputable def UnR (X:Cx) (f:Value→Sem Value) (r:V→Hp→VK→Prop):Prop:=
 ∀ (pins:List (Addr × Obj)) (s:Shared) (σ:St) (H:Hp) (x:V) (v:Value) (Q:VK),Inv X pins σ H s→RelV x v→r x H Q→
  wpAny (model X.prog X.w) X.A (f v) (EP X pins σ Q) X.xe s
noncomputable def CallR (X:Cx) (f:Value) (r:List V→Hp→VK→Prop):Prop:=
 ∀ (pins:List (Addr × Obj)) (s:Shared) (σ:St) (H:Hp) (xs:List V) (us:List Value) (Q:VK),Inv X pins σ H s→Vals xs us→r xs H Q→
  wpAny (model X.prog X.w) X.A (call f us) (EP X pins σ Q) X.xe s
noncomputable def tOp (r:R2) (ta tb:TE):TE:=fun σ H Q=>ta σ H fun x H1=>tb σ H1 fun y H2=>r x y H2 Q
noncomputable def tUn (r:V→Hp→VK→Prop) (ta:TE):TE:=fun σ H Q=>ta σ H fun x H1=>r x H1 Q
noncomputable def rI (C:Int→Int→Prop) (g:Int→Int→V):R2:=fun x y H Q=>∃ i j,x = .int i∧y = .int j∧C i j∧Q (g i j) H
noncomputable def rI0 (g:Int→Int→V):R2:=fun x y H Q=>∃ i j,x = .int i∧y = .int j∧Q (g i j) H
noncomputable def rU (g:Int→V):V→Hp→VK→Prop:=fun x H Q=>∃ i,x = .int i∧Q (g i) H
section
variable {X:Cx} {a b c:Expr} {ta tb tc:TE} {pos:Pos}
theorem binT (ha:PE X a ta) (hb:PE X b tb) {pins:List (Addr × Obj)} {s:Shared} {σ:St} {H:Hp} {R:V→V→Hp→Prop} (I:Inv X pins σ H s)
  (h:ta σ H fun x H1=>tb σ H1 fun y H2=>R x y H2) {Q:Value→Shared→Prop} {f:Value→Value→Sem Value}
  (hf:∀ v u s2 x y H2,Inv X pins σ H2 s2→RelV x v→RelV y u→R x y H2→wpAny (model X.prog X.w) X.A (f v u) Q X.xe s2) :
  wpAny (model X.prog X.w) X.A (eval a X.env) (fun v s₁=>wpAny (model X.prog X.w) X.A (eval b X.env) (fun u s₂=>wpAny (model X.prog X.w) X.A (f v u) Q X.xe s₂) X.xe s₁) X.xe s:=by
 refine thn (ha pins s σ H _ I h) fun v s1 ⟨x,H1,I1,r1,q1⟩=>?_
 refine thn (hb pins s1 σ H1 _ I1 q1) fun u s2 ⟨y,H2,I2,r2,q2⟩=>?_
 exact hf v u s2 x y H2 I2 r1 r2 q2
theorem pe_op {op:Operator} {r:R2} (ho:OpR X (binaryOp op) r) (ha:PE X a ta) (hb:PE X b tb):PE X (.BinOp a op b pos) (tOp r ta tb):=by
 intro pins s σ H Q I h
 exact wpAny_BinOp (binT ha hb I h fun v u s2 x y H2 I2 rx ry q=>ho pins s2 σ H2 x y v u Q I2 rx ry q)
theorem pe_un {op:UnaryOp} {r:V→Hp→VK→Prop} (ho:UnR X (unaryOp op) r) (ha:PE X a ta):PE X (.UnaryOp op a pos) (tUn r ta):=by
 intro pins s σ H Q I h
 exact UnaryOp_ (thn (ha pins s σ H _ I h) fun v s1 ⟨x,H1,I1,r1,q1⟩=>ho pins s1 σ H1 x v Q I1 r1 q1)
theorem opI {f:Value→Value→Sem Value} {C:Int→Int→Prop} {g:Int→Int→Int}
  (rule:∀ (i j:Int) (t u:Tok) (s:Shared) (Q:Value→Shared→Prop) (E:Value→Shared→Prop),C i j→Q (.int (g i j) s.toks) { s with toks:=s.toks + 1 }→wpAny (model X.prog X.w) X.A (f (.int i t) (.int j u)) Q E s) :
  OpR X f (rI C fun i j=>.int (g i j)):=by
 intro pins s σ H x y v u Q I rx ry h
 obtain ⟨i,j,rfl,rfl,hc,q⟩:=h
 obtain ⟨t,rfl⟩:=rx
 obtain ⟨t',rfl⟩:=ry
 exact rule i j t t' s _ _ hc ⟨.int (g i j),H,I.tok _,⟨_,rfl⟩,q⟩
theorem opI0 {f:Value→Value→Sem Value} {g:Int→Int→Int}
  (rule:∀ (i j:Int) (t u:Tok) (s:Shared) (Q:Value→Shared→Prop) (E:Value→Shared→Prop),Q (.int (g i j) s.toks) { s with toks:=s.toks + 1 }→wpAny (model X.prog X.w) X.A (f (.int i t) (.int j u)) Q E s) :
  OpR X f (rI0 fun i j=>.int (g i j)):=by
 intro pins s σ H x y v u Q I rx ry h
 obtain ⟨i,j,rfl,rfl,q⟩:=h
 obtain ⟨t,rfl⟩:=rx
 obtain ⟨t',rfl⟩:=ry
 exact rule i j t t' s _ _ ⟨.int (g i j),H,I.tok _,⟨_,rfl⟩,q⟩
theorem opB0 {f:Value→Value→Sem Value} {g:Int→Int→Bool}
  (rule:∀ (i j:Int) (t u:Tok) (s:Shared) (Q:Value→Shared→Prop) (E:Value→Shared→Prop),Q (.bool (g i j)) s→wpAny (model X.prog X.w) X.A (f (.int i t) (.int j u)) Q E s) :
  OpR X f (rI0 fun i j=>.bl (g i j)):=by
 intro pins s σ H x y v u Q I rx ry h
 obtain ⟨i,j,rfl,rfl,q⟩:=h
 obtain ⟨t,rfl⟩:=rx
 obtain ⟨t',rfl⟩:=ry
 exact rule i j t t' s _ _ ⟨.bl (g i j),H,I,rfl,q⟩
noncomputable def CPow (i j:Int):Prop:=0 ≤ j∧j ≤ 1000000∧i.natAbs < 2 ^ 64
noncomputable def CMul (i j:Int):Prop:=(-(2 ^ 64) < i∧i < 2 ^ 64) ∨ (-(2 ^ 64) < j∧j < 2 ^ 64)
theorem CMul.ok {i j:Int} (h:CMul i j):IntMulOk i j:=by
 rcases h with ⟨h1,h2⟩ | ⟨h1,h2⟩
 ·exact .of_left (intBits_le_64 h1 h2)
 ·exact .of_right (intBits_le_64 h1 h2)
theorem op_add:OpR X (binaryOp .Add) (rI0 fun i j=>.int (i + j)):=opI0 fun _ _ _ _ _ _ _ q=>add_int q
theorem op_sub:OpR X (binaryOp .Sub) (rI0 fun i j=>.int (i - j)):=opI0 fun _ _ _ _ _ _ _ q=>sub_int q
theorem op_modN:OpR X (binaryOp .Mod) (rI (fun _ j=>j ≠ 0) fun i j=>.int (i.fmod j)):=opI fun _ _ _ _ _ _ _ hc q=>mod_int' hc q
theorem op_pow:OpR X (binaryOp .Pow) (rI CPow fun i j=>.int (i ^ j.toNat)):=opI fun _ _ _ _ _ _ _ hc q=>pow_int_small hc.1 hc.2.1 hc.2.2 q
theorem unI {f:Value→Sem Value} {g:Int→Int}
  (rule:∀ (i:Int) (t:Tok) (s:Shared) (Q:Value→Shared→Prop) (E:Value→Shared→Prop),Q (.int (g i) s.toks) { s with toks:=s.toks + 1 }→wpAny (model X.prog X.w) X.A (f (.int i t)) Q E s) :
  UnR X f (rU fun i=>.int (g i)):=by
 intro pins s σ H x v Q I rx h
 obtain ⟨i,rfl,q⟩:=h
 obtain ⟨t,rfl⟩:=rx
 exact rule i t s _ _ ⟨.int (g i),H,I.tok _,⟨_,rfl⟩,q⟩
theorem un_neg:UnR X (unaryOp .USub) (rU fun i=>.int (-i)):=unI fun _ _ _ _ _ q=>neg_int q
end
noncomputable def scal:V→V→Bool
 | .non,.non=>true | .non,.int _=>true | .int _,.non=>true | .non,.bl _=>true | .bl _,.non=>true | .non,.str _=>true | .str _,.non=>true
 | .int _,.int _=>true | .bl _,.bl _=>true | .str _,.str _=>true | .byt _,.byt _=>true
 | .int _,.str _=>true | .str _,.int _=>true | .bl _,.str _=>true | .str _,.bl _=>true
 | _,_=>false
noncomputable def rEq:R2:=fun x y H Q=>scal x y = true∧Q (.bl (decide (x = y))) H
noncomputable def rNe:R2:=fun x y H Q=>scal x y = true∧Q (.bl (!decide (x = y))) H
theorem dec_int {i j:Int}:decide (V.int i = V.int j) = (i == j):=by
 rw [Bool.eq_iff_iff]
 simp
theorem dec_bl {i j:Bool}:decide (V.bl i = V.bl j) = (i == j):=by
 rw [Bool.eq_iff_iff]
 simp
theorem dec_str {i j:Str}:decide (V.str i = V.str j) = (i == j):=by
 rw [Bool.eq_iff_iff]
 simp
theorem dec_byt {i j:Array UInt8}:decide (V.byt i = V.byt j) = (i.toList == j.toList):=by
 rw [Bool.eq_iff_iff]
 cases i
 cases j
 simp
section
variable {X:Cx} {a b c:Expr} {ta tb tc:TE} {pos:Pos}
theorem fin_bl {pins:List (Addr × Obj)} {σ:St} {H:Hp} {s:Shared} {Q:VK} {k k':Bool} (I:Inv X pins σ H s) (q:Q (.bl k) H) (e:k = k'):EP X pins σ Q (.bool k') s:=by
 subst e
 exact ⟨.bl k,H,I,rfl,q⟩
theorem op_eq:OpR X (compareOp .Eq) rEq:=by
 intro pins s σ H x y v u Q I rx ry h
 obtain ⟨hs,q⟩:=h
 cases x with
 | non=>
  cases rx
  cases y with
  | non=>cases ry; exact PySem.EqNone.eq_none_none (fin_bl I q (by simp))
  | bl j=>cases ry; exact PySem.EqNone.eq_none_bool (fin_bl I q (by simp))
  | int j=>obtain ⟨t',rfl⟩:=ry; exact PySem.EqNone.eq_none_int (fin_bl I q (by simp))
  | str j=>obtain ⟨t',rfl⟩:=ry; exact PySem.EqNone.eq_none_str (fin_bl I q (by simp))
  | _=>exact absurd (show false = true from hs) Bool.false_ne_true
 | bl i=>
  cases rx
  cases y with
  | non=>cases ry; exact PySem.EqNone.eq_bool_none (fin_bl I q (by simp))
  | bl j=>cases ry; exact eq_bool (fin_bl I q dec_bl)
  | str j=>obtain ⟨t',rfl⟩:=ry; exact PySem.EqMixed.eq_bool_str (fin_bl I q (by simp))
  | _=>exact absurd (show false = true from hs) Bool.false_ne_true
 | int i=>
  obtain ⟨t,rfl⟩:=rx
  cases y with
  | non=>cases ry; exact PySem.EqNone.eq_int_none (fin_bl I q (by simp))
  | int j=>obtain ⟨t',rfl⟩:=ry; exact eq_int (fin_bl I q dec_int)
  | str j=>obtain ⟨t',rfl⟩:=ry; exact PySem.EqMixed.eq_int_str (fin_bl I q (by simp))
  | _=>exact absurd (show false = true from hs) Bool.false_ne_true
 | str i=>
  obtain ⟨t,rfl⟩:=rx
  cases y with
  | non=>cases ry; exact PySem.EqNone.eq_str_none (fin_bl I q (by simp))
  | bl j=>cases ry; exact PySem.EqMixed.eq_str_bool (fin_bl I q (by simp))
  | int j=>obtain ⟨t',rfl⟩:=ry; exact PySem.EqMixed.eq_str_int (fin_bl I q (by simp))
  | str j=>obtain ⟨t',rfl⟩:=ry; exact eq_str (fin_bl I q dec_str)
  | _=>exact absurd (show false = true from hs) Bool.false_ne_true
 | byt i=>
  obtain ⟨t,rfl⟩:=rx
  cases y with
  | byt j=>obtain ⟨t',rfl⟩:=ry; exact PySem.W.eq_bytes (fin_bl I q dec_byt)
  | _=>exact absurd (show false = true from hs) Bool.false_ne_true
 | _=>cases y <;> exact absurd (show false = true from hs) Bool.false_ne_true
theorem op_ne:OpR X (compareOp .NotEq) rNe:=by
 intro pins s σ H x y v u Q I rx ry h
 obtain ⟨hs,q⟩:=h
 cases x with
 | non=>
  cases rx
  cases y with
  | non=>cases ry; exact PySem.EqNone.ne_none_none (fin_bl I q (by simp))
  | bl j=>cases ry; exact PySem.EqNone.ne_none_bool (fin_bl I q (by simp))
  | int j=>obtain ⟨t',rfl⟩:=ry; exact PySem.EqNone.ne_none_int (fin_bl I q (by simp))
  | str j=>obtain ⟨t',rfl⟩:=ry; exact PySem.EqNone.ne_none_str (fin_bl I q (by simp))
  | _=>exact absurd (show false = true from hs) Bool.false_ne_true
 | bl i=>
  cases rx
  cases y with
  | non=>cases ry; exact PySem.EqNone.ne_bool_none (fin_bl I q (by simp))
  | bl j=>cases ry; exact ne_bool (fin_bl I q (congrArg not dec_bl))
  | str j=>obtain ⟨t',rfl⟩:=ry; exact PySem.EqMixed.ne_bool_str (fin_bl I q (by simp))
  | _=>exact absurd (show false = true from hs) Bool.false_ne_true
 | int i=>
  obtain ⟨t,rfl⟩:=rx
  cases y with
  | non=>cases ry; exact PySem.EqNone.ne_int_none (fin_bl I q (by simp))
  | int j=>obtain ⟨t',rfl⟩:=ry; exact ne_int (fin_bl I q (congrArg not dec_int))
  | str j=>obtain ⟨t',rfl⟩:=ry; exact PySem.EqMixed.ne_int_str (fin_bl I q (by simp))
  | _=>exact absurd (show false = true from hs) Bool.false_ne_true
 | str i=>
  obtain ⟨t,rfl⟩:=rx
  cases y with
  | non=>cases ry; exact PySem.EqNone.ne_str_none (fin_bl I q (by simp))
  | bl j=>cases ry; exact PySem.EqMixed.ne_str_bool (fin_bl I q (by simp))
  | int j=>obtain ⟨t',rfl⟩:=ry; exact PySem.EqMixed.ne_str_int (fin_bl I q (by simp))
  | str j=>obtain ⟨t',rfl⟩:=ry; exact ne_str (fin_bl I q (congrArg not dec_str))
  | _=>exact absurd (show false = true from hs) Bool.false_ne_true
 | byt i=>
  obtain ⟨t,rfl⟩:=rx
  cases y with
  | byt j=>obtain ⟨t',rfl⟩:=ry; exact PySem.W.ne_bytes (fin_bl I q (congrArg not dec_byt))
  | _=>exact absurd (show false = true from hs) Bool.false_ne_true
 | _=>cases y <;> exact absurd (show false = true from hs) Bool.false_ne_true
theorem op_lt:OpR X (compareOp .Lt) (rI0 fun i j=>.bl (decide (i < j))):=opB0 fun _ _ _ _ _ _ _ q=>lt_int q
theorem op_le:OpR X (compareOp .LtE) (rI0 fun i j=>.bl (decide (i ≤ j))):=opB0 fun _ _ _ _ _ _ _ q=>le_int q
theorem op_gt:OpR X (compareOp .Gt) (rI0 fun i j=>.bl (decide (j < i))):=opB0 fun _ _ _ _ _ _ _ q=>gt_int q
theorem op_ge:OpR X (compareOp .GtE) (rI0 fun i j=>.bl (decide (j ≤ i))):=opB0 fun _ _ _ _ _ _ _ q=>ge_int q
theorem op_in_str:OpR X (compareOp .In) (fun x y H Q=>∃ i j,x = .str i∧y = .str j∧Q (.bl (!(Builtin.Str.occurrences j i 0 j.length 1).isEmpty)) H):=by
 intro pins s σ H x y v u Q I rx ry h
 obtain ⟨i,j,rfl,rfl,q⟩:=h
 obtain ⟨t,rfl⟩:=rx
 obtain ⟨t',rfl⟩:=ry
 exact in_str (fin_bl I q rfl)
theorem op_isN:OpR X (compareOp .Is) (fun x y H Q=>y = .non∧Q (.bl (decide (x = .non))) H):=by
 intro pins s σ H x y v u Q I rx ry h
 obtain ⟨rfl,q⟩:=h
 cases ry
 refine is_none_gen (fin_bl I q ?_)
 cases x <;> first
  | (cases rx; rfl)
  | (obtain ⟨t,rfl⟩:=rx; rfl)
theorem op_notN:OpR X (compareOp .IsNot) (fun x y H Q=>y = .non∧Q (.bl (!decide (x = .non))) H):=by
 intro pins s σ H x y v u Q I rx ry h
 obtain ⟨rfl,q⟩:=h
 cases ry
 refine isnot_none_gen (fin_bl I q ?_)
 cases x <;> first
  | (cases rx; rfl)
  | (obtain ⟨t,rfl⟩:=rx; rfl)
theorem nomark (b:Expr) {op:CmpOp} (h:op ≠ .In:=by decide) (h2:op ≠ .NotIn:=by decide):behindInMarks op b = false:=by
 have e1:(op == CmpOp.In) = false:=by cases op <;> first | rfl | exact absurd rfl h
 have e2:(op == CmpOp.NotIn) = false:=by cases op <;> first | rfl | exact absurd rfl h2
 cases b <;> simp [behindInMarks,e1,e2]
theorem pe_cmpR {op:CmpOp} {r:R2} (ho:OpR X (compareOp op) r) (ha:PE X a ta) (hb:PE X b tb) (hm:behindInMarks op b = false):PE X (.Compare a [op] [b] pos) (tOp r ta tb):=by
 intro pins s σ H Q I h
 exact wpAny_Compare1 (binT ha hb I h fun v u s2 x y H2 I2 rx ry q=>ho pins s2 σ H2 x y v u Q I2 rx ry q) hm
noncomputable def tTest (t:TE):TT:=fun σ H Q=>t σ H fun x H'=>∃ k,x = .bl k∧Q k H'
theorem pt_cmpR {op:CmpOp} {r:R2} (ho:OpR X (compareOp op) r) (ha:PE X a ta) (hb:PE X b tb) (hm:behindInMarks op b = false):PT X (.Compare a [op] [b] pos) (tTest (tOp r ta tb)):=by
 intro pins s σ H Q I h
 refine wpAny_isTrue_Compare1 (thn (ha pins s σ H _ I h) fun v s1 ⟨x,H1,I1,r1,q1⟩=>thn (hb pins s1 σ H1 _ I1 q1) fun u s2 ⟨y,H2,I2,r2,q2⟩=>
  thn (ho pins s2 σ H2 x y v u _ I2 r1 r2 q2) fun c s3 ⟨z,H3,I3,r3,k,e,q3⟩=>?_) hm
 subst e
 cases r3
 exact wpAny_truthy_bool ⟨H3,I3,q3⟩
noncomputable def tChain (r r':R2) (ta tb tc:TE):TE:=fun σ H Q=>ta σ H fun x H1=>tb σ H1 fun y H2=>r x y H2 fun z H3=>∃ k,z = .bl k∧
 (if k = true then tc σ H3 fun w' H4=>r' y w' H4 Q else Q (.bl false) H3)
theorem pt_chain {op op':CmpOp} {r r':R2} (ho:OpR X (compareOp op) r) (ho':OpR X (compareOp op') r') (ha:PE X a ta) (hb:PE X b tb) (hc:PE X c tc)
  (hm:lastMarks [op,op'] [b,c] = false:=by with_unfolding_all rfl):PT X (.Compare a [op,op'] [b,c] pos) (tTest (tChain r r' ta tb tc)):=by
 intro pins s σ H Q I h
 refine isTrue_chain (thn (ha pins s σ H _ I h) fun v s1 ⟨x,H1,I1,r1,q1⟩=>test_link (thn (hb pins s1 σ H1 _ I1 q1) fun u s2 ⟨y,H2,I2,r2,q2⟩=>
  thn (ho pins s2 σ H2 x y v u _ I2 r1 r2 q2) fun d s3 ⟨z,H3,I3,r3,k,e,q3⟩=>?_)) hm
 subst e
 cases r3
 refine wpAny_truthy_bool ?_
 cases k with
 | false=>
  obtain ⟨k',e',q'⟩:=q3
  cases e'
  exact ite_ff ⟨H3,I3,q'⟩
 | true=>
  refine ite_tt (test_last (thn (hc pins s3 σ H3 _ I3 q3) fun w' s4 ⟨z',H4,I4,r4,q4⟩=>thn (ho' pins s4 σ H4 y z' u w' _ I4 r2 r4 q4) fun d' s5 ⟨z2,H5,I5,r5,k2,e2,q5⟩=>?_))
  subst e2
  cases r5
  exact wpAny_truthy_bool ⟨H5,I5,q5⟩
theorem line63:(sizeLine:Nat) < 2 ^ 63:=by rw [sizeLine_eq]; decide
theorem op_add_str:OpR X (binaryOp .Add) (fun x y H Q=>∃ i j,x = .str i∧y = .str j∧i.length + j.length ≤ sizeLine∧Q (.str (i ++ j)) H):=by
 intro pins s σ H x y v u Q I rx ry h
 obtain ⟨i,j,rfl,rfl,hz,q⟩:=h
 obtain ⟨t,rfl⟩:=rx
 obtain ⟨t',rfl⟩:=ry
 exact add_str (fun t' tk=>⟨.str (i ++ j),H,I.tok _,⟨_,rfl⟩,q⟩) hz
theorem vals1 {x:V} {us:List Value} (r:Vals [x] us):∃ u,us = [u]∧RelV x u:=by
 cases r with
 | cons r1 r2=>cases r2; exact ⟨_,rfl,r1⟩
theorem vals2 {x y:V} {us:List Value} (r:Vals [x,y] us):∃ u w',us = [u,w']∧RelV x u∧RelV y w':=by
 cases r with
 | cons r1 r2=>
  cases r2 with
  | cons r3 r4=>cases r4; exact ⟨_,_,rfl,r1,r3⟩
theorem call_abs:CallR X (.builtin "abs") (fun xs H Q=>∃ i,xs = [.int i]∧Q (.int (if i < 0 then -i else i)) H):=by
 intro pins s σ H xs us Q I r h
 obtain ⟨i,rfl,q⟩:=h
 obtain ⟨u,rfl,t,rfl⟩:=vals1 r
 exact call_abs_int fun u tk=>⟨.int (if i < 0 then -i else i),H,I.tok _,⟨_,rfl⟩,q⟩
theorem call_max2 (hc:X.calm = true):CallR X (.builtin "max") (fun xs H Q=>∃ i j,xs = [.int i,.int j]∧Q (.int (if j > i then j else i)) H):=by
 intro pins s σ H xs us Q I r h
 obtain ⟨i,j,rfl,q⟩:=h
 obtain ⟨u,w',rfl,⟨t,rfl⟩,⟨t',rfl⟩⟩:=vals2 r
 refine max_two_ints (I.ok.hd hc) fun h' tk k=>⟨_,H,I.kept k,?_,q⟩
 by_cases hj:j > i
 ·rw [if_pos hj,if_pos hj]; exact ⟨_,rfl⟩
 ·rw [if_neg hj,if_neg hj]; exact ⟨_,rfl⟩
theorem call_int1:CallR X (.type "int") (fun xs H Q=>(∃ i,xs = [.int i]∧Q (.int i) H) ∨ ∃ k,xs = [.bl k]∧Q (.int (if k then 1 else 0)) H):=by
 intro pins s σ H xs us Q I r h
 rcases h with ⟨i,rfl,q⟩ | ⟨k,rfl,q⟩
 ·obtain ⟨u,rfl,t,rfl⟩:=vals1 r
  exact call_int_int ⟨.int i,H,I,⟨_,rfl⟩,q⟩
 ·obtain ⟨u,rfl,r1⟩:=vals1 r
  cases r1
  exact call_int_bool ⟨.int (if k then 1 else 0),H,I.tok _,⟨_,rfl⟩,q⟩
end
structure ObjM (h:Heap) (x dx C:Addr) (mA:Str→Option Value):Prop where
 obj:h.get? x = some (PySem.W.instObj C dx)
 ns:h.Ns1 dx mA
 ne:dx ≠ x
theorem lookIn_ns {h:Heap} {dx:Addr} {mA:Str→Option Value} (n:h.Ns1 dx mA):∃ od,h.get? dx = some od∧∀ name,PySem.W.lookIn name od = some (mA name):=by
 obtain ⟨o,es,ep,ho,hd,hk,_,hm⟩:=n
 refine ⟨o,ho,fun name=>?_⟩
 have e:=hm name
 unfold nsFind findBy at e
 rw [← Array.find?_toList] at e
 unfold PySem.W.lookIn
 rw [hd]
 dsimp only
 split
 ·rename_i y q
  rw [q] at e
  exact congrArg some e
 ·rename_i q
  rw [q] at e
  have a:es.toList.any (·.refKey) = false:=by
   rw [List.any_eq_false]
   intro y hy
   obtain ⟨z,t,hkey⟩:=hk y (Array.mem_toList_iff.mp hy)
   simp [DictEntry.refKey,hkey]
  have a':¬ es.toList.any (·.refKey) = true:=by rw [a]; exact Bool.false_ne_true
  rw [if_neg a']
  exact congrArg some e
theorem ObjM.look {h:Heap} {x dx C:Addr} {mA:Str→Option Value} (I:ObjM h x dx C mA):∃ od,PySem.W.InstAt h x (PySem.W.instObj C dx) C (some od)∧∀ name,PySem.W.lookIn name od = some (mA name):=
 let ⟨od,ho,hl⟩:=lookIn_ns I.ns
 ⟨od,⟨I.obj,rfl,rfl,ho⟩,hl⟩
section
variable {prog:Program} {w:World} {A:Around} {E:Value→Shared→Prop} {s:Shared} {K:PySem.W.Frag} {x dx C f:Addr} {mA:Str→Option Value} {name:Str} {v:Value}
theorem get_map {expr:Bool} {Q:Value→Shared→Prop} (X:K.In s.heap) (I:ObjM s.heap x dx C mA) (hg:PySem.W.plainGet K C name = true) (hh:PySem.W.hasDictIn K C = true)
  (ha:PySem.W.findIn K (.ref C) name = some none) (hv:mA name = some v) (hv':PySem.W.handedIn v = true) (h:Q v { s with toks:=s.toks + 1 }) :
  wpAny (model prog w) A (getAttr (.ref x) name expr) Q E s:=by
 obtain ⟨od,J,hl⟩:=I.look
 exact PySem.W.get_value X J (PySem.W.plainGet_of hg).1 (PySem.W.findObj_own hh ha rfl (by rw [hl,hv])) hv' h
theorem get_meth {pl:Sem Bool} {Q:Value × List Value→Shared→Prop} (X:K.In s.heap) (I:ObjM s.heap x dx C mA) (hg:PySem.W.plainGet K C name = true)
  (hf:PySem.W.findIn K (.ref C) name = some (some (.ref f))) (ht:PySem.W.isFn K (.ref f) = true) (hv:mA name = none) (h:Q (.ref f,[.ref x]) s) :
  wpAny (model prog w) A (getMethod (.ref x) name pl) Q E s:=by
 obtain ⟨od,J,hl⟩:=I.look
 exact PySem.W.method_fn X J (PySem.W.plainGet_of hg).1 (PySem.W.plainGet_of hg).2 hf (beq_iff_eq.mp ht) (by show (PySem.W.lookIn name od).map (·.isSome) = some false; rw [hl,hv]; rfl) h
theorem set_map {ns:List Str} {Q:Unit→Shared→Prop} (X:K.In s.heap) (I:ObjM s.heap x dx C mA)
  (hs:PySem.W.findIn K (.ref C) "__setattr__" = some (some (.builtin "object.__setattr__"))) (hp:PySem.W.plainOver K C = true) (ht:PySem.W.takerIn K C name = some none) (hh:PySem.W.hasDictIn K C = true)
  (hw:PySem.Within mA ns) (hsz:ns.length ≤ sizeLine)
  (h:∀ h',ObjM h' x dx C (fun y=>if y = name then some v else mA y)→Heap.SameBut dx s.heap h'→Q () { s with heap:=h',toks:=s.toks + 2 }) :
  wpAny (model prog w) A (setAttr (.ref x) name v) Q E s:=by
 obtain ⟨od,J,hl⟩:=I.look
 refine PySem.W.set_plain X J hs (PySem.W.osa_open (s:={ s with toks:=s.toks + 1 }) (r:=none) X J hp ht fun b=>?_)
 obtain ⟨cd,hc,hd'⟩:=PySem.W.any_some hh
 have hx:s.heap.get? x = some ⟨.ref C,some dx,.plain,#[]⟩:=I.obj
 refine wpAny_bind (wpAny_pure (wpAny_bind (wpAny_bind (wpAny_loadPart hx (wpAny_bind (PySem.W.Looks.here (s:={ s with toks:=s.toks + 1 }) (PySem.W.looks_clsIn X hc) ?_))))))
 rw [hd']
 refine wpAny_pure (a:=some dx) (wpAny_bind (wpAny_pure (wpAny_bind ?_)))
 refine wpAny_nsSet1 (s:={ s with toks:=s.toks + 1 }) I.ns fun h' hn2 hs2=>?_
 obtain ⟨oD,esD,epD,hoD,hdD,hcD⟩:=hn2.count (PySem.Within.cons name v hw)
 refine wpAny_bind (wpAny_lookBehind hoD (by rw [hdD]; exact pastItsLine_dict (Nat.le_trans hcD (by rw [List.length_cons]; omega))) ?_)
 exact wpAny_pure (h _ ⟨(hs2.2 _ (Ne.symm I.ne)).trans I.obj,hn2,I.ne⟩ hs2)
theorem make_map {R:Result→Shared→Prop} {vs:List Value} {kw:List (Str × Value)} (X:K.In s.heap) (hm:PySem.W.makesIn K C = true)
  (hi:PySem.W.findIn K (.ref C) "__init__" = some (some (.ref f))) (hf:PySem.W.typeIn K (.ref f) = some (.type "function"))
  (h:codeAny (model prog w) (A.under (.builtin "type.__call__" ⟨.ref C :: vs,kw⟩)) (.call (.ref f) ⟨.ref (s.heap.objs.size + 1) :: vs,kw⟩) (PySem.W.InitBack (s.heap.objs.size + 1) R)
   { s with heap:=(s.heap.push PySem.W.emptyDict).push (PySem.W.instObj C s.heap.objs.size) }) :
  codeAny (model prog w) A (.call (.ref C) ⟨vs,kw⟩) R s:=by
 obtain ⟨hh,g,d,t,os⟩:=s
 exact PySem.W.make_core (PySem.W.makes_of X hm) (PySem.W.looks_findIn X hi) (fun self=>PySem.W.bind_fn X self hf) (.inl rfl) h
end
noncomputable def putF (f:Str) (v:V):List (Str × V)→List (Str × V)
 | []=>[(f,v)]
 | (g,x) :: r=>if g = f then (g,v) :: r else (g,x) :: putF f v r
theorem lookup_putF (f g:Str) (v:V):∀ fs:List (Str × V),(putF f v fs).lookup g = if g = f then some v else fs.lookup g
 | []=>by
  show List.lookup g [(f,v)] = _
  by_cases h:g = f
  ·have hb:(g == f) = true:=beq_iff_eq.mpr h
   simp only [List.lookup,hb,if_pos h]
  ·have hb:(g == f) = false:=beq_eq_false_iff_ne.mpr h
   simp only [List.lookup,hb,if_neg h]
 | (k,x) :: r=>by
  have ih:=lookup_putF f g v r
  rw [show putF f v ((k,x) :: r) = (if k = f then (k,v) :: r else (k,x) :: putF f v r) from rfl]
  by_cases hk:k = f
  ·rw [if_pos hk]
   by_cases h:g = k
   ·have hb:(g == k) = true:=beq_iff_eq.mpr h
    simp only [List.lookup,hb,if_pos (h.trans hk)]
   ·have hb:(g == k) = false:=beq_eq_false_iff_ne.mpr h
    simp only [List.lookup,hb,if_neg (fun e:g = f=>h (e.trans hk.symm))]
  ·rw [if_neg hk]
   by_cases h:g = k
   ·have hb:(g == k) = true:=beq_iff_eq.mpr h
    simp only [List.lookup,hb,if_neg (fun e:g = f=>hk (h.symm.trans e))]
   ·have hb:(g == k) = false:=beq_eq_false_iff_ne.mpr h
    simp only [List.lookup,hb]
    exact ih
theorem keys_putF (f:Str) (v:V):∀ fs:List (Str × V),f ∈ (putF f v fs).map (·.1)∧∀ g,g ∈ fs.map (·.1)→g ∈ (putF f v fs).map (·.1)
 | []=>⟨by simp [putF],fun g h=>by simp at h⟩
 | (k,x) :: r=>by
  obtain ⟨i1,i2⟩:=keys_putF f v r
  rw [show putF f v ((k,x) :: r) = (if k = f then (k,v) :: r else (k,x) :: putF f v r) from rfl]
  by_cases hk:k = f
  ·rw [if_pos hk]
   subst hk
   exact ⟨by simp,fun g h=>by simpa using h⟩
  ·rw [if_neg hk]
   refine ⟨?_,fun g h=>?_⟩
   ·rw [List.map_cons]
    exact List.mem_cons_of_mem _ i1
   ·rw [List.map_cons] at h ⊢
    rcases List.mem_cons.mp h with e | e
    ·exact List.mem_cons.mpr (.inl e)
    ·exact List.mem_cons_of_mem _ (i2 g e)
theorem length_putF (f:Str) (v:V):∀ fs:List (Str × V),(putF f v fs).length ≤ fs.length + 1
 | []=>by simp [putF]
 | (k,x) :: r=>by
  have ih:=length_putF f v r
  rw [show putF f v ((k,x) :: r) = (if k = f then (k,v) :: r else (k,x) :: putF f v r) from rfl]
  by_cases hk:k = f
  ·rw [if_pos hk,List.length_cons,List.length_cons]; omega
  ·rw [if_neg hk,List.length_cons,List.length_cons]; omega
theorem RelO.some_of {v:V} {o:Option Value} (r:RelO (some v) o):∃ u,o = some u∧RelV v u:=by
 cases o with
 | none=>exact (show False from r).elim
 | some u=>exact ⟨u,rfl,r⟩
theorem RelO.none_of {o:Option Value} (r:RelO none o):o = none:=by
 cases o with
 | none=>rfl
 | some u=>exact (show False from r).elim
theorem handed_of {v:V} {u:Value} (r:RelV v u):PySem.W.handedIn u = true:=by
 cases v with
 | non=>cases (show u = Value.none from r); rfl
 | bl b=>cases (show u = Value.bool b from r); rfl
 | int i=>obtain ⟨t,e⟩:=(show ∃ t,u = Value.int i t from r); cases e; rfl
 | str x=>obtain ⟨t,e⟩:=(show ∃ t,u = Value.str x t from r); cases e; rfl
 | byt b=>obtain ⟨t,e⟩:=(show ∃ t,u = Value.bytes b t from r); cases e; rfl
 | flt b=>obtain ⟨t,e⟩:=(show ∃ t,u = Value.float b t from r); cases e; rfl
 | ref a=>cases (show u = Value.ref a from r); rfl
 | ty n=>cases (show u = Value.type n from r); rfl
section
variable {P:Program} {w:World} {H H':Hp} {h h':Heap} {a C dx:Addr} {fs fs':List (Str × V)}
theorem ins_get (hok:HOk P w H h) (e:H a = some (.ins C dx fs)):∃ mA,ObjM h a dx C mA∧(∀ f,RelO (fs.lookup f) (mA f))∧PySem.Within mA (fs.map (·.1))∧fs.length ≤ 1000∧H dx = some (.own a):=by
 obtain ⟨d,z,ne,ob,mA,n,r,q⟩:=(show ObjOk P w H h a (.ins C dx fs) from hok a _ e)
 exact ⟨mA,⟨ob,n,ne⟩,r,q,z,d⟩
end
structure Cls (K:PySem.W.Frag) (C:Addr):Prop where
 pg:PySem.W.plainGet K C Str.empty = true
 hd:PySem.W.hasDictIn K C = true
 po:PySem.W.plainOver K C = true
 sa:PySem.W.findIn K (.ref C) "__setattr__" = some (some (.builtin "object.__setattr__"))
theorem Cls.get {K:PySem.W.Frag} {C:Addr} (c:Cls K C) (f:Str):PySem.W.plainGet K C f = true:=c.pg
noncomputable def NoAttr (K:PySem.W.Frag) (C:Addr) (f:Str):Prop:=PySem.W.findIn K (.ref C) f = some none
theorem NoAttr.taker {K:PySem.W.Frag} {C:Addr} {f:Str} (n:NoAttr K C f):PySem.W.takerIn K C f = some none:=by
 unfold PySem.W.takerIn
 rw [show PySem.W.findIn K (.ref C) f = some none from n]
 rfl
structure Con (K:PySem.W.Frag) (C:Addr) (f:Str) (v:V) (u:Value):Prop where
 at_:PySem.W.findIn K (.ref C) f = some (some u)
 rel:RelV v u
 get:PySem.W.specialIn K u "__get__" = some none
 cp:PySem.W.copiedNames.contains f = false
structure Meth (K:PySem.W.Frag) (C:Addr) (m:Str) (f:Addr):Prop where
 at_:PySem.W.findIn K (.ref C) m = some (some (.ref f))
 fn:PySem.W.isFn K (.ref f) = true
 kp:PySem.W.keepIn K (.ref f) = true
section
variable {X:Cx} {pins:List (Addr × Obj)} {σ:St} {H:Hp} {s:Shared} {a C dx:Addr} {fs:List (Str × V)} {f:Str} {v:V} {A:Around} {E:Value→Shared→Prop}
theorem getattr_ok {b:Bool} {Q:Value→Shared→Prop} (I:Inv X pins σ H s) (e:H a = some (.ins C dx fs)) (c:Cls X.K C) (n:NoAttr X.K C f) (l:fs.lookup f = some v)
  (h:∀ u s',Inv X pins σ H s'→RelV v u→Q u s'):wpAny (model X.prog X.w) A (getAttr (.ref a) f b) Q E s:=by
 obtain ⟨mA,O,r,_,_,_⟩:=ins_get I.hok e
 obtain ⟨u,hu,ru⟩:=RelO.some_of (v:=v) (o:=mA f) (by rw [← l]; exact r f)
 exact get_map I.kIn O (c.get f) c.hd n hu (handed_of ru) (h u _ (I.tok _) ru)
theorem getmeth_ok {m:Str} {g:Addr} {pl:Sem Bool} {Q:Value × List Value→Shared→Prop} (I:Inv X pins σ H s) (e:H a = some (.ins C dx fs)) (c:Cls X.K C) (k:Meth X.K C m g) (l:fs.lookup m = none)
  (h:Q (.ref g,[.ref a]) s):wpAny (model X.prog X.w) A (getMethod (.ref a) m pl) Q E s:=by
 obtain ⟨mA,O,r,_,_,_⟩:=ins_get I.hok e
 have hn:mA m = none:=RelO.none_of (by rw [← l]; exact r m)
 exact get_meth I.kIn O (c.get m) k.at_ k.fn hn h
theorem setattr_ok {y:V} {u:Value} {Q:Unit→Shared→Prop} (I:Inv X pins σ H s) (e:H a = some (.ins C dx fs)) (c:Cls X.K C) (n:NoAttr X.K C f) (hl:fs.length < 1000) (ry:RelV y u)
  (h:∀ s',Inv X pins σ (upd H a (.ins C dx (putF f y fs))) s'→Q () s'):wpAny (model X.prog X.w) A (setAttr (.ref a) f u) Q E s:=by
 obtain ⟨mA,O,r,wi,_,ho⟩:=ins_get I.hok e
 have hz:(fs.map (·.1)).length ≤ sizeLine:=by rw [List.length_map,sizeLine_eq]; omega
 refine set_map I.kIn O c.sa c.po n.taker c.hd wi hz fun h' O' sb=>h _ ?_
 have hd:∃ o,h'.get? dx = some o:=let ⟨o,_,_,e',_⟩:=O'.ns; ⟨o,e'⟩
 refine I.write (x:=a) (e:=dx) (by rw [e]; exact True.intro) (.inr ho) (fun b q hb z=>(sb.2 b hb).trans z) hd ?_
 refine ⟨by rw [upd_ne O.ne]; exact ho,?_,O.ne,O'.obj,_,O'.ns,fun g=>?_,fun g hg=>?_⟩
 ·have:=length_putF f y fs; omega
 ·show RelO ((putF f y fs).lookup g) (if g = f then some u else mA g)
  rw [lookup_putF]
  by_cases q:g = f
  ·rw [if_pos q,if_pos q]; exact ry
  ·rw [if_neg q,if_neg q]; exact r g
 ·by_cases q:g = f
  ·rw [q]; exact (keys_putF f y fs).1
  ·refine (keys_putF f y fs).2 g (wi g fun z=>hg ?_)
   show (if g = f then some u else mA g) = none
   rw [if_neg q]; exact z
theorem Inv.made (I:Inv X pins σ H s):Inv X pins σ (upd (upd H s.heap.objs.size (.own (s.heap.objs.size + 1))) (s.heap.objs.size + 1) (.ins C s.heap.objs.size []))
  { s with heap:=(s.heap.push PySem.W.emptyDict).push (PySem.W.instObj C s.heap.objs.size) }:=by
 have e1:(s.heap.push PySem.W.emptyDict).get? s.heap.objs.size = some PySem.W.emptyDict:=Heap.get?_push_size s.heap rfl
 have e2:((s.heap.push PySem.W.emptyDict).push (PySem.W.instObj C s.heap.objs.size)).get? (s.heap.objs.size + 1) = some (PySem.W.instObj C s.heap.objs.size):=by
  have:=Heap.get?_push_size (s.heap.push PySem.W.emptyDict) (o:=PySem.W.instObj C s.heap.objs.size) rfl
  rwa [Heap.size_push] at this
 have e3:(s.heap.push PySem.W.emptyDict).Ns s.heap.objs.size (fun _=>none):=⟨PySem.W.emptyDict,#[],_,e1,rfl,(fun e he=>absurd he (by simp)),fun _=>rfl⟩
 have I1:=I.laid (a:=s.heap.objs.size) (o:=.own (s.heap.objs.size + 1)) (h':=s.heap.push PySem.W.emptyDict) (t':=s.toks) (fun b u q=>Heap.get?_push_of_some _ q) (Nat.le_refl _) ⟨_,e1⟩
 refine I1.laid (a:=s.heap.objs.size + 1) (o:=.ins C s.heap.objs.size []) (t':=s.toks) (fun b u q=>Heap.get?_push_of_some _ q) (Nat.le_of_eq (Heap.size_push _ _)) ?_
 have ne:s.heap.objs.size ≠ s.heap.objs.size + 1:=Nat.ne_of_lt (Nat.lt_succ_self _)
 refine ⟨by rw [upd_ne ne,upd_same],Nat.zero_le _,ne,e2,fun _=>none,(Heap.Ns1.of_empty e3).at fun o q=>Heap.get?_push_of_some _ q,fun _=>True.intro,fun y hy=>absurd rfl hy⟩
theorem attr_of {prog:Program} {w:World} {env:Env} {e:Expr} {f:Str} {pos:Pos} {s:Shared} {Q:Value→Shared→Prop} (hb:attributeBase e f env (eval e env) = eval e env)
  (h:wpAny (model prog w) A (eval e env) (fun o s₁=>wpAny (model prog w) A (getAttr o f true) Q E s₁) E s):wpAny (model prog w) A (eval (.Attribute e f pos) env) Q E s:=
 Attribute_any_ h (by rw [arm_eval_Attribute,hb])
end
noncomputable def tFld (K:PySem.W.Frag) (ta:TE) (f:Str):TE:=fun σ H Q=>ta σ H fun x H1=>∃ a C dx fs v,x = .ref a∧H1 a = some (.ins C dx fs)∧Cls K C∧NoAttr K C f∧fs.lookup f = some v∧Q v H1
noncomputable def sFld (K:PySem.W.Frag) (ta tv:TE) (f:Str):TS:=fun D σ H=>tv σ H fun y H1=>ta σ H1 fun x H2=>∃ a C dx fs,x = .ref a∧H2 a = some (.ins C dx fs)∧Cls K C∧NoAttr K C f∧fs.length < 1000∧
 D.nx σ (upd H2 a (.ins C dx (putF f y fs)))
section
variable {X:Cx} {o e value:Expr} {f:Str} {pos pos' tpos:Pos} {ta tv:TE}
theorem pe_fld (he:PE X e ta) (hb:attributeBase e f X.env (eval e X.env) = eval e X.env):PE X (.Attribute e f pos) (tFld X.K ta f):=by
 intro pins s σ H Q I h
 refine attr_of hb (thn (he pins s σ H _ I h) fun u s1 ⟨x,H1,I1,rx,a,C,dx,fs,v,ex,ea,c,n,l,q⟩=>?_)
 subst ex
 obtain rfl:u = Value.ref a:=rx
 exact getattr_ok I1 ea c n l fun u' s2 I2 ru=>⟨v,H1,I2,ru,q⟩
theorem ps_fld (ha:PE X o ta) (hv:PE X value tv) (hs:swapsWith value (some (.Attribute o f pos')) pos.line X.env = pure false):PS X (.Assign [.Attribute o f pos'] value pos) (sFld X.K ta tv f):=by
 intro pins s σ H D I h
 refine plainObj_wpAny_Assign_Attribute (thn (hv pins s σ H _ I h) fun u s1 ⟨y,H1,I1,ry,q⟩=>thn (ha pins s1 σ H1 _ I1 q) fun ov s2 ⟨x,H2,I2,rx,a,C,dx,fs,ex,ea,c,n,l,q2⟩=>?_) hs
 subst ex
 obtain rfl:ov = Value.ref a:=rx
 exact setattr_ok I2 ea c n l ry fun s3 I3=>⟨σ,_,I3,q2⟩
end
section
variable {X:Cx} {pins:List (Addr × Obj)} {σ:St} {H:Hp} {s:Shared} {A:Around} {E:Value→Shared→Prop} {Q:Value→Shared→Prop} {c:Value} {b:Bool}
inductive TyOf (K:PySem.W.Frag) (H:Hp):V→Value→Prop where
 | non:TyOf K H .non (.type "NoneType")
 | bl (x:Bool):TyOf K H (.bl x) (.type "bool")
 | int (i:Int):TyOf K H (.int i) (.type "int")
 | str (x:Str):TyOf K H (.str x) (.type "str")
 | flt (x:UInt64):TyOf K H (.flt x) (.type "float")
 | lst {a:Addr} {xs:List V} (e:H a = some (.lst xs)):TyOf K H (.ref a) (.type "list")
 | frz {a:Addr} {o:Obj} {xs:List V} (e:H a = some (.frz o (.lst xs))):TyOf K H (.ref a) (.type "list")
 | tup {a:Addr} {xs:List V} (e:H a = some (.tup xs)):TyOf K H (.ref a) (.type "tuple")
 | dK {a:Addr} {kvs:List (Key × V)} (e:H a = some (.dK kvs)):TyOf K H (.ref a) (.type "dict")
 | dT {a:Addr} {kvs:List (List Key × V)} (e:H a = some (.dT kvs)):TyOf K H (.ref a) (.type "dict")
 | ins {a C dx:Addr} {fs:List (Str × V)} (e:H a = some (.ins C dx fs)) (cl:Cls K C) (ha:PySem.W.findIn K (.ref C) "__class__" = some (some (.builtin "object.__class__")))
   (hn:PySem.W.specialIn K (.builtin "object.__class__") "__get__" = some (some (.builtin "getset_descriptor.__get__"))) (htk:PySem.W.takesIn K (.builtin "object.__class__") = some true)
   (hm:PySem.W.mroIn K C (.type "object") = some true):TyOf K H (.ref a) (.ref C)
end
structure Room (k:Nat) (A:Around):Prop where
 hd:A.handled = none
 dp:A.depth + 3 * k + 5 < recursionLimit
 un:A.units + 16 * k + 200 < cLine
 gd:A.guards = some []
theorem Room.mono {j k:Nat} {A:Around} (r:Room k A) (h:j ≤ k):Room j A:=⟨r.hd,by have:=r.dp; omega,by have:=r.un; omega,r.gd⟩
theorem Room.deeper {k:Nat} {A:Around} (r:Room (k + 1) A) (env:Env):Room k (A.deeper env):=
 ⟨r.hd,by have:=r.dp; show A.depth + 1 + 3 * k + 5 < _; omega,by have:=r.un; show A.units + 3 + 16 * k + 200 < _; omega,r.gd⟩
theorem make_depth {A:Around} {C:Addr} {us:List Value} {kw:List (Str × Value)}:(A.under (.builtin "type.__call__" ⟨.ref C :: us,kw⟩)).depth = A.depth + 1:=by
 first | rfl | simp [Around.under,Code.weight,Code.isCreation,Code.isGuard,Code.isCaller,Code.frames,Code.isFrame,guardIds]
theorem make_units {A:Around} {C:Addr} {us:List Value} {kw:List (Str × Value)}:(A.under (.builtin "type.__call__" ⟨.ref C :: us,kw⟩)).units = A.units + 1:=by
 first | rfl | simp [Around.under,Code.cUnits,Code.frames,Code.isFrame]
theorem make_guards {A:Around} {C:Addr} {us:List Value} {kw:List (Str × Value)}:(A.under (.builtin "type.__call__" ⟨.ref C :: us,kw⟩)).guards = A.guards:=by
 first | rfl | (cases h:A.guards <;> simp [Around.under,Code.guards,Code.isGuard,guardIds,pushGuards,h])
theorem Room.make {k:Nat} {A:Around} (r:Room (k + 1) A) (C:Addr) (us:List Value) (kw:List (Str × Value)):Room k (A.under (.builtin "type.__call__" ⟨.ref C :: us,kw⟩)):=
 ⟨r.hd,by have:=r.dp; rw [make_depth]; omega,by have:=r.un; rw [make_units]; omega,by rw [make_guards]; exact r.gd⟩
theorem Room.depth {k:Nat} {A:Around} (r:Room k A):A.depth < recursionLimit:=by have:=r.dp; omega
noncomputable def tNil:TA:=fun _ H Q=>Q [] H
noncomputable def tCons (ta:TE) (tr:TA):TA:=fun σ H Q=>ta σ H fun x H1=>tr σ H1 fun xs H2=>Q (x :: xs) H2
section
variable {X:Cx} {e:Expr} {es:List Expr} {te:TE} {t:TA} {pos:Pos}
theorem pa_nil:PA X [] tNil:=fun _ _ _ _ H Q I h=>Calls.spliced_nil ⟨[],H,I,.nil,h⟩
theorem pa_cons (ha:PE X e te) (hr:PA X es t) (hs:starEach (e :: es) X.env = (false,eval e X.env) :: starEach es X.env:=by rfl):PA X (e :: es) (tCons te t):=by
 intro pos pins s σ H Q I h
 rw [hs]
 show wpAny _ _ (spliced ((false,eval e X.env) :: backTo pos (starEach es X.env))) _ _ s
 refine Calls.spliced_cons (thn (ha pins s σ H _ I h) fun u s1 ⟨x,H1,I1,r1,q1⟩=>?_)
 exact thn (hr pos pins s1 σ H1 _ I1 q1) fun us s2 ⟨xs,H2,I2,r2,q2⟩=>⟨x :: xs,H2,I2,.cons r1 r2,q2⟩
noncomputable def tTup (t:TA):TE:=fun σ H Q=>t σ H fun xs H1=>xs.length ≤ sizeLine∧∀ p,H1 p = none→Q (.ref p) (upd H1 p (.tup xs))
noncomputable def tLst (t:TA):TE:=fun σ H Q=>t σ H fun xs H1=>xs.length ≤ sizeLine∧∀ p,H1 p = none→Q (.ref p) (upd H1 p (.lst xs))
theorem pe_tup {x1} (h:PA X es t):PE X (.Tuple es x1 pos) (tTup t):=by
 intro pins s σ H Q I hq
 refine wpAny_Tuple_spliced (thn (h pos pins s σ H _ I hq) fun us s1 ⟨xs,H1,I1,r,z,q⟩=>⟨by rw [← r.length]; exact z,?_⟩)
 have hf:H1 s1.heap.objs.size = none:=I1.hok.fresh (Nat.le_refl _)
 refine ⟨.ref s1.heap.objs.size,upd H1 s1.heap.objs.size (.tup xs),I1.laid (t':=s1.toks) (fun b u e=>Heap.get?_push_of_some _ e) (Nat.le_refl _) ?_,rfl,q _ hf⟩
 exact ⟨z,us,r,⟨_,Heap.get?_push_size _ rfl,rfl,rfl,_,rfl⟩⟩
theorem pe_lst (h:PA X es t):PE X (.List es pos) (tLst t):=by
 intro pins s σ H Q I hq
 refine wpAny_List_spliced (thn (h pos pins s σ H _ I hq) fun us s1 ⟨xs,H1,I1,r,z,q⟩=>⟨by rw [← r.length]; exact z,?_⟩)
 have hf:H1 s1.heap.objs.size = none:=I1.hok.fresh (Nat.le_refl _)
 refine ⟨.ref s1.heap.objs.size,upd H1 s1.heap.objs.size (.lst xs),I1.laid (t':=s1.toks) (fun b u e=>Heap.get?_push_of_some _ e) (Nat.le_refl _) ?_,rfl,q _ hf⟩
 exact ⟨z,us,0,r,Heap.get?_push_size _ rfl⟩
end
noncomputable abbrev Sp:=List V→Hp→VK→XK→Prop
noncomputable abbrev CXT:=List Env→Hp→Shared→XK→Value→Shared→Prop
structure Env0 (P:Program) (w:World) (K:PySem.W.Frag) (mg:Str→Option Value) (base:Heap) (A:Around) (outer:List Env) (s:Shared) (H:Hp):Prop where
 frames:A.frames = some outer
 mod:Mod K mg base
 bs:∀ b o,base.get? b = some o→s.heap.get? b = some o∧H b = none
 bsz:base.objs.size ≤ s.heap.objs.size
 funs:s.heap.FunFrames base outer
 frf:∀ b ∈ frs outer,H b = none
 hok:HOk P w H s.heap
 bare:AllBare s.gens
noncomputable def CE (outer:List Env) (P:Program) (w:World) (H:Hp) (s:Shared) (Q:VK) (u:Value) (s':Shared):Prop:=
 ∃ v H',s'.os = s.os∧AllBare s'.gens∧Un (frs outer) [] H H' s.heap s'.heap∧HOk P w H' s'.heap∧RelV v u∧Q v H'
noncomputable def CR (CX:CXT) (outer:List Env) (P:Program) (w:World) (H:Hp) (s:Shared) (Q:VK) (E:XK) (r:Result) (s':Shared):Prop:=
 match r with
 | .ok (.ret u)=>CE outer P w H s Q u s'
 | .ok _=>False
 | .error e=>CX outer H s E e s'
structure FnOk (P:Program) (w:World) (K:PySem.W.Frag) (mg:Str→Option Value) (base:Heap) (CX:CXT) (k:Nat) (f:Addr) (fd:FuncData) (ps:List Str) (sp:Sp):Prop where
 len:∀ vs H Q E,sp vs H Q E→vs.length = ps.length
 run:∀ (A:Around) (outer:List Env) (s:Shared) (H:Hp) (args:Args) (us:List Value) (vs:List V) (Q:VK) (E:XK),Room k A→Env0 P w K mg base A outer s H→BindsTo s fd args (ps.zip us)→Vals vs us→sp vs H Q E→
  codeAny (model P w) A (.call (.ref f) args) (CR CX outer P w H s Q E) s
theorem Env0.make {P:Program} {w:World} {K:PySem.W.Frag} {mg:Str→Option Value} {base:Heap} {A:Around} {outer:List Env} {s:Shared} {H:Hp} (e:Env0 P w K mg base A outer s H) (C:Addr) (us:List Value) (kw:List (Str × Value)) :
  Env0 P w K mg base (A.under (.builtin "type.__call__" ⟨.ref C :: us,kw⟩)) outer s H:=⟨by first | exact e.frames | (simpa [Around.under,Code.envs,Code.isFrame,pushEnvs] using e.frames),e.mod,e.bs,e.bsz,e.funs,e.frf,e.hok,e.bare⟩
section
variable {X:Cx} {pins:List (Addr × Obj)} {σ:St} {H:Hp} {s s':Shared}
theorem Inv.env0 (I:Inv X pins σ H s):Env0 X.prog X.w X.K X.mg X.base X.A X.stack s H:=
 ⟨I.ok.frames,I.ok.mod,I.bs,Nat.le_trans I.ok.bsz I.sz,I.stack,I.stkFree,I.hok,I.bare⟩
theorem Inv.after {Q:VK} {u:Value} (I:Inv X pins σ H s) (h:CE X.stack X.prog X.w H s Q u s'):EP X pins σ Q u s':=by
 obtain ⟨v,H',os,bare,un,hok,r,q⟩:=h
 obtain ⟨hh,g,d,t,os'⟩:=s'
 obtain rfl:os' = s.os:=os
 exact ⟨v,H',I.call (h':=hh) (g':=g) (d':=d) (t':=t) (ch:=[]) un hok bare (fun b z=>absurd z (by simp)),r,q⟩
end
noncomputable def tCall (sp:Sp) (dvs:List V) (E:XK) (t:TA):TE:=fun σ H Q=>t σ H fun vs H1=>sp (vs ++ dvs) H1 Q E
noncomputable def tMeth (C:Addr) (m:Str) (sp:Sp) (dvs:List V) (E:XK) (ta:TE) (t:TA):TE:=fun σ H Q=>ta σ H fun x H1=>∃ a dx fs,x = .ref a∧H1 a = some (.ins C dx fs)∧fs.lookup m = none∧
 t σ H1 fun vs H2=>sp (x :: (vs ++ dvs)) H2 Q E
noncomputable def tMake (C:Addr) (sp:Sp) (dvs:List V) (E:XK) (t:TA):TE:=fun σ H Q=>t σ H fun vs H1=>∀ x dx,H1 x = none→H1 dx = none→dx ≠ x→
 sp (.ref x :: (vs ++ dvs)) (upd (upd H1 dx (.own x)) x (.ins C dx [])) (fun v H2=>v = .non∧Q (.ref x) H2) E
noncomputable def Binds (K:PySem.W.Frag) (fd:FuncData) (ps:List Str) (ds:List Value):Prop:=
 ∀ (s:Shared) (us:List Value),K.In s.heap→(us ++ ds).length = ps.length→BindsTo s fd ⟨us,[]⟩ (ps.zip (us ++ ds))
theorem Binds.all {K:PySem.W.Frag} {fd:FuncData} {ps:List Str} (h:∀ us:List Value,us.length = ps.length→bindArgs fd ⟨us,[]⟩ = pure (ps.zip us)):Binds K fd ps []:=fun s us _ hl=>by
 rw [List.append_nil] at hl ⊢
 exact .of_eq (h us hl)
noncomputable def Passes (CX:CXT) (X:Cx) (E:XK):Prop:=∀ (pins:List (Addr × Obj)) (σ:St) (H:Hp) (s:Shared) (e:Value) (s':Shared),Inv X pins σ H s→CX X.stack H s E e s'→X.xe e s'
section
variable {X:Cx} {CX:CXT} {k:Nat} {f C:Addr} {fd:FuncData} {ps:List Str} {sp:Sp} {dvs:List V} {ds:List Value} {E:XK} {x m:Str} {p pos apos:Pos} {e o:Expr} {es:List Expr} {ta:TE} {t:TA}
theorem run_fn {pins:List (Addr × Obj)} {σ:St} {H:Hp} {s:Shared} {Q:VK} {us:List Value} {vs:List V} (F:FnOk X.prog X.w X.K X.mg X.base CX k f fd ps sp) (hr:Room k X.A) (hb:Binds X.K fd ps ds) (hd:Vals dvs ds) (hx:Passes CX X E)
  (I:Inv X pins σ H s) (r:Vals vs us) (h:sp (vs ++ dvs) H Q E):wpAny (model X.prog X.w) X.A (call (.ref f) us) (EP X pins σ Q) X.xe s:=by
 have r2:Vals (vs ++ dvs) (us ++ ds):=r.append hd
 have hl:(us ++ ds).length = ps.length:=by rw [← r2.length]; exact F.len _ _ _ _ h
 refine wpAny_call (codeAny_mono (F.run X.A X.stack s H ⟨us,[]⟩ (us ++ ds) (vs ++ dvs) Q E hr I.env0 (hb s us I.kIn hl) r2 h) fun r s' hq=>?_)
 cases r with
 | error e=>exact hx pins σ H s e s' I hq
 | ok fl=>
  cases fl with
  | ret u=>exact I.after hq
  | next=>exact False.elim hq
  | brk=>exact False.elim hq
  | cont=>exact False.elim hq
theorem pe_call (F:FnOk X.prog X.w X.K X.mg X.base CX k f fd ps sp) (hr:Room k X.A) (hg:Gl X x) (hm:X.mg x = some (.ref f)) (hk:PySem.W.keepIn X.K (.ref f) = true) (hb:Binds X.K fd ps ds) (hd:Vals dvs ds) (hx:Passes CX X E)
  (ha:PA X (e :: es) t) (hdb:(x == ("__debug__":Str)) = false:=by decide) (he:starEach (e :: es) X.env = (false,eval e X.env) :: starEach es X.env:=by rfl) (hpl:(backTo pos (starEach es X.env)).any (·.1) = false:=by rfl) :
  PE X (.Call (.Name x p) (e :: es) [] pos) (tCall sp dvs E t):=by
 intro pins s σ H Q I h
 refine wpAny_Call_Name_kw (ld_glob I hg hm ?_ hdb)
 refine PySem.W.callWith_K (h₀:=X.base) I.ok.mod.kin hk (thn (ha pos pins s σ H _ I h) fun us s1 ⟨vs,H1,I1,r,q⟩=>⟨I1.kIn,?_⟩) he hpl
 exact run_fn F hr hb hd hx I1 r q
theorem pe_meth {pl:Sem Bool} (he:PE X o ta) (c:Cls X.K C) (hm:Meth X.K C m f) (F:FnOk X.prog X.w X.K X.mg X.base CX k f fd ps sp) (hr:Room k X.A) (hb:Binds X.K fd ps ds) (hd:Vals dvs ds) (hx:Passes CX X E) (ha:PA X (e :: es) t)
  (hst:starEach (e :: es) X.env = (false,eval e X.env) :: starEach es X.env:=by rfl) (hpl:(backTo pos (starEach es X.env)).any (·.1) = false:=by rfl)
  (ht:eval (.Call (.Attribute o m apos) (e :: es) [] pos) X.env = (do
   let ov ← eval o X.env
   standAt apos.atName
   let (f,first) ← holding [ov] (getMethod ov m pl)
   callWith pos f first (backTo pos (starEach (e :: es) X.env)) (backToKw pos (keywordEach [] X.env))):=by rfl) :
  PE X (.Call (.Attribute o m apos) (e :: es) [] pos) (tMeth C m sp dvs E ta t):=by
 intro pins s σ H Q I h
 refine PySem.W.methodCall_KW (pl:=pl) (thn (he pins s σ H _ I h) fun u s1 ⟨x,H1,I1,rx,a,dx,fs,ex,ea,l,q⟩=>?_) ht
 subst ex
 obtain rfl:u = Value.ref a:=rx
 refine getmeth_ok I1 ea c hm l ?_
 refine PySem.W.callWith_K (first:=[.ref a]) (h₀:=X.base) I.ok.mod.kin hm.kp (thn (ha pos pins s1 σ H1 _ I1 q) fun us s2 ⟨vs,H2,I2,r,q2⟩=>⟨I2.kIn,?_⟩) hst hpl
 exact run_fn (us:=.ref a :: us) (vs:=.ref a :: vs) F hr hb hd hx I2 (.cons rfl r) q2
structure Mk (K:PySem.W.Frag) (C f:Addr):Prop where
 makes:PySem.W.makesIn K C = true
 init:PySem.W.findIn K (.ref C) "__init__" = some (some (.ref f))
 fn:PySem.W.isFn K (.ref f) = true
 kp:PySem.W.keepIn K (.ref C) = true
theorem run_make {pins:List (Addr × Obj)} {σ:St} {H:Hp} {s:Shared} {Q:VK} {us:List Value} {vs:List V} (M:Mk X.K C f) (F:FnOk X.prog X.w X.K X.mg X.base CX k f fd ps sp) (hr:Room (k + 1) X.A) (hb:Binds X.K fd ps ds) (hd:Vals dvs ds)
  (hx:Passes CX X E) (I:Inv X pins σ H s) (r:Vals vs us)
  (h:∀ x dx,H x = none→H dx = none→dx ≠ x→sp (.ref x :: (vs ++ dvs)) (upd (upd H dx (.own x)) x (.ins C dx [])) (fun v H2=>v = .non∧Q (.ref x) H2) E) :
  wpAny (model X.prog X.w) X.A (call (.ref C) us) (EP X pins σ Q) X.xe s:=by
 have hq:=h (s.heap.objs.size + 1) s.heap.objs.size (I.hok.fresh (Nat.le_succ _)) (I.hok.fresh (Nat.le_refl _)) (Nat.ne_of_lt (Nat.lt_succ_self _))
 have I2:=Inv.made (C:=C) I
 have r2:Vals (V.ref (s.heap.objs.size + 1) :: (vs ++ dvs)) (Value.ref (s.heap.objs.size + 1) :: (us ++ ds)):=.cons rfl (r.append hd)
 have hl:(Value.ref (s.heap.objs.size + 1) :: us ++ ds).length = ps.length:=by
  have e:=r2.length
  rw [F.len _ _ _ _ hq] at e
  exact e.symm
 refine wpAny_call (make_map (f:=f) I.kIn M.makes M.init (beq_iff_eq.mp M.fn) (codeAny_mono (F.run _ X.stack _ _ ⟨Value.ref (s.heap.objs.size + 1) :: us,[]⟩ (Value.ref (s.heap.objs.size + 1) :: (us ++ ds)) _ _ E (hr.make C us [])
  (I2.env0.make C us []) (hb _ (Value.ref (s.heap.objs.size + 1) :: us) I2.kIn hl) r2 hq) fun r s' hq'=>?_))
 cases r with
 | error e=>exact hx pins σ _ _ e s' I2 hq'
 | ok fl=>
  cases fl with
  | ret u=>
   obtain ⟨v,H',I3,rv,ev,q3⟩:=I2.after hq'
   subst ev
   exact ⟨rv,⟨V.ref (s.heap.objs.size + 1),H',I3,rfl,q3⟩⟩
  | next=>exact False.elim hq'
  | brk=>exact False.elim hq'
  | cont=>exact False.elim hq'
theorem pe_make (M:Mk X.K C f) (F:FnOk X.prog X.w X.K X.mg X.base CX k f fd ps sp) (hr:Room (k + 1) X.A) (hg:Gl X x) (hm:X.mg x = some (.ref C)) (hb:Binds X.K fd ps ds) (hd:Vals dvs ds) (hx:Passes CX X E)
  (ha:PA X (e :: es) t) (hdb:(x == ("__debug__":Str)) = false:=by decide) (he:starEach (e :: es) X.env = (false,eval e X.env) :: starEach es X.env:=by rfl) (hpl:(backTo pos (starEach es X.env)).any (·.1) = false:=by rfl) :
  PE X (.Call (.Name x p) (e :: es) [] pos) (tMake C sp dvs E t):=by
 intro pins s σ H Q I h
 refine wpAny_Call_Name_kw (ld_glob I hg hm ?_ hdb)
 refine PySem.W.callWith_K (h₀:=X.base) I.ok.mod.kin M.kp (thn (ha pos pins s σ H _ I h) fun us s1 ⟨vs,H1,I1,r,q⟩=>⟨I1.kIn,?_⟩) he hpl
 exact run_make M F hr hb hd hx I1 r q
end
section
variable {X:Cx} {CX:CXT} {k:Nat} {f C:Addr} {fd:FuncData} {ps ks:List Str} {sp:Sp} {E:XK} {x m:Str} {p pos apos kpos:Pos} {e o:Expr} {es:List Expr} {kws:List Keyword} {te ta:TE} {t tk:TA} {nm:Option Str}
structure KBinds (K:PySem.W.Frag) (fd:FuncData) (ps ks:List Str) (g:List Value→List Value→List Value) (gV:List V→List V→List V):Prop where
 to:∀ (s:Shared) (us ws:List Value),K.In s.heap→(g us ws).length = ps.length→BindsTo s fd ⟨us,ks.zip ws⟩ (ps.zip (g us ws))
 rel:∀ {vs:List V} {us:List Value} {zs:List V} {ws:List Value},Vals vs us→Vals zs ws→Vals (gV vs zs) (g us ws)
variable {g:List Value→List Value→List Value} {gV:List V→List V→List V}
end
structure FnScope (N P:List Str) (sc:Scope):Prop where
 kind:sc.kind = .function
 co:sc.isCoroutine = false
 gen:sc.isGenerator = false
 nd:N.Nodup
 pre:N.take P.length = P
 par:∀ x ∈ P,sc.names.lookup x = some .local ∨ sc.names.lookup x = some .cell
 nofree:∀ y ∈ sc.names,y.2 ≠ .free
theorem bindL_out {kindOf:Str→Option NameKind} {x:Str}:∀ {binds:List (Str × Value)} {m:Str→Option Value},(∀ v,(x,v) ∉ binds)→bindL kindOf binds m x = m x
 | [],_,_=>rfl
 | (n,v) :: r,m,h=>by
  unfold bindL
  rw [bindL_out fun w hw=>h w (List.mem_cons_of_mem _ hw)]
  split
  ·have:x ≠ n:=by rintro rfl; exact h v List.mem_cons_self
   simp [this]
  ·rfl
theorem bindC_out {kindOf:Str→Option NameKind} {x:Str}:∀ {binds:List (Str × Value)} {m:Str→Option Value},(∀ v,(x,v) ∉ binds)→bindC kindOf binds m x = m x
 | [],_,_=>rfl
 | (n,v) :: r,m,h=>by
  unfold bindC
  rw [bindC_out fun w hw=>h w (List.mem_cons_of_mem _ hw)]
  split
  ·rfl
  ·have:x ≠ n:=by rintro rfl; exact h v List.mem_cons_self
   simp [this]
theorem bindL_get {kindOf:Str→Option NameKind} {x:Str} {v:Value}:∀ {P:List Str} {vs:List Value} {i:Nat} {m:Str→Option Value},P.Nodup→P[i]? = some x→vs[i]? = some v→kindOf x = some .local→
  bindL kindOf (P.zip vs) m x = some v
 | [],_,_,_,_,h,_,_=>by simp at h
 | _ :: _,[],_,_,_,_,h,_=>by simp at h
 | p :: P,w :: vs,0,m,nd,h1,h2,hk=>by
  simp at h1 h2; subst h1; subst h2
  show bindL kindOf ((p,w) :: P.zip vs) m p = _
  unfold bindL
  rw [bindL_out fun v hv=>(List.nodup_cons.mp nd).1 (List.of_mem_zip hv).1,if_pos hk]
  simp
 | p :: P,w :: vs,i + 1,m,nd,h1,h2,hk=>by
  show bindL kindOf ((p,w) :: P.zip vs) m x = _
  unfold bindL
  exact bindL_get (i:=i) (List.nodup_cons.mp nd).2 (by simpa using h1) (by simpa using h2) hk
theorem bindC_get {kindOf:Str→Option NameKind} {x:Str} {v:Value}:∀ {P:List Str} {vs:List Value} {i:Nat} {m:Str→Option Value},P.Nodup→P[i]? = some x→vs[i]? = some v→kindOf x ≠ some .local→
  bindC kindOf (P.zip vs) m x = some v
 | [],_,_,_,_,h,_,_=>by simp at h
 | _ :: _,[],_,_,_,_,h,_=>by simp at h
 | p :: P,w :: vs,0,m,nd,h1,h2,hk=>by
  simp at h1 h2; subst h1; subst h2
  show bindC kindOf ((p,w) :: P.zip vs) m p = _
  unfold bindC
  rw [bindC_out fun v hv=>(List.nodup_cons.mp nd).1 (List.of_mem_zip hv).1,if_neg hk]
  simp
 | p :: P,w :: vs,i + 1,m,nd,h1,h2,hk=>by
  show bindC kindOf ((p,w) :: P.zip vs) m x = _
  unfold bindC
  exact bindC_get (i:=i) (List.nodup_cons.mp nd).2 (by simpa using h1) (by simpa using h2) hk
noncomputable def start (N:List Str) (vs:List V):St:=vs.map some ++ List.replicate (N.length - vs.length) none
noncomputable def cxOf (CX:CXT) (P:Program) (w:World) (K:PySem.W.Frag) (mg:Str→Option Value) (base:Heap) (N:List Str) (qual:Str) (scope:Scope) (f:Addr) (cd:Value) (A:Around) (outer:List Env) (s:Shared) (H:Hp) (E:XK):Cx where
 prog:=P
 w:=w
 K:=K
 mg:=mg
 base:=base
 A:=A.deeper (envOfC qual scope s.heap.objs.size f cd)
 N:=N
 s₀:=s
 H₀:=H
 env:=envOfC qual scope s.heap.objs.size f cd
 outer:=outer
 stack:=envOfC qual scope s.heap.objs.size f cd :: outer
 ex:=[]
 calm:=true
 fn:=fun _=>true
 pn:=[]
 xe:=fun e s'=>wpAny (model P w) (A.deeper (envOfC qual scope s.heap.objs.size f cd)) (leaving (envOfC qual scope s.heap.objs.size f cd) e) (fun _ s''=>CX outer H s E e s'') (fun e' s''=>CX outer H s E e' s'') s'
theorem cell_has {sc:Scope} {n:Nat} {x:Str} (h:sc.names.lookup x = some .cell):∃ c,(cellsFrom n sc.names []).lookup x = some c:=by
 have q:=PySem.W.cellsFrom_some sc.names n [] (.inl h)
 exact Option.isSome_iff_exists.mp q
theorem inv_start {CX:CXT} {P:Program} {w:World} {K:PySem.W.Frag} {mg:Str→Option Value} {base:Heap} {N ps:List Str} {qual:Str} {scope:Scope} {f:Addr} {cd:Value} {A:Around} {outer:List Env} {s s1:Shared} {H:Hp} {E:XK} {us:List Value} {vs:List V}
  (S:FnScope N ps scope) (hd:A.handled = none) (e0:Env0 P w K mg base A outer s H) (hl:vs.length = ps.length) (r:Vals vs us)
  (x:InCallC s s.heap.objs.size (bindL (envOfC qual scope s.heap.objs.size f cd).kindOf (ps.zip us) fun _=>none) (cellsFrom (s.heap.objs.size + 1) scope.names []) (bindC (envOfC qual scope s.heap.objs.size f cd).kindOf (ps.zip us) fun _=>none) s1) :
  Inv (cxOf CX P w K mg base N qual scope f cd A outer s H E) [] (start N vs) H s1:=by
 have hpl:ps.length ≤ N.length:=by have:=congrArg List.length S.pre; rw [List.length_take] at this; omega
 obtain ⟨h1,tk,rfl,hk⟩:=x.done
 have noA:∀ b:Addr,b ∉ (cxOf CX P w K mg base N qual scope f cd A outer s H E).ex:=fun b z=>absurd (show b ∈ ([]:List Addr) from z) (by simp)
 refine ⟨⟨e0.mod,S.kind,rfl,rfl,Nat.le_refl _,fun y z c h1 h2=>?_,fun y hy=>?_,fun y c _ h=>?_,fun _=>hd,Around.frames_deeper e0.frames,.inr ⟨rfl,rfl⟩,fun b z=>absurd z (noA b),e0.bs,e0.bsz,fun b _ _=>noA b,fun b z=>absurd z (noA b),e0.funs,e0.frf⟩,
  rfl,e0.bare,Un.kept hk,⟨_,x.toInCall.ns,fun i y v h1 h2 h3=>?_⟩,fun y c h=>⟨_,x.cell y c h⟩,e0.hok.fresh (Nat.le_refl _),fun y c h=>?_,fun p hp=>absurd (show p ∈ ([]:List (Addr × Obj)) from hp) (by simp),e0.hok.kept hk,?_⟩
 ·exact name_of_addr x.apart (PySem.mem_of_lookup h1) (PySem.mem_of_lookup h2)
 ·have hy:scope.names.lookup y = some .cell ∨ scope.names.lookup y = some .free:=hy
  rcases hy with hy | hy
  ·exact cell_has hy
  ·exact absurd rfl (S.nofree _ (PySem.mem_of_lookup hy))
 ·exact Nat.le_of_lt (x.above y c (PySem.mem_of_lookup h))
 ·have hi:i < vs.length:=by
   unfold start at h2
   by_cases hi:i < vs.length
   ·exact hi
   ·rw [List.getElem?_append_right (by simpa using hi)] at h2
    rw [List.getElem?_replicate] at h2
    split at h2 <;> cases h2
  have ha:vs[i]? = some v:=by
   unfold start at h2
   rw [List.getElem?_append_left (by simpa using hi),List.getElem?_map] at h2
   cases e:vs[i]? with
   | none=>rw [e] at h2; cases h2
   | some a=>rw [e] at h2; cases h2; rfl
  obtain ⟨u,hu,rv⟩:=r.get ha
  have hp:ps[i]? = some y:=by
   rw [← S.pre,List.getElem?_take_of_lt (by omega)]; exact h1
  have ndP:ps.Nodup:=by rw [← S.pre]; exact S.nd.sublist (List.take_sublist _ _)
  refine ⟨u,rv,?_⟩
  rcases S.par y (List.mem_of_getElem? hp) with k | k
  ·exact .inl ⟨k,bindL_get ndP hp hu k⟩
  ·obtain ⟨c,e⟩:=cell_has (n:=s.heap.objs.size + 1) k
   refine .inr ⟨.inl k,c,e,?_⟩
   have q:=x.cell y c e
   rw [bindC_get ndP hp hu (by show scope.names.lookup y ≠ _; rw [k]; decide)] at q
   exact q
 ·exact e0.hok.fresh (Nat.le_of_lt (x.above y c (PySem.mem_of_lookup h)))
 ·unfold start
  show _ = N.length
  rw [List.length_append,List.length_map,List.length_replicate]
  omega
theorem fn_of {CX:CXT} {P:Program} {w:World} {K:PySem.W.Frag} {mg:Str→Option Value} {base:Heap} {k:Nat} {f:Addr} {name qual:Str} {params:Arguments} {body:List Stmt} {scope:Scope} {dV kV doc pm cdv ct oc:Value} {an od:Option Addr}
  {osl:Array (Option Value)} {N ps:List Str} {sp:Sp} (lk:K.lookup f = some ⟨oc,od,.func (PySem.W.fnOf name qual params body scope dV kV doc pm an cdv ct),osl⟩) (hcd:PySem.W.codeIn K cdv qual = true) (S:FnScope N ps scope)
  (len:∀ vs H Q E,sp vs H Q E→vs.length = ps.length)
  (hbody:∀ (A:Around) (outer:List Env) (s:Shared) (H:Hp) (vs:List V) (Q:VK) (E:XK),Room k (A.deeper (envOfC qual scope s.heap.objs.size f cdv))→sp vs H Q E→
   ∃ t,PSs (cxOf CX P w K mg base N qual scope f cdv A outer s H E) body t∧t { nx:=fun _ H'=>Q .non H',rt:=Q } (start N vs) H) :
  FnOk P w K mg base CX (k + 1) f (PySem.W.fnOf name qual params body scope dV kV doc pm an cdv ct) ps sp:=by
 refine ⟨len,fun A outer s H args us vs Q E hr e0 hb r hsp=>?_⟩
 have hl:=len _ _ _ _ hsp
 have KX:K.In s.heap:=e0.mod.kin.keeps fun b o e=>(e0.bs b o e).1
 have lim:s.heap.NoLimit:=e0.mod.nolimit.keeps fun b o e=>(e0.bs b o e).1
 have hkind:∀ y ∈ ps.zip us,scope.names.lookup y.1 = some .local ∨ (scope.names.lookup y.1 = some .cell∧((cellsFrom (s.heap.objs.size + 1) scope.names []).lookup y.1).isSome = true):=fun ⟨n,v⟩ hy=>by
  rcases S.par n (List.of_mem_zip hy).1 with q | q
  ·exact .inl q
  ·exact .inr ⟨q,PySem.W.cellsFrom_some _ _ _ (.inl q)⟩
 refine codeAny_call_function hr.depth (KX _ _ lk) rfl S.co S.gen rfl (PySem.W.codeRec_of KX hcd) (hb _ _ _ _ ?_)
 refine wpAny_newFunctionEnv_cells S.kind hkind fun env he s1 x=>?_
 subst he
 refine ⟨lim.keeps x.toInCall.keep,codeAny_func ?_⟩
 obtain ⟨t,ht,hq⟩:=hbody A outer s H vs Q E (hr.deeper _) hsp
 have I:Inv (cxOf CX P w K mg base N qual scope f cdv A outer s H E) [] (start N vs) H s1:=inv_start S hr.hd e0 hl r x
 refine wpAny_mono (ht [] s1 (start N vs) H _ I hq) (fun fl s' hs=>?_) fun e s' hs=>hs
 have fin:∀ {σ':St} {H':Hp} {v:V} {u:Value},Inv (cxOf CX P w K mg base N qual scope f cdv A outer s H E) [] σ' H' s'→RelV v u→Q v H'→CE outer P w H s Q u s':=
  fun {σ' H' v u} J rv q=>⟨v,H',J.os,J.bare,J.base,J.hok,rv,q⟩
 cases fl with
 | ret u=>
  obtain ⟨v,σ',H',J,rv,q⟩:=hs
  exact fin J rv q
 | next=>
  obtain ⟨σ',H',J,q⟩:=hs
  exact fin (v:=V.non) (u:=Value.none) J rfl q
 | brk=>
  obtain ⟨_,_,_,q⟩:=hs
  exact False.elim q
 | cont=>
  obtain ⟨_,_,_,q⟩:=hs
  exact False.elim q
section
variable {X:Cx} {x:Str} {p pos:Pos} {e:Expr} {es:List Expr} {t:TA} {id T:String} {r:List V→Hp→VK→Prop}
noncomputable def tCB (r:List V→Hp→VK→Prop) (t:TA):TE:=fun σ H Q=>t σ H fun vs H1=>r vs H1 Q
theorem pe_callB (hc:CallR X (.builtin id) r) (hg:Gl X x) (hm:X.mg x = none) (hv:bootBuiltins x = some (.builtin id)) (ha:PA X (e :: es) t) (hn:x ≠ "__name__":=by decide) (hdb:(x == ("__debug__":Str)) = false:=by decide)
  (he:starEach (e :: es) X.env = (false,eval e X.env) :: starEach es X.env:=by rfl) (hpl:(backTo pos (starEach es X.env)).any (·.1) = false:=by rfl):PE X (.Call (.Name x p) (e :: es) [] pos) (tCB r t):=by
 intro pins s σ H Q I h
 refine wpAny_Call_Name_kw (ld_blt I hg hm hv ?_ hn hdb)
 exact PyProof.Rows.callWith_builtin1 (thn (ha pos pins s σ H _ I h) fun us s1 ⟨vs,H1,I1,r1,q1⟩=>hc pins s1 σ H1 vs us Q I1 r1 q1) he hpl
theorem pe_callTy (hc:CallR X (.type T) r) (hg:Gl X x) (hm:X.mg x = none) (hv:bootBuiltins x = some (.type T)) (ha:PA X (e :: es) t) (hn:x ≠ "__name__":=by decide) (hdb:(x == ("__debug__":Str)) = false:=by decide)
  (he:starEach (e :: es) X.env = (false,eval e X.env) :: starEach es X.env:=by rfl) (hpl:(backTo pos (starEach es X.env)).any (·.1) = false:=by rfl):PE X (.Call (.Name x p) (e :: es) [] pos) (tCB r t):=by
 intro pins s σ H Q I h
 refine wpAny_Call_Name_kw (ld_blt I hg hm hv ?_ hn hdb)
 exact PyProof.Rows.callWith_type1 (thn (ha pos pins s σ H _ I h) fun us s1 ⟨vs,H1,I1,r1,q1⟩=>hc pins s1 σ H1 vs us Q I1 r1 q1) he hpl
end
end L2
namespace HT
open PySem PyProof.Rows
section
open PySem.SeqAt
open PySem.AutoSeq1 (wpAny_loadPart')
open PySem.MeetsSeq PySem.MeetsSeq2 PySem.MeetsSeq3
end
section
variable {prog:Program} {w:World} {A:Around} {E:Value→Shared→Prop} {s:Shared}
theorem cat_tup {t b:Addr} {vs ws:List Value} {Q:Value→Shared→Prop} (ht:IsTup s.heap t vs.toArray) (hb:IsTup s.heap b ws.toArray) (hv:vs ≠ [])
  (h1:ws = []→Q (.ref t) s) (h2:ws ≠ []→Q (.ref s.heap.objs.size) { s with heap:=s.heap.push { cls:=.type "tuple",data:=.seq (vs ++ ws).toArray } })
  (hsz:vs.length + ws.length ≤ sizeLine):wpAny (model prog w) A (binaryOp .Add (.ref t) (.ref b)) Q E s:=by
 obtain ⟨⟨cls,dd,data,sl⟩,ho,hc,n,hd⟩:=id ht
 obtain ⟨⟨cls2,dd2,data2,sl2⟩,ho2,hc2,n2,hd2⟩:=id hb
 simp only at hc hd hc2 hd2
 subst hc hd hc2 hd2
 have e:vs.toArray ++ ws.toArray = (vs ++ ws).toArray:=by simp
 by_cases hw:ws = []
 ·exact concat_meets ⟨_,ho,rfl⟩ ⟨_,ho2,rfl⟩ noFill_tuple_add seq_tuple_add PySem.F.slot_tuple_add PySem.F.entry_tuple_add (PySem.F.args_tuple_add_2 _ _)
   (tuple_addW1 t b vs.toArray ws.toArray n n2 dd dd2 sl sl2 (by simpa using hv) (by simp [hw])) ⟨ho,ho2,h1 hw⟩
 ·refine concat_meets ⟨_,ho,rfl⟩ ⟨_,ho2,rfl⟩ noFill_tuple_add seq_tuple_add PySem.F.slot_tuple_add PySem.F.entry_tuple_add (PySem.F.args_tuple_add_2 _ _)
   (tuple_addW2 t b vs.toArray ws.toArray n n2 dd dd2 sl sl2 (by simpa using hv) (by simpa using hw) (by rw [List.size_toArray,List.size_toArray]; exact hsz)) ⟨ho,ho2,?_⟩
  rw [e]
  exact h2 hw
noncomputable def sIx (n d:Nat):Option Int→Nat
 | none=>d
 | some v=>if v < 0 then (v + (n:Int)).toNat else min v.toNat n
theorem sIx_none (n d:Nat):sIx n d none = d:=rfl
theorem sIx_nat (n d k:Nat):sIx n d (some (k:Int)) = min k n:=by
 show (if (k:Int) < 0 then ((k:Int) + (n:Int)).toNat else min (k:Int).toNat n) = min k n
 rw [if_neg (by omega),Int.toNat_natCast]
theorem sIx_le (n d:Nat) (hd:d ≤ n) (o:Option Int):sIx n d o ≤ n:=by
 cases o with
 | none=>exact hd
 | some v=>
  show (if v < 0 then (v + (n:Int)).toNat else min v.toNat n) ≤ n
  by_cases hv:v < 0
  ·rw [if_pos hv]; omega
  ·rw [if_neg hv]; exact Nat.min_le_right _ _
theorem clip_eq (v:Int) (n d:Nat):(if v < 0 then max (v + (n:Int)) 0 else min v (n:Int)) = ((sIx n d (some v):Nat):Int):=by
 show (if v < 0 then max (v + (n:Int)) 0 else min v (n:Int)) = (((if v < 0 then (v + (n:Int)).toNat else min v.toNat n):Nat):Int)
 by_cases hv:v < 0
 ·simp only [if_pos hv]; omega
 ·simp only [if_neg hv]; omega
theorem adjust_gen (lo hi:Option Int) (n:Nat):Builtin.Slice.sliceAdjust lo hi 1 (n:Int) = (((sIx n 0 lo:Nat):Int),((sIx n n hi:Nat):Int)):=by
 have h1:¬ ((1:Int) < 0):=by omega
 unfold Builtin.Slice.sliceAdjust
 simp only [h1,if_false]
 refine Prod.ext ?_ ?_
 ·cases lo with
  | none=>rfl
  | some v=>exact clip_eq v n 0
 ·cases hi with
  | none=>rfl
  | some v=>exact clip_eq v n n
theorem places_gen (i j:Nat):Builtin.Slice.slicePlaces (i:Int) (j:Int) 1 = j - i:=by
 unfold Builtin.Slice.slicePlaces
 have h1:(1:Int) > 0:=by omega
 simp only [h1,if_true,Int.ediv_one]
 split <;> omega
theorem slicePart_ {v:Value} {o:Option Int} {Q:Option Int→Shared→Prop} (p:IsPart v o) (h:Q o s):wpAny (model prog w) A (Builtin.Slice.slicePartIndex v) Q E s:=by
 cases p with
 | none=>exact slicePart_none h
 | int i t=>exact slicePart_int h
theorem sliceApplied_gen {sl:Addr} {vl vu:Value} {lo hi:Option Int} {n:Nat} {Q:Int × Int × Nat→Shared→Prop} (hs:s.heap.IsSliceOf sl vl vu .none) (pl:IsPart vl lo) (pu:IsPart vu hi)
  (h:Q (((sIx n 0 lo:Nat):Int),1,sIx n n hi - sIx n 0 lo) s):wpAny (model prog w) A (Builtin.Slice.sliceApplied (.ref sl) (pure (n:Int))) Q E s:=by
 obtain ⟨os,hos,hcs,hds⟩:=id hs
 unfold Builtin.Slice.sliceApplied Builtin.Slice.sliceFields
 refine wpAny_bind (wpAny_bind (wpAny_field hos hds (x:=vl) rfl (wpAny_bind (wpAny_field hos hds (x:=vu) rfl (wpAny_bind (wpAny_field hos hds (x:=.none) rfl (wpAny_pure ?_)))))))
 refine wpAny_bind (slicePart_none ?_)
 show wpAny _ _ (if ((1:Int) == 0) = true then _ else _) _ _ s
 rw [if_neg (by decide)]
 refine wpAny_bind (slicePart_ pl (wpAny_bind (slicePart_ pu (wpAny_bind (wpAny_pure ?_)))))
 show wpAny _ _ (match Builtin.Slice.sliceAdjust lo hi 1 (n:Int) with | (lo,hi)=>pure (lo,(1:Int),Builtin.Slice.slicePlaces lo hi 1)) _ _ s
 rw [adjust_gen lo hi n]
 show wpAny _ _ (pure (((sIx n 0 lo:Nat):Int),(1:Int),Builtin.Slice.slicePlaces ((sIx n 0 lo:Nat):Int) ((sIx n n hi:Nat):Int) 1)) _ _ s
 rw [places_gen]
 exact wpAny_pure h
theorem pick_gen (xs:Array Value) (i k:Nat):((List.range k).filterMap fun (m:Nat)=>xs[((i:Int) + (m:Int) * 1).toNat]?).toArray = ((xs.toList.drop i).take k).toArray:=by
 have e:(fun (m:Nat)=>xs[((i:Int) + (m:Int) * 1).toNat]?) = fun m=>xs[i + m]?:=by
  funext m
  have:((i:Int) + (m:Int) * 1).toNat = i + m:=by omega
  rw [this]
 rw [e]
 have:=pick_run xs i k
 rw [List.filterMap_map] at this
 have e2:((fun x=>xs[x]?) ∘ fun x=>i + x) = fun m=>xs[i + m]?:=rfl
 rw [e2] at this
 rw [this]
theorem getItem_tuple_cut {t sl:Addr} {items:Array Value} {vl vu:Value} {lo hi:Option Int} {Q:Value→Shared→Prop} (ht:IsTup s.heap t items) (hs:s.heap.IsSliceOf sl vl vu .none) (pl:IsPart vl lo) (pu:IsPart vu hi)
  (hw:¬ (sIx items.size 0 lo = 0∧sIx items.size items.size hi = items.size))
  (h:Q (.ref s.heap.objs.size) { s with heap:=s.heap.push { cls:=.type "tuple",data:=.seq ((items.toList.drop (sIx items.size 0 lo)).take (sIx items.size items.size hi - sIx items.size 0 lo)).toArray } })
  (hsz:items.size ≤ sizeLine):wpAny (model prog w) A (getItem (.ref t) (.ref sl)) Q E s:=by
 have htake:sizeOk (.seq ((items.toList.drop (sIx items.size 0 lo)).take (sIx items.size items.size hi - sIx items.size 0 lo)).toArray):=by
  show ((items.toList.drop (sIx items.size 0 lo)).take (sIx items.size items.size hi - sIx items.size 0 lo)).toArray.size ≤ sizeLine
  rw [List.size_toArray,List.length_take,List.length_drop,Array.length_toList]
  omega
 have hj:sIx items.size items.size hi ≤ items.size:=sIx_le _ _ (Nat.le_refl _) hi
 obtain ⟨os,hos,hcs,hds⟩:=id hs
 have hTs:s.TypeIs (.ref sl) "slice":=⟨os,hos,hcs⟩
 unfold getItem
 try with_reducible refine wpAny_holding ?_
 first | refine wpAny_bind (wpAny_pure ?_) | skip
 refine wpAny_bind (wpAny_sequenceKey ht.typeIs (by decide) ?_)
 refine wpAny_bind (wpAny_callSpecial?_slot (name:=Str.ofString "__getitem__") ht.typeIs PyProof.Rows.slot_tuple_getitem
  (wpAny_call_entry PyProof.Rows.slot_tuple_getitem ht.typeIs entry_tuple_getitem ?_ (args_tuple_getitem _ _)))
 show wpAny _ _ (Builtin.Tuple.tupleItemsOf (.ref t) >>= _) _ _ s
 refine wpAny_bind (tupleItemsOf_ ht ?_)
 refine wpAny_bind (wpAny_typeOf hTs ?_)
 rw [if_pos (by decide)]
 refine wpAny_bind (sliceApplied_gen hs pl pu ?_)
 have hno:¬ ((((sIx items.size 0 lo:Nat):Int) == 0 && (1:Int) == 1 && (sIx items.size items.size hi - sIx items.size 0 lo) == items.size) = true):=by
  intro q
  rw [Bool.and_eq_true,Bool.and_eq_true] at q
  have q1:((sIx items.size 0 lo:Nat):Int) = 0:=eq_of_beq q.1.1
  have q2:sIx items.size items.size hi - sIx items.size 0 lo = items.size:=eq_of_beq q.2
  exact hw ⟨by omega,by omega⟩
 show wpAny _ _ (if (((sIx items.size 0 lo:Nat):Int) == 0 && (1:Int) == 1 && (sIx items.size items.size hi - sIx items.size 0 lo) == items.size) = true then _ else _) _ _ s
 rw [if_neg hno,pick_gen]
 first
  | exact wpAny_bind (m:=Builtin.Tuple.tupleExact _) (wpAny_newObj_type (wpAny_pure ⟨_,rfl,wpAny_pure h⟩) htake)
  | exact wpAny_bind (m:=Builtin.Tuple.tupleExact _) (wpAny_newObj_type (wpAny_bind (wpAny_pure (wpAny_pure ⟨_,rfl,wpAny_pure h⟩))) htake)
  | exact wpAny_bind (wpAny_bind (m:=Builtin.Tuple.tupleExact _) (wpAny_newObj_type (wpAny_pure (wpAny_pure ⟨_,rfl,wpAny_pure h⟩)) htake))
  | exact wpAny_bind (wpAny_bind (m:=Builtin.Tuple.tupleExact _) (wpAny_newObj_type (wpAny_pure ⟨_,rfl,wpAny_pure h⟩) htake))
end
end HT
namespace L2
open PySem PySem.Spec PyProof.Rows
noncomputable abbrev TO:=St→Hp→(Option Int→Hp→Prop)→Prop
noncomputable def PO (X:Cx) (e:Option Expr) (t:TO):Prop:=
 ∀ (pins:List (Addr × Obj)) (s:Shared) (σ:St) (H:Hp) (Q:Option Int→Hp→Prop),Inv X pins σ H s→t σ H Q→
  wpAny (model X.prog X.w) X.A (evalPart e X.env) (fun u s'=>∃ o H',Inv X pins σ H' s'∧IsPart u o∧Q o H') X.xe s
noncomputable def tNoPart:TO:=fun _ H Q=>Q none H
noncomputable def tPart (t:TE):TO:=fun σ H Q=>t σ H fun x H1=>∃ i,x = .int i∧Q (some i) H1
section
variable {X:Cx} {e:Expr} {te:TE} {lo hi:Option Expr} {tl th:TO} {pos p2:Pos}
theorem po_none:PO X none tNoPart:=by
 intro pins s σ H Q I h
 rw [evalPart_none]
 exact wpAny_pure ⟨none,H,I,.none,h⟩
theorem po_some (h:PE X e te):PO X (some e) (tPart te):=by
 intro pins s σ H Q I hw
 rw [evalPart_some]
 refine thn (h pins s σ H _ I hw) fun u s1 ⟨x,H1,I1,r1,q1⟩=>?_
 obtain ⟨i,rfl,q⟩:=q1
 obtain ⟨t,rfl⟩:=r1
 exact ⟨some i,H1,I1,.int i t,q⟩
noncomputable def SlR (X:Cx) (r:V→Option Int→Option Int→Hp→VK→Prop):Prop:=
 ∀ (pins:List (Addr × Obj)) (s:Shared) (σ:St) (H:Hp) (x:V) (v vl vu:Value) (lo hi:Option Int) (sl:Addr) (Q:VK),Inv X pins σ H s→RelV x v→s.heap.IsSliceOf sl vl vu .none→IsPart vl lo→IsPart vu hi→r x lo hi H Q→
  ∃ T id,typeLookup (.type T) "__getitem__" = pure (some (.builtin id))∧s.TypeIs v T∧wpAny (model X.prog X.w) X.A (getItem v (.ref sl)) (EP X pins σ Q) X.xe s
noncomputable def tSl (r:V→Option Int→Option Int→Hp→VK→Prop) (te:TE) (tl th:TO):TE:=fun σ H Q=>te σ H fun x H1=>tl σ H1 fun l H2=>th σ H2 fun u H3=>r x l u H3 Q
theorem pe_slice {r:V→Option Int→Option Int→Hp→VK→Prop} (hr:SlR X r) (he:PE X e te) (hl:PO X lo tl) (hu:PO X hi th):PE X (.Subscript e (.Slice lo hi none p2) pos) (tSl r te tl th):=by
 intro pins s σ H Q I h
 refine Subscript_ (thn (he pins s σ H _ I h) fun v s1 ⟨x,H1,I1,r1,q1⟩=>?_)
 refine wpAny_Slice (thn (hl pins s1 σ H1 _ I1 q1) fun vl s2 ⟨l,H2,I2,pl,q2⟩=>thn (hu pins s2 σ H2 _ I2 q2) fun vu s3 ⟨u,H3,I3,pu,q3⟩=>?_)
 rw [evalPart_none]
 refine wpAny_pure ?_
 have I4:Inv X pins σ H3 { s3 with heap:=s3.heap.push { cls:=.type "slice",data:=.fields #[vl,vu,.none] } }:=I3.kept (t':=s3.toks) fun b ob q=>Heap.get?_push_of_some _ q
 obtain ⟨T,id,hT,ht,hg⟩:=hr pins { s3 with heap:=s3.heap.push { cls:=.type "slice",data:=.fields #[vl,vu,.none] } } σ H3 x v vl vu l u s3.heap.objs.size Q I4 r1 (Heap.IsSliceOf.new ..) pl pu q3
 show wpAny (model X.prog X.w) X.A (subscriptTail e (.Slice lo hi none p2) v (.ref s3.heap.objs.size)) (EP X pins σ Q) X.xe { s3 with heap:=s3.heap.push { cls:=.type "slice",data:=.fields #[vl,vu,.none] } }
 exact tail_any (ops:=[.ref s3.heap.objs.size,v]) ht hT hg (by with_unfolding_all rfl)
noncomputable def cutV (xs:List V) (lo hi:Option Int):List V:=(xs.drop (HT.sIx xs.length 0 lo)).take (HT.sIx xs.length xs.length hi - HT.sIx xs.length 0 lo)
theorem cutV_length (xs:List V) (lo hi:Option Int):(cutV xs lo hi).length ≤ xs.length:=by
 unfold cutV
 rw [List.length_take,List.length_drop]
 omega
noncomputable def rSlT (K:PySem.W.Frag):V→Option Int→Option Int→Hp→VK→Prop:=fun x lo hi H Q=>∃ a xs,x = .ref a∧SqT K H a xs∧
 ¬ (HT.sIx xs.length 0 lo = 0∧HT.sIx xs.length xs.length hi = xs.length)∧∀ p,H p = none→Q (.ref p) (upd H p (.tup (cutV xs lo hi)))
theorem sl_tup:SlR X (rSlT X.K):=by
 intro pins s σ H x v vl vu lo hi sl Q I rx hs pl pu h
 obtain ⟨a,xs,rfl,hx,hw,q⟩:=h
 cases rx
 obtain ⟨its,r,ht,hz⟩:=I.tuple hx
 have hlen:its.toArray.size = xs.length:=by rw [List.size_toArray]; exact r.length.symm
 refine ⟨"tuple",_,PyProof.Rows.slot_tuple_getitem.lookup,ht.typeIs,?_⟩
 refine HT.getItem_tuple_cut ht hs pl pu (by rw [hlen]; exact hw) ?_ (by rw [hlen]; exact hz)
 rw [hlen]
 refine ⟨.ref s.heap.objs.size,_,I.laid (t':=s.toks) (o:=.tup (cutV xs lo hi)) (fun b ob q=>Heap.get?_push_of_some _ q) (Nat.le_refl _) ?_,rfl,q _ (I.hok.fresh (Nat.le_refl _))⟩
 exact ⟨Nat.le_trans (cutV_length xs lo hi) hz,_,(r.drop (HT.sIx xs.length 0 lo)).take (HT.sIx xs.length xs.length hi - HT.sIx xs.length 0 lo),IsTupD.new _ _⟩
noncomputable def rCatT (K:PySem.W.Frag):R2:=fun x y H Q=>∃ a b xs ys,x = .ref a∧y = .ref b∧SqT K H a xs∧SqT K H b ys∧xs ≠ []∧xs.length + ys.length ≤ sizeLine∧
 (ys = []→Q (.ref a) H)∧(ys ≠ []→∀ p,H p = none→Q (.ref p) (upd H p (.tup (xs ++ ys))))
theorem Vals.nil_iff {xs:List V} {us:List Value} (r:Vals xs us):us = [] ↔ xs = []:=by
 cases r with
 | nil=>simp
 | cons _ _=>simp
theorem op_catT:OpR X (binaryOp .Add) (rCatT X.K):=by
 intro pins s σ H x y v u Q I rx ry h
 obtain ⟨a,b,xs,ys,rfl,rfl,ha,hb,hx,hz,q1,q2⟩:=h
 cases rx
 cases ry
 obtain ⟨its,r1,p1,_⟩:=I.tuple ha
 obtain ⟨its2,r2,p2,_⟩:=I.tuple hb
 refine HT.cat_tup p1 p2 (fun z=>hx (r1.nil_iff.mp z)) (fun z=>⟨.ref a,H,I,rfl,q1 (r2.nil_iff.mp z)⟩) (fun z=>?_) (by rw [← r1.length,← r2.length]; exact hz)
 refine ⟨.ref s.heap.objs.size,_,I.laid (t':=s.toks) (o:=.tup (xs ++ ys)) (fun b ob q=>Heap.get?_push_of_some _ q) (Nat.le_refl _) ?_,rfl,q2 (fun w=>z (r2.nil_iff.mpr w)) _ (I.hok.fresh (Nat.le_refl _))⟩
 exact ⟨by rw [List.length_append]; exact hz,_,r1.append r2,IsTupD.new _ _⟩
end
noncomputable def ixN (n:Nat) (i:Int):Option Nat:=if 0 ≤ i then (if i < n then some i.toNat else none) else if -(n:Int) ≤ i then some (i + n).toNat else none
noncomputable def atI {α:Type} (xs:List α) (i:Int):Option α:=(ixN xs.length i).bind fun j=>xs[j]?
theorem ixN_seq {n:Nat} {i:Int} {j:Nat} (h:ixN n i = some j):seqIndex? i n = some j∧j < n∧-(n:Int) ≤ i∧i < n:=by
 unfold ixN at h
 by_cases h0:0 ≤ i
 ·rw [if_pos h0] at h
  by_cases h1:i < n
  ·rw [if_pos h1] at h
   have e:i.toNat = j:=Option.some.inj h
   exact ⟨by rw [seqIndex_of h0 h1,e],by omega,by omega,h1⟩
  ·rw [if_neg h1] at h; cases h
 ·rw [if_neg h0] at h
  by_cases h1:-(n:Int) ≤ i
  ·rw [if_pos h1] at h
   have e:(i + n).toNat = j:=Option.some.inj h
   exact ⟨by rw [seqIndex_neg (by omega) h1,e],by omega,h1,by omega⟩
  ·rw [if_neg h1] at h; cases h
theorem atI_get {α:Type} {xs:List α} {i:Int} {v:α} (h:atI xs i = some v):∃ j,seqIndex? i xs.length = some j∧xs[j]? = some v∧j < xs.length∧-(xs.length:Int) ≤ i∧i < xs.length:=by
 unfold atI at h
 cases e:ixN xs.length i with
 | none=>rw [e] at h; cases h
 | some j=>
  rw [e] at h
  obtain ⟨h1,h2,h3,h4⟩:=ixN_seq e
  exact ⟨j,h1,h,h2,h3,h4⟩
theorem atI_nat {α:Type} {xs:List α} {j:Nat} {v:α} (h:xs[j]? = some v):atI xs (j:Int) = some v:=by
 have hj:j < xs.length:=(List.getElem?_eq_some_iff.mp h).1
 have e:ixN xs.length (j:Int) = some j:=by
  unfold ixN
  rw [if_pos (by omega),if_pos (by omega)]; simp
 unfold atI; rw [e]; exact h
noncomputable def PlainIx (b:Expr):Prop:=∀ o i,subscripted b false o i = operate [o,i] (getItem o i)
noncomputable def IxR (X:Cx) (r:R2):Prop:=
 ∀ (value slice:Expr) (pins:List (Addr × Obj)) (s:Shared) (σ:St) (H:Hp) (x y:V) (v u:Value) (Q:VK),Inv X pins σ H s→RelV x v→RelV y u→r x y H Q→
  subscripted slice false v u = operate [v,u] (getItem v u)→wpAny (model X.prog X.w) X.A (subscriptTail value slice v u) (EP X pins σ Q) X.xe s
noncomputable def MtR (X:Cx) (id:String) (r:V→List V→Hp→VK→Prop):Prop:=
 ∀ (pins:List (Addr × Obj)) (s:Shared) (σ:St) (H:Hp) (x:V) (xs:List V) (v:Value) (us:List Value) (Q:VK),Inv X pins σ H s→RelV x v→Vals xs us→r x xs H Q→
  wpAny (model X.prog X.w) X.A (call (.builtin id) (v :: us)) (EP X pins σ Q) X.xe s
section
variable {X:Cx} {a b:Expr} {ta tb:TE} {pos:Pos}
theorem pe_ix {r:R2} (hr:IxR X r) (ha:PE X a ta) (hb:PE X b tb) (hs:PlainIx b):PE X (.Subscript a b pos) (tOp r ta tb):=by
 intro pins s σ H Q I h
 exact Subscript_ (binT ha hb I h fun v u s2 x y H2 I2 rx ry q=>hr a b pins s2 σ H2 x y v u Q I2 rx ry q (hs _ _))
noncomputable def rIxL (K:PySem.W.Frag):R2:=fun x y H Q=>∃ p xs i v,x = .ref p∧y = .int i∧SqL K H p xs∧atI xs i = some v∧Q v H
noncomputable def rIxT (K:PySem.W.Frag):R2:=fun x y H Q=>∃ p xs i v,x = .ref p∧y = .int i∧SqT K H p xs∧atI xs i = some v∧Q v H
noncomputable def rIxS:R2:=fun x y H Q=>∃ z i c,x = .str z∧y = .int i∧z.length ≤ sizeLine∧atI z.cps.toList i = some c∧Q (.str ⟨#[c]⟩) H
theorem ix_list:IxR X (rIxL X.K):=by
 intro value slice pins s σ H x y v u Q I rx ry h hs
 obtain ⟨p,xs,i,z,rfl,rfl,hq,he,q⟩:=h
 cases rx
 obtain ⟨t,rfl⟩:=ry
 obtain ⟨its,r,pl,hz⟩:=I.list hq
 obtain ⟨j,h1,h2,h3,h4,h5⟩:=atI_get he
 obtain ⟨w,ew,rw'⟩:=r.get h2
 have hl:=r.length
 have hn:=line63
 have fin:EP X pins σ Q w s:=⟨z,H,I,rw',q⟩
 by_cases h0:0 ≤ i
 ·have hj:i.toNat = j:=by
   rw [seqIndex_of h0 h5] at h1
   exact Option.some.inj h1
  exact item_listR pl.isList h0 (by omega) (by rw [hj]; simpa using ew) fin hs
 ·have hj:(i + (its.toArray.size:Int)).toNat = j:=by
   rw [seqIndex_neg (by omega) h4] at h1
   rw [List.size_toArray,← hl]
   exact Option.some.inj h1
  exact subscriptTail_builtinR (x:=w) pl.isList.typeIs slot_list_getitem.lookup
   (wpAny_getItem_list_neg (Q:=fun r s'=>r = w∧EP X pins σ Q r s') pl.isList (by omega) (by rw [List.size_toArray] <;> omega) (by omega) (by rw [hj]; simpa using ew) ⟨rfl,fin⟩) hs
theorem ix_tup:IxR X (rIxT X.K):=by
 intro value slice pins s σ H x y v u Q I rx ry h hs
 obtain ⟨p,xs,i,z,rfl,rfl,hq,he,q⟩:=h
 cases rx
 obtain ⟨t,rfl⟩:=ry
 obtain ⟨its,r,pl,hz⟩:=I.tuple hq
 obtain ⟨j,h1,h2,h3,h4,h5⟩:=atI_get he
 obtain ⟨w,ew,rw'⟩:=r.get h2
 have hl:=r.length
 have hn:=line63
 have fin:EP X pins σ Q w s:=⟨z,H,I,rw',q⟩
 exact subscriptTail_builtinR (x:=w) pl.typeIs slot_tuple_getitem.lookup
  (getItem_tuple (j:=j) (Q:=fun r s'=>r = w∧EP X pins σ Q r s') pl (by omega) (by omega) (by rw [List.size_toArray,← hl]; exact h1) (by simpa using ew) ⟨rfl,fin⟩) hs
theorem ix_str:IxR X rIxS:=by
 intro value slice pins s σ H x y v u Q I rx ry h hs
 obtain ⟨z,i,c,rfl,rfl,hz,he,q⟩:=h
 obtain ⟨t,rfl⟩:=rx
 obtain ⟨t',rfl⟩:=ry
 obtain ⟨j,h1,h2,h3,h4,h5⟩:=atI_get he
 have hl:z.cps.toList.length = z.length:=by simp [Str.length]
 rw [hl] at h1 h4 h5
 have hn:=line63
 exact tail_any (typeIs_str s z t) slot_str_getitem.lookup (getItem_str (c:=c) (by
  have e1:decide (i < -(2 ^ 63:Int)) = false:=decide_eq_false (by omega)
  have e2:decide (i ≥ 2 ^ 63) = false:=decide_eq_false (by omega)
  rw [e1,e2,Bool.or_false]) (by rw [h1]; simpa using h2) ⟨.str ⟨#[c]⟩,H,I.tok _,⟨_,rfl⟩,q⟩) hs
theorem mapSeq_set (its:List Value) (n j:Nat) (u:Value):Obj.mapSeq (·.setIfInBounds j u) { cls:=.type "list",data:=.seq its.toArray n } = { cls:=.type "list",data:=.seq (its.set j u).toArray n }:=by
 simp [Obj.mapSeq]
theorem Inv.lst {pins:List (Addr × Obj)} {σ:St} {H:Hp} {s:Shared} {p:Addr} {xs:List V} (I:Inv X pins σ H s) (h:H p = some (.lst xs)) :
  ∃ (its:List Value) (n:Nat),Vals xs its∧s.heap.get? p = some { cls:=.type "list",data:=.seq its.toArray n }∧xs.length ≤ sizeLine:=by
 obtain ⟨z,its,n,r,e⟩:=I.hok p _ h
 exact ⟨its,n,r,e,z⟩
theorem Inv.lstUpd {pins:List (Addr × Obj)} {σ:St} {H:Hp} {s:Shared} {p:Addr} {xs ys:List V} {its its':List Value} {n n':Nat} {f:Obj→Obj} (I:Inv X pins σ H s) (h:H p = some (.lst xs))
  (ho:s.heap.get? p = some { cls:=.type "list",data:=.seq its.toArray n }) (hf:f { cls:=.type "list",data:=.seq its.toArray n } = { cls:=.type "list",data:=.seq its'.toArray n' }) (r:Vals ys its') (hz:ys.length ≤ sizeLine) (t:Nat) :
  Inv X pins σ (upd H p (.lst ys)) { s with heap:=s.heap.update p f,toks:=t }:=by
 have e:(s.heap.update p f).get? p = some { cls:=.type "list",data:=.seq its'.toArray n' }:=by
  rw [Heap.get?_update_self f ho (by rw [hf] <;> rfl),hf]
 refine I.write (x:=p) (e:=p) (by rw [h]; trivial) (.inl rfl) (fun b u hb q=>(Heap.get?_update_other _ _ (Ne.symm hb)).trans q) ⟨_,e⟩ ?_
 exact ⟨hz,its',n',r,e⟩
noncomputable def rSetL:V→V→V→Hp→(Hp→Prop)→Prop:=fun o i v H Q=>∃ p xs k j,o = .ref p∧i = .int k∧H p = some (.lst xs)∧ixN xs.length k = some j∧Q (upd H p (.lst (xs.set j v)))
theorem set_list:PSet X rSetL:=by
 intro pins s σ H o i v ov iv u Q I ro ri rv h
 obtain ⟨p,xs,k,j,rfl,rfl,hp,hj,q⟩:=h
 cases ro
 obtain ⟨t,rfl⟩:=ri
 obtain ⟨its,n,r,ho,hz⟩:=I.lst hp
 obtain ⟨h1,h2,h3,h4⟩:=ixN_seq hj
 have hl:=r.length
 have hn:=line63
 have I':Inv X pins σ (upd H p (.lst (xs.set j v))) { s with heap:=s.heap.update p (Obj.mapSeq (·.setIfInBounds j u)) }:=
  I.lstUpd hp ho (mapSeq_set its n j u) (r.set rv j) (by rw [List.length_set]; exact hz) s.toks
 by_cases h0:0 ≤ k
 ·have hk:k.toNat = j:=by
   rw [seqIndex_of h0 h4] at h1
   exact Option.some.inj h1
  exact PySem.W.ki_setAt ho h0 (by omega) (by rw [List.size_toArray,← hl]; exact h4) (by rw [hk]; exact ⟨_,I',q⟩)
 ·have hk:(k + (its.toArray.size:Int)).toNat = j:=by
   rw [seqIndex_neg (by omega) h3] at h1
   rw [List.size_toArray,← hl]
   exact Option.some.inj h1
  exact PySem.W.ki_setBack ho (by omega) (by rw [List.size_toArray,← hl]; exact h3) (by omega) (by rw [hk]; exact ⟨_,I',q⟩)
theorem slice_bounds (lo hi:Option Int) (n:Nat):(sliceBounds lo hi none n).1 = ((HT.sIx n 0 lo:Nat):Int)∧(sliceBounds lo hi none n).2.1 = ((HT.sIx n n hi:Nat):Int)∧(sliceBounds lo hi none n).2.2 = 1:=by
 refine ⟨?_,?_,rfl⟩
 ·cases lo with
  | none=>simp [sliceBounds,HT.sIx]
  | some i=>
   simp only [sliceBounds,HT.sIx,Option.getD_none,show (1:Int) > 0 by decide,if_true]
   by_cases h:i < 0
   ·simp only [h,if_true] <;> omega
   ·simp only [h,if_false] <;> omega
 ·cases hi with
  | none=>simp [sliceBounds,HT.sIx]
  | some i=>
   simp only [sliceBounds,HT.sIx,Option.getD_none,show (1:Int) > 0 by decide,if_true]
   by_cases h:i < 0
   ·simp only [h,if_true] <;> omega
   ·simp only [h,if_false] <;> omega
theorem slicePick_cut (its:List Value) (lo hi:Option Int):slicePick its.toArray lo hi none = ((its.drop (HT.sIx its.length 0 lo)).take (HT.sIx its.length its.length hi - HT.sIx its.length 0 lo)).toArray:=by
 obtain ⟨h1,h2,h3⟩:=slice_bounds lo hi its.toArray.size
 unfold slicePick
 rw [h1,h2,h3]
 simp only [sliceRange_one,pick_run,List.size_toArray] <;> rfl
noncomputable def rSlL (K:PySem.W.Frag):V→Option Int→Option Int→Hp→VK→Prop:=fun x lo hi H Q=>∃ a xs,x = .ref a∧SqL K H a xs∧∀ p,H p = none→Q (.ref p) (upd H p (.lst (cutV xs lo hi)))
theorem sl_list:SlR X (rSlL X.K):=by
 intro pins s σ H x v vl vu lo hi sl Q I rx hs pl pu h
 obtain ⟨a,xs,rfl,hx,q⟩:=h
 cases rx
 obtain ⟨its,r,ht,hz⟩:=I.list hx
 have hlen:=r.length
 refine ⟨"list",_,slot_list_getitem.lookup,ht.isList.typeIs,?_⟩
 refine wpAny_getItem_list_slice ht.isList hs pl pu .none (by simp) ?_ (by rw [List.size_toArray] <;> omega)
 rw [slicePick_cut,← hlen]
 refine ⟨.ref s.heap.objs.size,_,I.laid (t':=s.toks) (o:=.lst (cutV xs lo hi)) (fun b ob q=>Heap.get?_push_of_some _ q) (Nat.le_refl _) ?_,rfl,q _ (I.hok.fresh (Nat.le_refl _))⟩
 exact ⟨Nat.le_trans (cutV_length xs lo hi) hz,_,0,(r.drop (HT.sIx xs.length 0 lo)).take (HT.sIx xs.length xs.length hi - HT.sIx xs.length 0 lo),Heap.get?_push_size _ rfl⟩
theorem op_notIn_str:OpR X (compareOp .NotIn) (fun x y H Q=>∃ i j,x = .str i∧y = .str j∧Q (.bl (!(!(Builtin.Str.occurrences j i 0 j.length 1).isEmpty))) H):=by
 intro pins s σ H x y v u Q I rx ry h
 obtain ⟨i,j,rfl,rfl,q⟩:=h
 obtain ⟨t,rfl⟩:=rx
 obtain ⟨t',rfl⟩:=ry
 exact notIn_str ⟨.bl _,H,I,rfl,q⟩
theorem call_len_seq:CallR X (.builtin "len") (fun xs H Q=>∃ p ys,xs = [.ref p]∧(SqL X.K H p ys ∨ SqT X.K H p ys)∧Q (.int ys.length) H):=by
 intro pins s σ H xs us Q I r h
 obtain ⟨p,ys,rfl,hq,q⟩:=h
 obtain ⟨u,rfl,rx⟩:=vals1 r
 cases rx
 have hn:=line63
 rcases hq with hq | hq
 ·obtain ⟨its,r',pl,hz⟩:=I.list hq
  have hlen:=r'.length
  exact Calls.call_len_list pl.isList (by simp only [List.size_toArray] <;> omega) ⟨.int ys.length,H,I.tok _,⟨s.toks + 1,by rw [List.size_toArray,hlen]⟩,q⟩
 ·obtain ⟨its,r',pl,hz⟩:=I.tuple hq
  have hlen:=r'.length
  exact len_tuple pl (by simp only [List.size_toArray] <;> omega) ⟨.int ys.length,H,I.tok _,⟨s.toks + 1,by rw [List.size_toArray,hlen]⟩,q⟩
theorem call_len_str:CallR X (.builtin "len") (fun xs H Q=>∃ z,xs = [.str z]∧z.length ≤ sizeLine∧Q (.int z.length) H):=by
 intro pins s σ H xs us Q I r h
 obtain ⟨z,rfl,hz,q⟩:=h
 obtain ⟨u,rfl,t,rfl⟩:=vals1 r
 have hn:=line63
 exact len_str (by omega) ⟨.int z.length,H,I.tok _,⟨_,rfl⟩,q⟩
theorem call_list_of:CallR X (.type "list") (fun xs H Q=>∃ p ys,xs = [.ref p]∧(SqL X.K H p ys ∨ SqT X.K H p ys)∧∀ l,H l = none→Q (.ref l) (upd H l (.lst ys))):=by
 intro pins s σ H xs us Q I r h
 obtain ⟨p,ys,rfl,hq,q⟩:=h
 obtain ⟨u,rfl,rx⟩:=vals1 r
 cases rx
 have fin:∀ (its:List Value),Vals ys its→ys.length ≤ sizeLine→∀ (h':Heap) (c':Nat),(∀ b o',s.heap.get? b = some o'→h'.get? b = some o')→
   h'.get? s.heap.objs.size = some { cls:=.type "list",dict:=none,data:=.seq its.toArray c',slots:=#[] }→EP X pins σ Q (.ref s.heap.objs.size) { s with heap:=h' }:=fun its r' hz h' c' kp e=>
  ⟨.ref s.heap.objs.size,_,I.laid (t':=s.toks) kp (Nat.le_refl _) (show ObjOk X.prog X.w _ h' _ (.lst ys) from ⟨hz,its,c',r',e⟩),rfl,q _ (I.hok.fresh (Nat.le_refl _))⟩
 rcases hq with hq | hq
 ·obtain ⟨its,r',pl,hz⟩:=I.list hq
  have hlen:=r'.length
  obtain ⟨o,ho,hc,n,hd⟩:=pl.isList
  exact call_list_seq p (.inl rfl) ho hc hd (fun h' c' kp e=>fin its r' hz h' c' kp e) (by simp only [List.size_toArray] <;> omega)
 ·obtain ⟨its,r',pl,hz⟩:=I.tuple hq
  have hlen:=r'.length
  obtain ⟨o,ho,hc,n,hd⟩:=pl
  exact call_list_seq p (.inr rfl) ho hc hd (fun h' c' kp e=>fin its r' hz h' c' kp e) (by simp only [List.size_toArray] <;> omega)
theorem call_tuple_of:CallR X (.type "tuple") (fun xs H Q=>∃ p ys,xs = [.ref p]∧((SqL X.K H p ys∧∀ l,H l = none→Q (.ref l) (upd H l (.tup ys))) ∨ (SqT X.K H p ys∧Q (.ref p) H))):=by
 intro pins s σ H xs us Q I r h
 obtain ⟨p,ys,rfl,h⟩:=h
 obtain ⟨u,rfl,rx⟩:=vals1 r
 cases rx
 rcases h with ⟨hq,q⟩ | ⟨hq,q⟩
 ·obtain ⟨its,r',pl,hz⟩:=I.list hq
  have hlen:=r'.length
  refine call_tuple_list pl.isList (fun h' kp=>?_) (by simp only [List.size_toArray] <;> omega)
  have I1:Inv X pins σ H { s with heap:=h' }:=I.kept (t':=s.toks) kp
  have I2:Inv X pins σ (upd H h'.objs.size (.tup ys)) { s with heap:=h'.push { cls:=.type "tuple",data:=.seq its.toArray } }:=
   I1.laid (t':=s.toks) (fun b o e=>Heap.get?_push_of_some _ e) (Nat.le_refl _) (show ObjOk X.prog X.w _ _ _ (.tup ys) from ⟨hz,its,r',IsTupD.new _ _⟩)
  exact ⟨.ref h'.objs.size,_,I2,rfl,q _ (I1.hok.fresh (Nat.le_refl _))⟩
 ·obtain ⟨its,r',pl,hz⟩:=I.tuple hq
  exact call_tuple_same pl ⟨.ref p,H,I,rfl,q⟩
noncomputable def tyV (K:PySem.W.Frag) (T:String) (x:V) (H:Hp):Prop:=match x with
 | .str _=>T = "str"
 | .int _=>T = "int"
 | .ref p=>(T = "list"∧∃ xs,SqL K H p xs) ∨ (T = "tuple"∧∃ o,K.lookup p = some o∧o.cls = .type "tuple"∧o.dict = none) ∨
   (T = "dict"∧((∃ kvs,H p = some (.dK kvs)) ∨ ∃ kvs,H p = some (.dT kvs))) ∨ (T = "set"∧∃ S n,H p = some (.set S n))
 | _=>False
theorem tyV_is {pins:List (Addr × Obj)} {σ:St} {H:Hp} {s:Shared} {T:String} {x:V} {v:Value} (I:Inv X pins σ H s) (r:RelV x v) (ty:tyV X.K T x H) :
  s.TypeIs v T∧∀ a,v = .ref a→∃ ob,s.heap.get? a = some ob∧ob.dict = none:=by
 cases x with
 | str z=>
  obtain ⟨t,rfl⟩:=r
  cases (show T = "str" from ty)
  exact ⟨typeIs_str s z t,fun _ e=>nomatch e⟩
 | int i=>
  obtain ⟨t,rfl⟩:=r
  cases (show T = "int" from ty)
  exact ⟨typeIs_int s i t,fun _ e=>nomatch e⟩
 | ref p=>
  cases r
  rcases ty with ⟨rfl,xs,hq⟩ | ⟨rfl,o,hk,hc,hd⟩ | ⟨rfl,hk⟩ | ⟨rfl,S,n,hk⟩
  ·obtain ⟨its,_,pl,_⟩:=I.list hq
   refine ⟨pl.isList.typeIs,fun a e=>?_⟩
   cases e
   obtain ⟨o,n,e,c,hd,_⟩:=pl
   exact ⟨o,e,hd⟩
  ·refine ⟨⟨o,I.kIn p o hk,hc⟩,fun a e=>?_⟩
   cases e
   exact ⟨o,I.kIn _ o hk,hd⟩
  ·have z:∃ o,s.heap.get? p = some o∧o.ExactDict:=by
    rcases hk with ⟨kvs,hk⟩ | ⟨kvs,hk⟩
    ·obtain ⟨_,_,_,_,o,_,_,e,ex,_⟩:=I.hok p _ hk
     exact ⟨o,e,ex⟩
    ·obtain ⟨_,_,_,_,o,_,_,e,ex,_⟩:=I.hok p _ hk
     exact ⟨o,e,ex⟩
   obtain ⟨o,e,ex⟩:=z
   refine ⟨⟨o,e,ex.1⟩,fun a e2=>?_⟩
   cases e2
   exact ⟨o,e,ex.2.1⟩
  ·obtain ⟨o,_,_,_,e,ex,_⟩:=I.hok p _ hk
   refine ⟨⟨o,e,ex.1⟩,fun a e2=>?_⟩
   cases e2
   exact ⟨o,e,ex.2.1⟩
 | _=>exact False.elim ty
noncomputable def tBM0 (K:PySem.W.Frag) (T:String) (r:V→List V→Hp→VK→Prop) (to:TE):TE:=fun σ H Q=>to σ H fun x H1=>tyV K T x H1∧r x [] H1 Q
noncomputable def tBM (K:PySem.W.Frag) (T:String) (r:V→List V→Hp→VK→Prop) (to:TE) (t:TA):TE:=fun σ H Q=>to σ H fun x H1=>tyV K T x H1∧t σ H1 fun xs H2=>r x xs H2 Q
variable {o e:Expr} {es:List Expr} {to:TE} {t:TA} {name:Str} {apos cpos:Pos} {T id:String} {r:V→List V→Hp→VK→Prop}
theorem pe_bm0 (pa:PlainAttrs T) (slot:Slot T name id) (hty:typeOf (.builtin id) = pure (.type "method_descriptor")) (hm:MtR X id r) (ho:PE X o to)
  (hbase:attributeBase o name X.env (eval o X.env) = eval o X.env:=by rfl) (hline:(apos.endLine == cpos.line) = true:=by rfl):PE X (.Call (.Attribute o name apos) [] [] cpos) (tBM0 X.K T r to):=by
 intro pins s σ H Q I h
 refine wpAny_Call_method0_late hbase hline (thn (ho pins s σ H _ I h) fun v s1 ⟨x,H1,I1,r1,ty,q1⟩=>?_)
 obtain ⟨h1,h2⟩:=tyV_is I1 r1 ty
 exact ⟨T,id,pa,slot,hty,h1,h2,Calls.callWith_builtin rfl (PySem.evalArgs_none (hm pins s1 σ H1 x [] v [] Q I1 r1 .nil q1))⟩
theorem pe_bm (pa:PlainAttrs T) (slot:Slot T name id) (hty:typeOf (.builtin id) = pure (.type "method_descriptor")) (hm:MtR X id r) (ho:PE X o to) (ha:PA X (e :: es) t)
  (hbase:attributeBase o name X.env (eval o X.env) = eval o X.env:=by rfl)
  (hfew:((backTo cpos (starEach (e :: es) X.env)).all (fun x=>!x.1) && (backToKw cpos (keywordEach [] X.env)).all (fun x=>x.1.isSome)
   && decide ((e :: es).length + ([]:List Keyword).length + (if ([]:List Keyword).isEmpty then 0 else 1) < 30)) = true:=by rfl)
  (hline:(apos.endLine == cpos.line) = true:=by rfl) (hs:starEach (e :: es) X.env = (false,eval e X.env) :: starEach es X.env:=by rfl) (hplain:(backTo cpos (starEach es X.env)).any (·.1) = false:=by rfl) :
  PE X (.Call (.Attribute o name apos) (e :: es) [] cpos) (tBM X.K T r to t):=by
 intro pins s σ H Q I h
 refine wpAny_Call_method_late hbase hfew hline rfl (thn (ho pins s σ H _ I h) fun v s1 ⟨x,H1,I1,r1,ty,q1⟩=>?_)
 obtain ⟨h1,h2⟩:=tyV_is I1 r1 ty
 refine ⟨T,id,pa,slot,hty,h1,h2,?_⟩
 have hA:=ha cpos pins s1 σ H1 _ I1 q1
 rw [hs] at hA ⊢
 refine Calls.callWith_builtin (by show (false || (backTo cpos (starEach es X.env)).any (·.1)) = false; rw [hplain] <;> rfl) (Calls.evalArgs_plain ?_)
 exact thn hA fun us s2 ⟨vs,H2,I2,r2,q2⟩=>hm pins s2 σ H2 x vs v us Q I2 r1 r2 q2
end
noncomputable def MtM (X:Cx) (id:String) (r:V→List V→Hp→VK→Prop):Prop:=
 ∀ (pins:List (Addr × Obj)) (s:Shared) (σ:St) (H:Hp) (x:V) (xs:List V) (v:Value) (us:List Value) (Q:VK),Inv X pins σ H s→RelV x v→Vals xs us→r x xs H Q→
  wpAny (model X.prog X.w) X.A (call (.builtin id) (v :: us)) (EP X pins σ Q) X.xe s
theorem Vals.one:∀ {x:V} {us:List Value},Vals [x] us→∃ u,us = [u]∧RelV x u
 | _,_,.cons r .nil=>⟨_,rfl,r⟩
theorem Vals.zero:∀ {us:List Value},Vals [] us→us = []
 | _,.nil=>rfl
theorem Vals.dropLast {xs:List V} {us:List Value} (h:Vals xs us):Vals xs.dropLast us.dropLast:=by
 induction h with
 | nil=>exact .nil
 | cons r t ih=>
  cases t with
  | nil=>exact .nil
  | cons q t'=>exact .cons r ih
theorem Vals.eraseIdx:∀ {xs:List V} {us:List Value} (i:Nat),Vals xs us→Vals (xs.eraseIdx i) (us.eraseIdx i)
 | _,_,_,.nil=>.nil
 | _,_,0,.cons _ t=>t
 | _,_,i + 1,.cons r t=>.cons r (Vals.eraseIdx i t)
theorem Vals.reverse {xs:List V} {us:List Value} (h:Vals xs us):Vals xs.reverse us.reverse:=by
 induction h with
 | nil=>exact .nil
 | cons r t ih=>rw [List.reverse_cons,List.reverse_cons]; exact Vals.append ih (.cons r .nil)
theorem Vals.rep {xs:List V} {us:List Value} (h:Vals xs us):∀ k:Nat,Vals (List.replicate k xs).flatten (List.replicate k us).flatten
 | 0=>.nil
 | k + 1=>by
  rw [List.replicate_succ,List.replicate_succ,List.flatten_cons,List.flatten_cons]
  exact Vals.append h (Vals.rep h k)
theorem erase_last {α:Type} (l:List α):l.eraseIdx (l.length - 1) = l.dropLast:=by
 induction l with
 | nil=>rfl
 | cons a r ih=>
  cases r with
  | nil=>rfl
  | cons b r=>
   have e:(a :: b :: r).length - 1 = ((b :: r).length - 1) + 1:=by
    have h1:(a :: b :: r).length = r.length + 2:=rfl
    have h2:(b :: r).length = r.length + 1:=rfl
    omega
   rw [e,List.eraseIdx_cons_succ,ih]
   all_goals rfl
theorem len_erase {α:Type}:∀ (l:List α) (i:Nat),(l.eraseIdx i).length ≤ l.length
 | [],_=>Nat.le_refl _
 | _ :: _,0=>Nat.le_succ _
 | _ :: r,i + 1=>Nat.succ_le_succ (len_erase r i)
theorem foldl_rep (its:List Value):∀ (k:Nat) (acc:List Value),
  List.foldl (fun x1 x2=>x1 ++ x2) acc.toArray (List.replicate k its.toArray) = (acc ++ (List.replicate k its).flatten).toArray
 | 0,acc=>by simp
 | k + 1,acc=>by
  have e:acc.toArray ++ its.toArray = (acc ++ its).toArray:=by simp
  have e2:(acc ++ its) ++ (List.replicate k its).flatten = acc ++ (List.replicate (k + 1) its).flatten:=by
   rw [List.replicate_succ,List.flatten_cons,List.append_assoc]
  rw [← e2,← foldl_rep its k (acc ++ its),← e,List.replicate_succ,List.foldl_cons]
section
variable {X:Cx} {pins:List (Addr × Obj)} {σ:St} {H:Hp} {s:Shared} {l b:Addr} {xs ys zs:List V}
theorem Inv.lset {its its':List Value} {n:Nat} {f:Array Value→Array Value} {t':Nat} (I:Inv X pins σ H s) (hH:H l = some (.lst xs))
  (e:s.heap.get? l = some { cls:=.type "list",data:=.seq its.toArray n }) (hf:f its.toArray = its'.toArray) (hv:Vals ys its') (hz:ys.length ≤ sizeLine) :
  Inv X pins σ (upd H l (.lst ys)) { s with heap:=s.heap.update l (Obj.mapSeq f),toks:=t' }:=by
 have q:=PySem.IsL.update e f
 rw [hf] at q
 refine I.write (x:=l) (e:=l) (by rw [hH]; exact trivial) (.inl rfl) (fun b' u hb hu=>(Heap.get?_update_other s.heap (Obj.mapSeq f) (Ne.symm hb)).trans hu) ⟨_,q⟩ ?_
 exact ⟨hz,its',_,hv,q⟩
theorem Inv.lnew {its:List Value} {t':Nat} (I:Inv X pins σ H s) (hv:Vals ys its) (hz:ys.length ≤ sizeLine) :
  Inv X pins σ (upd H s.heap.objs.size (.lst ys)) { s with heap:=s.heap.push { cls:=.type "list",data:=.seq its.toArray },toks:=t' }:=
 I.laid (fun _ _ q=>Heap.get?_push_of_some _ q) (Nat.le_refl _) ⟨hz,its,0,hv,Heap.get?_push_size _ rfl⟩
theorem Inv.fresh (I:Inv X pins σ H s):H s.heap.objs.size = none:=I.hok.fresh (Nat.le_refl _)
theorem Inv.lstM (I:Inv X pins σ H s) (hH:H l = some (.lst xs)):xs.length ≤ sizeLine∧∃ (its:List Value) (n:Nat),Vals xs its∧xs.length = its.length∧s.heap.get? l = some { cls:=.type "list",data:=.seq its.toArray n }:=by
 obtain ⟨z,its,n,r,e⟩:=I.hok l _ hH
 exact ⟨z,its,n,r,r.length,e⟩
theorem notLongL {n:Nat} (h:n ≤ sizeLine):Builtin.List.listTooLong n = false:=by
 unfold Builtin.List.listTooLong
 exact decide_eq_false (by omega)
end
section
variable {X:Cx}
noncomputable def rAppend:V→List V→Hp→VK→Prop:=fun x vs H Q=>∃ l xs y,x = .ref l∧vs = [y]∧H l = some (.lst xs)∧xs.length < sizeLine∧Q .non (upd H l (.lst (xs ++ [y])))
theorem mt_append:MtM X "list.append" rAppend:=by
 intro pins s σ H x vs v us Q I rx rv h
 obtain ⟨l,xs,y,rfl,rfl,hH,hz,q⟩:=h
 cases rx
 obtain ⟨u,rfl,ru⟩:=rv.one
 obtain ⟨z,its,n,r,hl,e⟩:=I.lstM hH
 refine call_meets F.slot_list_append ⟨_,e,rfl⟩ F.entry_list_append (F.args_list_append_2 _ _) (PySem.list_append l its.toArray n u (by rw [List.size_toArray]; omega)) ⟨e,?_⟩
 refine ⟨.non,_,I.lset (its':=its ++ [u]) hH e (by simp) (r.append (.cons ru .nil)) ?_,rfl,q⟩
 rw [List.length_append,List.length_singleton]
 omega
noncomputable def rExtend:V→List V→Hp→VK→Prop:=fun x vs H Q=>∃ l b xs zs,x = .ref l∧vs = [.ref b]∧H l = some (.lst xs)∧H b = some (.lst zs)∧xs.length + zs.length ≤ sizeLine∧Q .non (upd H l (.lst (xs ++ zs)))
theorem mt_extend:MtM X "list.extend" rExtend:=by
 intro pins s σ H x vs v us Q I rx rv h
 obtain ⟨l,b,xs,zs,rfl,rfl,hH,hB,hz,q⟩:=h
 cases rx
 obtain ⟨u,rfl,ru⟩:=rv.one
 cases ru
 obtain ⟨z,its,n,r,hl,e⟩:=I.lstM hH
 obtain ⟨z2,its2,n2,r2,hl2,e2⟩:=I.lstM hB
 have hsz:its.toArray.size + its2.toArray.size ≤ sizeLine:=by rw [List.size_toArray,List.size_toArray]; omega
 have hlong:¬ (!its.toArray.isEmpty && Builtin.List.listTooLong (its.toArray.size + its2.toArray.size)) = true:=by
  rw [notLongL hsz,Bool.and_false]
  exact Bool.false_ne_true
 refine call_meets F.slot_list_extend ⟨_,e,rfl⟩ F.entry_list_extend (F.args_list_extend_2 _ _)
  (AutoSeq1.list_extend_list_list_0 l its.toArray n b its2.toArray n2 hlong (by rw [List.size_toArray]; omega) (by omega)) ⟨e,e2,?_⟩
 refine ⟨.non,_,I.lset (its':=its ++ its2) hH e (by simp) (r.append r2) ?_,rfl,q⟩
 rw [List.length_append]
 omega
noncomputable def rPop:V→List V→Hp→VK→Prop:=fun x vs H Q=>∃ l xs y,x = .ref l∧vs = []∧H l = some (.lst xs)∧xs[xs.length - 1]? = some y∧Q y (upd H l (.lst xs.dropLast))
theorem mt_pop:MtM X "list.pop" rPop:=by
 intro pins s σ H x vs v us Q I rx rv h
 obtain ⟨l,xs,y,rfl,rfl,hH,hy,q⟩:=h
 cases rx
 have hus:=rv.zero
 subst hus
 obtain ⟨z,its,n,r,hl,e⟩:=I.lstM hH
 obtain ⟨u,hu,ru⟩:=r.get hy
 have hy':its.toArray[its.toArray.size - 1]? = some u:=by
  show its.toArray[its.length - 1]? = some u
  rw [← Array.getElem?_toList,← hl]
  exact hu
 refine call_meets F.slot_list_pop ⟨_,e,rfl⟩ F.entry_list_pop (F.args_list_pop_1 _) (MeetsSeq.list_pop_last l its.toArray n u hy' (by rw [List.size_toArray]; omega)) ⟨e,?_⟩
 refine ⟨y,_,I.lset (its':=its.dropLast) hH e ?_ r.dropLast ?_,ru,q⟩
 ·show its.toArray.eraseIdxIfInBounds (its.toArray.size - 1) = its.dropLast.toArray
  rw [List.size_toArray,List.eraseIdxIfInBounds_toArray,erase_last]
 ·rw [List.length_dropLast]
  omega
noncomputable def rPopAt:V→List V→Hp→VK→Prop:=fun x vs H Q=>∃ l xs i k y,x = .ref l∧vs = [.int i]∧H l = some (.lst xs)∧-(2 ^ 63) ≤ i∧i < 2 ^ 63∧seqIndex? i xs.length = some k∧xs[k]? = some y∧Q y (upd H l (.lst (xs.eraseIdx k)))
theorem mt_popAt:MtM X "list.pop" rPopAt:=by
 intro pins s σ H x vs v us Q I rx rv h
 obtain ⟨l,xs,i,k,y,rfl,rfl,hH,h1,h2,hk,hy,q⟩:=h
 cases rx
 obtain ⟨u,rfl,ru⟩:=rv.one
 obtain ⟨t,rfl⟩:=ru
 obtain ⟨z,its,n,r,hl,e⟩:=I.lstM hH
 obtain ⟨w,hw,rw'⟩:=r.get hy
 refine call_meets F.slot_list_pop ⟨_,e,rfl⟩ F.entry_list_pop (F.args_list_pop_2 _ _)
  (MeetsSeq.list_pop_at l its.toArray n i t k w (fitsIndex_both h1 h2) (by rw [List.size_toArray,← hl]; exact hk) (by rw [← Array.getElem?_toList]; exact hw) (by rw [List.size_toArray]; omega)) ⟨e,?_⟩
 refine ⟨y,_,I.lset (its':=its.eraseIdx k) hH e ?_ (r.eraseIdx k) ?_,rw',q⟩
 ·show its.toArray.eraseIdxIfInBounds k = (its.eraseIdx k).toArray
  rw [List.eraseIdxIfInBounds_toArray]
 ·have:=len_erase xs k
  omega
noncomputable def rCat:R2:=fun x y H Q=>∃ l b xs zs,x = .ref l∧y = .ref b∧H l = some (.lst xs)∧H b = some (.lst zs)∧xs.length + zs.length ≤ sizeLine∧∀ p,H p = none→Q (.ref p) (upd H p (.lst (xs ++ zs)))
theorem op_cat:OpR X (binaryOp .Add) rCat:=by
 intro pins s σ H x y v u Q I rx ry h
 obtain ⟨l,b,xs,zs,rfl,rfl,hH,hB,hz,q⟩:=h
 cases rx
 cases ry
 obtain ⟨z,its,n,r,hl,e⟩:=I.lstM hH
 obtain ⟨z2,its2,n2,r2,hl2,e2⟩:=I.lstM hB
 refine PySem.P.add_list e e2 ?_ (by rw [List.size_toArray,List.size_toArray]; omega)
 have ea:its.toArray ++ its2.toArray = (its ++ its2).toArray:=by simp
 rw [ea]
 exact ⟨.ref _,_,I.lnew (t':=s.toks) (r.append r2) (by rw [List.length_append]; omega),rfl,q _ I.fresh⟩
noncomputable def rRep:R2:=fun x y H Q=>∃ l k xs,x = .ref l∧y = .int k∧H l = some (.lst xs)∧-(2 ^ 63) ≤ k∧k < 2 ^ 63∧xs.length * k.toNat ≤ sizeLine∧
 ∀ p,H p = none→Q (.ref p) (upd H p (.lst (List.replicate k.toNat xs).flatten))
theorem len_rep {α:Type} (xs:List α) (k:Nat):(List.replicate k xs).flatten.length = k * xs.length:=by
 induction k with
 | zero=>simp
 | succ k ih=>rw [List.replicate_succ,List.flatten_cons,List.length_append,ih,Nat.succ_mul,Nat.add_comm]
theorem op_rep:OpR X (binaryOp .Mult) rRep:=by
 intro pins s σ H x y v u Q I rx ry h
 obtain ⟨l,k,xs,rfl,rfl,hH,h1,h2,hz,q⟩:=h
 cases rx
 obtain ⟨t,rfl⟩:=ry
 obtain ⟨z,its,n,r,hl,e⟩:=I.lstM hH
 have hlen:its.toArray.size * k.toNat ≤ sizeLine:=by rw [List.size_toArray,← hl]; exact hz
 have hcap:¬ its.toArray.size * k.toNat > (2 ^ 63 - 1) / 8:=by
  have:(sizeLine:Nat) ≤ (2 ^ 63 - 1) / 8:=by decide
  omega
 have hfit:¬ (!Builtin.List.listFitsIndex k) = true:=by
  rw [fitsIndex_both h1 h2]
  exact Bool.false_ne_true
 have hlong:¬ Builtin.List.listTooLong (its.toArray.size * k.toNat) = true:=by
  rw [notLongL hlen]
  exact Bool.false_ne_true
 have hnew:List.foldl (fun x1 x2=>x1 ++ x2) #[] (List.replicate (if its.toArray.isEmpty = true then 0 else k.toNat) its.toArray) = (List.replicate k.toNat its).flatten.toArray:=by
  have f0:∀ m:Nat,List.foldl (fun x1 x2=>x1 ++ x2) #[] (List.replicate m its.toArray) = (List.replicate m its).flatten.toArray:=fun m=>by
   have:=foldl_rep its m []
   rw [List.nil_append] at this
   exact this
  rw [f0]
  cases its with
  | nil=>simp
  | cons a r'=>rw [if_neg (by simp)]
 refine wpAny_binaryOp_repeat_ref (T:="list") (U:="int") (by decide) ⟨_,e,rfl⟩ (fun s'=>typeIs_int s' k t) noFill_list_mul F.fills_int_mul F.slot_int_rmul repeat_list F.slot_int_index.lookup
  (call_meets F.slot_int_rmul (typeIs_int s k t) F.entry_int_rmul (F.args_int_rmul_2 _ _) (int___rmul___int_list k t l its.toArray n)
   ⟨e,rfl,⟨_,e,rfl⟩,call_meets F.slot_list_mul ⟨_,e,rfl⟩ F.entry_list_mul (F.args_list_mul_2 _ _) (AutoListH.list___mul___list_int_3 l its.toArray n k t hfit hcap hlong) ⟨e,?_⟩⟩)
 rw [hnew]
 exact ⟨.ref _,_,I.lnew (t':=s.toks) (r.rep k.toNat) (by rw [len_rep,Nat.mul_comm]; exact hz),rfl,q _ I.fresh⟩
end
section
variable {prog:Program} {w:World} {A:Around} {E:Value→Shared→Prop} {s:Shared}
end
section
variable {X:Cx}
end
section
variable {κ:Type} [DecidableEq κ]
noncomputable def valV (kvs:List (κ × V)) (k:κ):Option V:=(kvs.find? fun kv=>decide (kv.1 = k)).map (·.2)
noncomputable def putK (kvs:List (κ × V)) (k:κ) (v:V):List (κ × V):=
 if (kvs.any fun kv=>decide (kv.1 = k)) = true then kvs.map (fun kv=>if kv.1 = k then (kv.1,v) else kv) else kvs ++ [(k,v)]
theorem valV_pos {p:κ × V} {r:List (κ × V)} {k:κ} (e:p.1 = k):valV (p :: r) k = some p.2:=by simp [valV,List.find?_cons,e]
theorem valV_neg {p:κ × V} {r:List (κ × V)} {k:κ} (e:¬ p.1 = k):valV (p :: r) k = valV r k:=by simp [valV,List.find?_cons,e]
theorem valV_any (k:κ):∀ kvs:List (κ × V),(kvs.any fun kv=>decide (kv.1 = k)) = (valV kvs k).isSome
 | []=>rfl
 | p :: r=>by
  rw [List.any_cons]
  by_cases e:p.1 = k
  ·simp only [valV_pos e,decide_eq_true e,Bool.true_or,Option.isSome_some]
  ·rw [valV_neg e,decide_eq_false e,Bool.false_or]; exact valV_any k r
theorem length_putK (kvs:List (κ × V)) (k:κ) (v:V):(putK kvs k v).length ≤ kvs.length + 1:=by
 unfold putK
 split
 ·rw [List.length_map]; omega
 ·rw [List.length_append,List.length_cons,List.length_nil]; omega
theorem RelO.isSome_eq {o:Option V} {u:Option Value} (r:RelO o u):o.isSome = u.isSome:=by
 cases o with
 | none=>cases u with
  | none=>rfl
  | some _=>exact (show False from r).elim
 | some _=>cases u with
  | none=>exact (show False from r).elim
  | some _=>rfl
theorem RelO.getD {o:Option V} {u:Option Value} {d:V} {d':Value} (r:RelO o u) (rd:RelV d d'):RelV (o.getD d) (u.getD d'):=by
 cases o with
 | none=>cases u with
  | none=>exact rd
  | some _=>exact (show False from r).elim
 | some _=>cases u with
  | none=>exact (show False from r).elim
  | some _=>exact r
theorem KV.val {kvs:List (κ × V)} {vs:List (κ × Value)} (r:KV kvs vs) (k:κ):RelO (valV kvs k) (valueAt vs k):=by
 unfold KV at r
 induction r with
 | nil=>exact True.intro
 | @cons p q ps qs h t ih=>
  obtain ⟨h1,h2⟩:=h
  by_cases e:p.1 = k
  ·have e':q.1 = k:=h1.symm.trans e
   have b:valueAt (q :: qs) k = some q.2:=by simp [valueAt,List.find?_cons,e']
   rw [valV_pos e,b]; exact h2
  ·have e':¬ q.1 = k:=fun z=>e (h1.trans z)
   have b:valueAt (q :: qs) k = valueAt qs k:=by simp [valueAt,List.find?_cons,e']
   rw [valV_neg e,b]; exact ih
theorem KV.any {kvs:List (κ × V)} {vs:List (κ × Value)} (r:KV kvs vs) (k:κ):(kvs.any fun kv=>decide (kv.1 = k)) = vs.any fun kv=>decide (kv.1 = k):=by
 unfold KV at r
 induction r with
 | nil=>rfl
 | cons h t ih=>rw [List.any_cons,List.any_cons,ih,h.1]
theorem KV.repl {kvs:List (κ × V)} {vs:List (κ × Value)} (r:KV kvs vs) (k:κ) {y:V} {u:Value} (ry:RelV y u) :
  KV (kvs.map fun kv=>if kv.1 = k then (kv.1,y) else kv) (vs.map fun kv=>if kv.1 = k then (kv.1,u) else kv):=by
 unfold KV at r ⊢
 induction r with
 | nil=>exact .nil
 | @cons p q ps qs h t ih=>
  rw [List.map_cons,List.map_cons]
  refine .cons ?_ ih
  obtain ⟨h1,h2⟩:=h
  by_cases e:p.1 = k
  ·rw [if_pos e,if_pos (h1.symm.trans e)]; exact ⟨h1,ry⟩
  ·rw [if_neg e,if_neg (fun z=>e (h1.trans z))]; exact ⟨h1,h2⟩
theorem KV.put {kvs:List (κ × V)} {vs:List (κ × Value)} (r:KV kvs vs) (k:κ) {y:V} {u:Value} (ry:RelV y u):KV (putK kvs k y) (stored vs k u):=by
 unfold putK stored
 rw [r.any k]
 by_cases e:(vs.any fun kv=>decide (kv.1 = k)) = true
 ·rw [if_pos e,if_pos e]; exact r.repl k ry
 ·rw [if_neg e,if_neg e]; exact Paired.snoc r ⟨rfl,ry⟩
theorem KV.length {kvs:List (κ × V)} {vs:List (κ × Value)} (r:KV kvs vs):kvs.length = vs.length:=Paired.length r
end
theorem kV_is {P:Program} {w:World} {k:Key} {u:Value} (r:RelV (kV k) u):(mixKind P w).is k u = true:=by
 cases k with
 | inl i=>obtain ⟨t,e⟩:=(show ∃ t,u = Value.int i t from r); subst e; exact mixKind_int P w i t
 | inr x=>obtain ⟨t,e⟩:=(show ∃ t,u = Value.str x t from r); subst e; exact mixKind_str P w x t
theorem items_are {P:Program} {w:World}:∀ {ks:List Key} {us:List Value},Vals (ks.map kV) us→ItemsAre (mixKind P w) ks us
 | [],_,r=>by rw [List.map_nil] at r; cases r; exact .nil
 | k :: ks,_,r=>by
  rw [List.map_cons] at r
  cases r with
  | cons h t=>exact .cons (kV_is h) (items_are t)
noncomputable abbrev KT (H:Hp):List (List Key × V)→List (List Key × Addr × Value)→Prop:=Paired fun p q=>p.1 = q.1∧H q.2.1 = some (.tup (p.1.map kV))∧RelV p.2 q.2.2
theorem KT.val {H:Hp} {kvs:List (List Key × V)} {xs:List (List Key × Addr × Value)} (r:KT H kvs xs) (k:List Key):RelO (valV kvs k) ((atKey xs k).map (·.2)):=by
 induction r with
 | nil=>exact True.intro
 | @cons p q ps qs h t ih=>
  obtain ⟨h1,_,h2⟩:=h
  by_cases e:p.1 = k
  ·have e':q.1 = k:=h1.symm.trans e
   have b:atKey (q :: qs) k = some q.2:=by simp [atKey,List.find?_cons,e']
   rw [valV_pos e,b]; exact h2
  ·have e':¬ q.1 = k:=fun z=>e (h1.trans z)
   have b:atKey (q :: qs) k = atKey qs k:=by simp [atKey,List.find?_cons,e']
   rw [valV_neg e,b]; exact ih
theorem KT.repl {H:Hp} {kvs:List (List Key × V)} {xs:List (List Key × Addr × Value)} (r:KT H kvs xs) (k:List Key) {y:V} {u:Value} (ry:RelV y u) :
  KT H (kvs.map fun kv=>if kv.1 = k then (kv.1,y) else kv) (xs.map (putAt k u)):=by
 induction r with
 | nil=>exact .nil
 | @cons p q ps qs h t ih=>
  rw [List.map_cons,List.map_cons]
  refine .cons ?_ ih
  obtain ⟨h1,h2,h3⟩:=h
  unfold putAt
  by_cases e:p.1 = k
  ·rw [if_pos e,if_pos (h1.symm.trans e)]; exact ⟨h1,h2,ry⟩
  ·rw [if_neg e,if_neg (fun z=>e (h1.trans z))]; exact ⟨h1,h2,h3⟩
theorem KT.put {H:Hp} {kvs:List (List Key × V)} {xs:List (List Key × Addr × Value)} (r:KT H kvs xs) (k:List Key) {b:Addr} {y:V} {u:Value} (hb:H b = some (.tup (k.map kV))) (ry:RelV y u) :
  KT H (putK kvs k y) (storedH xs k b u):=by
 have e:(kvs.any fun kv=>decide (kv.1 = k)) = (atKey xs k).isSome:=by
  rw [valV_any,(r.val k).isSome_eq,Option.isSome_map]
 unfold putK storedH
 rw [e]
 by_cases q:(atKey xs k).isSome = true
 ·rw [if_pos q,if_pos q]; exact r.repl k ry
 ·rw [if_neg q,if_neg q]; exact Paired.snoc r ⟨rfl,hb,ry⟩
theorem KT.keeps {H H':Hp} {kvs:List (List Key × V)} {xs:List (List Key × Addr × Value)} (r:KT H kvs xs) (ht:∀ b ys,H b = some (.tup ys)→H' b = some (.tup ys)):KT H' kvs xs:=
 Paired.mapP r fun _ _ z=>⟨z.1,ht _ _ z.2.1,z.2.2⟩
section
variable {P:Program} {w:World} {H:Hp} {h:Heap} {a:Addr}
theorem rd_of {u:HO} (ok:HOk P w H h) (e:Rd H a u):ObjOk P w H h a u:=e.ok ok
theorem dk_rd {kvs:List (Key × V)} (ok:HOk P w H h) (e:Rd H a (.dK kvs)):kvs.length ≤ sizeLine∧(a == sysModules) = false∧∃ vs,KV kvs vs∧h.DictOf (mixKind P w) a vs:=
 show ObjOk P w H h a (.dK kvs) from rd_of ok e
theorem dk_of {kvs:List (Key × V)} (ok:HOk P w H h) (e:H a = some (.dK kvs)):kvs.length ≤ sizeLine∧(a == sysModules) = false∧∃ vs,KV kvs vs∧h.DictOf (mixKind P w) a vs:=dk_rd ok (.inl e)
theorem key_of {ks:List Key} (ok:HOk P w H h) (e:H a = some (.tup (ks.map kV))):(tupleKind (mixKind P w)).is h ks a:=by
 obtain ⟨_,its,r,o,h1,_,h2,n,h3⟩:=(show ObjOk P w H h a (.tup (ks.map kV)) from ok a _ e)
 exact ⟨o,its.toArray,n,h1,h2,h3,by simpa using items_are r⟩
theorem dt_rd {kvs:List (List Key × V)} (ok:HOk P w H h) (e:Rd H a (.dT kvs)):kvs.length ≤ sizeLine∧(a == sysModules) = false∧
  ∃ xs,KT H kvs xs∧h.DictOfH (tupleKind (mixKind P w)) a xs:=by
 obtain ⟨z,y,xs,r,o,es,ep,h1,h2,h3,h4,h5⟩:=(show ObjOk P w H h a (.dT kvs) from rd_of ok e)
 refine ⟨z,y,xs,r,o,es,ep,h1,h2,h3,h4,fun x hx=>?_,h5⟩
 have all:∀ {l:List (List Key × V)} {m:List (List Key × Addr × Value)},KT H l m→∀ x ∈ m,(tupleKind (mixKind P w)).is h x.1 x.2.1:=by
  intro l m q
  induction q with
  | nil=>intro x hx; exact nomatch hx
  | @cons p q ps qs hq t ih=>
   intro x hx
   rcases List.mem_cons.mp hx with e | hx
   ·subst e
    exact key_of ok (by rw [← hq.1]; exact hq.2.1)
   ·exact ih x hx
 exact all r x hx
theorem dt_of {kvs:List (List Key × V)} (ok:HOk P w H h) (e:H a = some (.dT kvs)):kvs.length ≤ sizeLine∧(a == sysModules) = false∧
  ∃ xs,KT H kvs xs∧h.DictOfH (tupleKind (mixKind P w)) a xs:=dt_rd ok (.inl e)
end
noncomputable def DGet (H:Hp) (a:Addr) (y:V) (r:Option V):Prop:=
 (∃ kvs k,Rd H a (.dK kvs)∧y = kV k∧r = valV kvs k) ∨ ∃ kvs k b,Rd H a (.dT kvs)∧y = .ref b∧H b = some (.tup (k.map kV))∧r = valV kvs k
noncomputable def DPut (H:Hp) (a:Addr) (y v:V) (H':Hp):Prop:=
 (∃ kvs k,H a = some (.dK kvs)∧y = kV k∧kvs.length < sizeLine∧H' = upd H a (.dK (putK kvs k v))) ∨
 ∃ kvs k b,H a = some (.dT kvs)∧y = .ref b∧H b = some (.tup (k.map kV))∧kvs.length < sizeLine∧H' = upd H a (.dT (putK kvs k v))
theorem DGet.k {H:Hp} {a:Addr} {kvs:List (Key × V)} {k:Key} (e:H a = some (.dK kvs)):DGet H a (kV k) (valV kvs k):=.inl ⟨kvs,k,.inl e,rfl,rfl⟩
theorem DGet.t {H:Hp} {a b:Addr} {kvs:List (List Key × V)} {k:List Key} (e:H a = some (.dT kvs)) (eb:H b = some (.tup (k.map kV))):DGet H a (.ref b) (valV kvs k):=.inr ⟨kvs,k,b,.inl e,rfl,eb,rfl⟩
theorem DPut.k {H:Hp} {a:Addr} {kvs:List (Key × V)} {k:Key} {v:V} (e:H a = some (.dK kvs)) (hl:kvs.length < sizeLine):DPut H a (kV k) v (upd H a (.dK (putK kvs k v))):=.inl ⟨kvs,k,e,rfl,hl,rfl⟩
theorem DPut.t {H:Hp} {a b:Addr} {kvs:List (List Key × V)} {k:List Key} {v:V} (e:H a = some (.dT kvs)) (eb:H b = some (.tup (k.map kV))) (hl:kvs.length < sizeLine) :
  DPut H a (.ref b) v (upd H a (.dT (putK kvs k v))):=.inr ⟨kvs,k,b,e,rfl,eb,hl,rfl⟩
section
variable {X:Cx} {pins:List (Addr × Obj)} {σ:St} {H:Hp} {s:Shared} {a:Addr} {y v:V} {u r:Value} {o:Option V} {A:Around} {E:Value→Shared→Prop}
theorem Inv.big (I:Inv X pins σ H s):sysModules < s.heap.objs.size:=by
 have h:mainGlobals < s.heap.objs.size:=(I.mod.glob.keeps I.bk).lt
 exact Nat.lt_trans (by decide) h
theorem d_getItem {Q:Value→Shared→Prop} (hu:A.units + 1 < cLine) (I:Inv X pins σ H s) (g:DGet H a y (some v)) (ry:RelV y u) (h:∀ w' s',Inv X pins σ H s'→RelV v w'→Q w' s') :
  wpAny (model X.prog X.w) A (getItem (.ref a) u) Q E s:=by
 rcases g with ⟨kvs,k,e,ey,l⟩ | ⟨kvs,k,b,e,ey,eb,l⟩
 ·subst ey
  obtain ⟨z,hd,vs,rel,dd⟩:=dk_rd I.hok e
  obtain ⟨w',hw,rw'⟩:=RelO.some_of (v:=v) (o:=valueAt vs k) (by rw [l]; exact rel.val k)
  exact wpAny_getItem_of (kV_is ry) dd.mapOf hw (h w' _ (I.tok _) rw')
 ·subst ey
  cases (show u = Value.ref b from ry)
  obtain ⟨z,hd,xs,rel,dd⟩:=dt_rd I.hok e
  obtain ⟨w',hw,rw'⟩:=RelO.some_of (v:=v) (o:=(atKey xs k).map (·.2)) (by rw [l]; exact rel.val k)
  obtain ⟨p,hp,hp2⟩:=Option.map_eq_some_iff.mp hw
  refine wpAny_getItem_heap (tupleKind_room_in1 hu) (key_of I.hok eb) dd hp ?_
  rw [hp2]
  exact h w' _ (I.tok _) rw'
theorem d_in {Q:Value→Shared→Prop} (hu:A.units + 1 < cLine) (I:Inv X pins σ H s) (g:DGet H a y o) (ry:RelV y u) (h:∀ s',Inv X pins σ H s'→Q (.bool o.isSome) s') :
  wpAny (model X.prog X.w) A (compareOp .In u (.ref a)) Q E s:=by
 rcases g with ⟨kvs,k,e,ey,l⟩ | ⟨kvs,k,b,e,ey,eb,l⟩
 ·subst ey
  obtain ⟨z,hd,vs,rel,dd⟩:=dk_rd I.hok e
  refine wpAny_in_of (kV_is ry) hd dd.mapOf ?_
  rw [← (rel.val k).isSome_eq,← l]
  exact h _ (I.tok _)
 ·subst ey
  cases (show u = Value.ref b from ry)
  obtain ⟨z,hd,xs,rel,dd⟩:=dt_rd I.hok e
  refine wpAny_in_heap (tupleKind_room_in1 hu) (key_of I.hok eb) hd dd ?_
  have q:=(rel.val k).isSome_eq
  rw [Option.isSome_map] at q
  rw [← q,← l]
  exact h _ (I.tok _)
theorem d_notIn {Q:Value→Shared→Prop} (hu:A.units + 1 < cLine) (I:Inv X pins σ H s) (g:DGet H a y o) (ry:RelV y u) (h:∀ s',Inv X pins σ H s'→Q (.bool (!o.isSome)) s') :
  wpAny (model X.prog X.w) A (compareOp .NotIn u (.ref a)) Q E s:=by
 rcases g with ⟨kvs,k,e,ey,l⟩ | ⟨kvs,k,b,e,ey,eb,l⟩
 ·subst ey
  obtain ⟨z,hd,vs,rel,dd⟩:=dk_rd I.hok e
  refine wpAny_notIn_of (kV_is ry) hd dd.mapOf ?_
  rw [← (rel.val k).isSome_eq,← l]
  exact h _ (I.tok _)
 ·subst ey
  cases (show u = Value.ref b from ry)
  obtain ⟨z,hd,xs,rel,dd⟩:=dt_rd I.hok e
  refine wpAny_notIn_heap (tupleKind_room_in1 hu) (key_of I.hok eb) hd dd ?_
  have q:=(rel.val k).isSome_eq
  rw [Option.isSome_map] at q
  rw [← q,← l]
  exact h _ (I.tok _)
theorem d_write {h':Heap} {t':Nat} {ob:HO} (I:Inv X pins σ H s) (mu:Mut (H a)) (hs:Heap.SameBut a s.heap h') (he:∃ q,h'.get? a = some q) (new:ObjOk X.prog X.w (upd H a ob) h' a ob) :
  Inv X pins σ (upd H a ob) { s with heap:=h',toks:=t' }:=
 I.write (x:=a) (e:=a) mu (.inl rfl) (fun b q hb z=>(hs.2 b hb).trans z) he new
theorem dk_new {P:Program} {w:World} {H':Hp} {h':Heap} {kvs:List (Key × V)} {vs:List (Key × Value)} (z:kvs.length ≤ sizeLine) (hd:(a == sysModules) = false) (rel:KV kvs vs) (dd:h'.DictOf (mixKind P w) a vs) :
  ObjOk P w H' h' a (.dK kvs):=⟨z,hd,vs,rel,dd⟩
theorem d_setItem {H':Hp} {Q:Unit→Shared→Prop} (hu:A.units + 1 < cLine) (I:Inv X pins σ H s) (g:DPut H a y v H') (ry:RelV y u) (rv:RelV v r) (h:∀ s',Inv X pins σ H' s'→Q () s') :
  wpAny (model X.prog X.w) A (setItem (.ref a) u r) Q E s:=by
 rcases g with ⟨kvs,k,e,ey,l,eH⟩ | ⟨kvs,k,b,e,ey,eb,l,eH⟩
 ·subst ey eH
  obtain ⟨z,hd,vs,rel,dd⟩:=dk_of I.hok e
  have hz:vs.length ≤ sizeLine:=by rw [← rel.length]; exact z
  have hl:(putK kvs k v).length ≤ sizeLine:=by have:=length_putK kvs k v; omega
  refine wpAny_setItem_pairs (hsz:=hz) (kV_is ry) dd fun h' dd' hs=>h _ ?_
  have he:∃ q,h'.get? a = some q:=let ⟨q,_,_,hq,_⟩:=dd'; ⟨q,hq⟩
  exact d_write I (by rw [e]; exact True.intro) hs he (dk_new hl hd (rel.put k rv) dd')
 ·subst ey eH
  cases (show u = Value.ref b from ry)
  obtain ⟨z,hd,xs,rel,dd⟩:=dt_of I.hok e
  have hz:xs.length ≤ sizeLine:=by rw [← Paired.length rel]; exact z
  have hl:(putK kvs k v).length ≤ sizeLine:=by have:=length_putK kvs k v; omega
  refine wpAny_setItem_heap (hsz:=hz) (tupleKind_room_in1 hu) (key_of I.hok eb) dd fun h' dd' hs=>h _ ?_
  obtain ⟨q,es,ep,hq,h2,h3,h4,_,h5⟩:=dd'
  refine d_write I (by rw [e]; exact True.intro) hs ⟨q,hq⟩ ⟨hl,hd,_,(rel.put k eb rv).keeps fun c ys ec=>?_,q,es,ep,hq,h2,h3,h4,h5⟩
  rw [upd_ne (ne_of ec e (fun z=>nomatch z))]
  exact ec
end
section
variable {X:Cx} {pins:List (Addr × Obj)} {σ:St} {H:Hp} {s:Shared} {a:Addr} {kvs:List (Key × V)} {k:Key} {u:Value} {A:Around} {E:Value→Shared→Prop}
theorem d_len {Q:Value→Shared→Prop} (I:Inv X pins σ H s) (e:Rd H a (.dK kvs)) (h:∀ t s',Inv X pins σ H s'→Q (.int kvs.length t) s'):wpAny (model X.prog X.w) A (call (.builtin "len") [.ref a]) Q E s:=by
 obtain ⟨z,hd,vs,rel,dd⟩:=dk_rd I.hok e
 refine call_len_dict hd dd (by rw [← rel.length]; rw [sizeLine_eq] at z; omega) ?_
 rw [← rel.length]
 exact h _ _ (I.tok _)
end
theorem dict_typeIs {X:Cx} {pins:List (Addr × Obj)} {σ:St} {H:Hp} {s:Shared} {a:Addr} {y:V} {o:Option V} (I:Inv X pins σ H s) (g:DGet H a y o):s.TypeIs (.ref a) "dict":=by
 rcases g with ⟨kvs,k,e,_,_⟩ | ⟨kvs,k,b,e,_,_,_⟩
 ·obtain ⟨_,_,vs,_,dd⟩:=dk_rd I.hok e
  exact dd.typeIs
 ·obtain ⟨_,_,xs,_,dd⟩:=dt_rd I.hok e
  exact dd.typeIs
section
variable {X:Cx} {o i e value:Expr} {pos pos' tpos:Pos} {td ty tv:TE}
end
theorem dk_empty {P:Program} {w:World} {H:Hp} (h:Heap) (hb:sysModules < h.objs.size):ObjOk P w H (h.push { cls:=.type "dict",data:=.dict #[] }) h.objs.size (.dK []):=
 ⟨Nat.zero_le _,beq_eq_false_iff_ne.mpr (Ne.symm (Nat.ne_of_lt hb)),[],.nil,Heap.DictOf.new h⟩
section
variable {X:Cx} {pos:Pos}
end
noncomputable def tPairs:List (TE × TE)→St→Hp→(List (V × V)→Hp→Prop)→Prop
 | [],_,H,Q=>Q [] H
 | (tk,tv) :: r,σ,H,Q=>tk σ H fun x H1=>tv σ H1 fun y H2=>tPairs r σ H2 fun ps H3=>Q ((x,y) :: ps) H3
noncomputable abbrev VV:List (V × V)→List (Value × Value)→Prop:=Paired fun p q=>RelV p.1 q.1∧RelV p.2 q.2
noncomputable def PPs (X:Cx) (pos:Pos) (keys:List (Option Expr)) (values:List Expr) (trs:List (TE × TE)):Prop:=
 ∀ (pins:List (Addr × Obj)) (s:Shared) (σ:St) (H:Hp) (Q:List (V × V)→Hp→Prop),Inv X pins σ H s→tPairs trs σ H Q→
  wpAny (model X.prog X.w) X.A (evalPairs (pairTrees keys values X.env pos)) (fun vs s'=>∃ ps H',Inv X pins σ H' s'∧VV ps vs∧Q ps H') X.xe s
theorem pps_nil {X:Cx} {pos:Pos}:PPs X pos [] [] []:=fun pins s σ H Q I h=>pairTrees_nil_walk ⟨[],H,I,.nil,h⟩
theorem pps_cons {X:Cx} {pos:Pos} {k v:Expr} {ks:List (Option Expr)} {vs:List Expr} {tk tv:TE} {trs:List (TE × TE)} (hk:PE X k tk) (hv:PE X v tv) (hr:PPs X pos ks vs trs) :
  PPs X pos (some k :: ks) (v :: vs) ((tk,tv) :: trs):=fun pins s σ H Q I h=>
 pairTrees_cons_walk (thn (hk pins s σ H _ I h) fun u s1 ⟨x,H1,I1,rx,q1⟩=>thn (hv pins s1 σ H1 _ I1 q1) fun w2 s2 ⟨y,H2,I2,ry,q2⟩=>
  thn (hr pins s2 σ H2 _ I2 q2) fun ws s3 ⟨ps,H3,I3,rel,q3⟩=>⟨(x,y) :: ps,H3,I3,.cons ⟨rx,ry⟩ rel,q3⟩)
noncomputable def mergeK (kvs more:List (Key × V)):List (Key × V):=more.foldl (fun acc kv=>putK acc kv.1 kv.2) kvs
theorem KV.merge:∀ {more:List (Key × V)} {rs:List (Key × Value)} {kvs:List (Key × V)} {vs:List (Key × Value)},KV more rs→KV kvs vs→KV (mergeK kvs more) (merged vs rs):=by
 intro more rs kvs vs r
 unfold KV at r
 induction r generalizing kvs vs with
 | nil=>intro q; exact q
 | @cons p q ps qs h t ih=>
  intro r0
  have e:KV (putK kvs p.1 p.2) (stored vs q.1 q.2):=by
   have:=r0.put p.1 h.2
   rw [← h.1]; exact this
  exact ih e
theorem length_mergeK:∀ (more kvs:List (Key × V)),(mergeK kvs more).length ≤ kvs.length + more.length
 | [],kvs=>by show kvs.length ≤ kvs.length + 0; omega
 | p :: r,kvs=>by
  have h1:=length_mergeK r (putK kvs p.1 p.2)
  have h2:=length_putK kvs p.1 p.2
  show (mergeK (putK kvs p.1 p.2) r).length ≤ _
  rw [List.length_cons]; omega
theorem carries_of {P:Program} {w:World}:∀ {kvs:List (Key × V)} {ws:List (Value × Value)},VV (kvs.map fun kv=>(kV kv.1,kv.2)) ws→∃ rs,Carries (mixKind P w) ws rs∧KV kvs rs
 | [],_,r=>by rw [List.map_nil] at r; cases r; exact ⟨[],True.intro,.nil⟩
 | p :: kvs,_,r=>by
  rw [List.map_cons] at r
  cases r with
  | @cons a b as bs h t=>
   obtain ⟨rs,c,q⟩:=carries_of (P:=P) (w:=w) t
   obtain ⟨b1,b2⟩:=b
   exact ⟨(p.1,b2) :: rs,⟨kV_is h.1,rfl,c⟩,.cons ⟨rfl,h.2⟩ q⟩
noncomputable def tDisp (trs:List (TE × TE)):TE:=fun σ H Q=>∀ p,H p = none→tPairs trs σ (upd H p (.dK [])) fun ps H2=>H2 p = some (.dK [])∧∃ kvs:List (Key × V),ps = kvs.map (fun kv=>(kV kv.1,kv.2))∧kvs.length ≤ 15∧Q (.ref p) (upd H2 p (.dK (mergeK [] kvs)))
theorem pe_disp {X:Cx} {pos:Pos} {keys:List (Option Expr)} {values:List Expr} {trs:List (TE × TE)} (h:PPs X pos keys values trs) (hall:keys.all (·.isSome) = true) (hl:keys.length = values.length) (h0:keys ≠ [])
  (h15:keys.length ≤ 15):PE X (.Dict keys values pos) (tDisp trs):=by
 intro pins s σ H Q I q
 have hn:=I.hok.fresh (Nat.le_refl s.heap.objs.size)
 have I1:=I.laid (a:=s.heap.objs.size) (o:=.dK []) (h':=s.heap.push { cls:=.type "dict",data:=.dict #[] }) (t':=s.toks) (fun _ _ q=>Heap.get?_push_of_some _ q) (Nat.le_refl _) (dk_empty s.heap I.big)
 refine wpAny_Dict_walk (knd:=mixKind X.prog X.w) hall hl h0 h15 (thn (h pins _ σ _ _ I1 (q _ hn)) fun ws s2 ⟨ps,H2,I2,rel,e,kvs,ep,lk,q2⟩=>?_)
 subst ep
 obtain ⟨rs,c,rk⟩:=carries_of (P:=X.prog) (w:=X.w) rel
 obtain ⟨z,hd,vs0,r0,dd⟩:=dk_of I2.hok e
 cases r0
 refine ⟨rs,c,dd,fun h' dd' hs=>⟨.ref s.heap.objs.size,_,?_,rfl,q2⟩⟩
 have hz:(mergeK [] kvs).length ≤ sizeLine:=by
  have h1:=length_mergeK kvs []
  rw [List.length_nil] at h1
  rw [sizeLine_eq]; omega
 have he:∃ q,h'.get? s.heap.objs.size = some q:=let ⟨q,_,_,hq,_⟩:=dd'; ⟨q,hq⟩
 exact d_write I2 (by rw [e]; exact True.intro) hs he (dk_new hz hd (rk.merge .nil) dd')
structure M1 (X:Cx) (o:Expr) (m:Str) (apos:Pos) (e:Expr) (cpos:Pos):Prop where
 base:attributeBase o m X.env (eval o X.env) = eval o X.env
 few:((backTo cpos (starEach [e] X.env)).all (fun x=>!x.1) && (backToKw cpos (keywordEach [] X.env)).all (fun x=>x.1.isSome)
  && decide (([e]:List Expr).length + ([]:List Keyword).length + (if ([]:List Keyword).isEmpty then 0 else 1) < 30)) = true
 line:(apos.endLine == cpos.line) = true
 trees:backTo cpos (starEach [e] X.env) = [(false,eval e X.env)]
structure M2 (X:Cx) (o:Expr) (m:Str) (apos:Pos) (e f:Expr) (cpos:Pos):Prop where
 base:attributeBase o m X.env (eval o X.env) = eval o X.env
 few:((backTo cpos (starEach [e,f] X.env)).all (fun x=>!x.1) && (backToKw cpos (keywordEach [] X.env)).all (fun x=>x.1.isSome)
  && decide (([e,f]:List Expr).length + ([]:List Keyword).length + (if ([]:List Keyword).isEmpty then 0 else 1) < 30)) = true
 line:(apos.endLine == cpos.line) = true
 trees:backTo cpos (starEach [e,f] X.env) = [(false,eval e X.env),(false,eval f X.env)]
section
variable {X:Cx} {pins:List (Addr × Obj)} {σ:St} {H:Hp} {s:Shared} {a:Addr} {y d:V} {u r:Value} {o:Option V} {A:Around} {E:Value→Shared→Prop}
end
section
variable {X:Cx} {o e f:Expr} {apos cpos:Pos} {td ty tx:TE}
end
section
variable {X:Cx} {pins:List (Addr × Obj)} {σ:St} {H:Hp} {s:Shared} {a:Addr} {kvs:List (Key × V)} {A:Around} {E:Value→Shared→Prop}
end
section
variable {X:Cx} {pins:List (Addr × Obj)} {σ:St} {H:Hp} {s:Shared} {a:Addr} {y:V} {u:Value} {A:Around} {E:Value→Shared→Prop}
end
end L2
namespace Att
open PySem PySem.W PySem.Calls PyProof.Rows
theorem ints_of_wellAll {P:Params} {h:Heap}:∀ (ns:List Int) (vs:List Value),WellAll P h vs (ns.map WData.int)→IntsAre vs ns:=by
 intro ns
 induction ns with
 | nil=>
  intro vs w
  rw [List.map_nil] at w
  cases w
  exact .nil
 | cons n ns ih=>
  intro vs w
  rw [List.map_cons] at w
  cases w with
  | cons a b=>
   cases a
   exact .cons _ _ (ih _ b)
theorem script_of {l:OpenLaw} {n:Nat} (hn:l.most = some n) {P:Params} {h:Heap} {args:List WData} {vals:List Value}
  (hpre:l.row.toRowW.claim.pre args = true) (hwl:WellAll P h vals args) :
  ∃ a vs ns,vals = [Value.ref a]∧args = [WData.list (ns.map WData.int)]∧h.get? a = some { cls:=.type "list",data:=.seq vs.toArray }∧IntsAre vs ns∧ns.length ≤ n:=by
 have hsh:WShape.hasAll [] args [.list .int] = true:=(pre_splitW hpre).1
 have hc:l.pre.holds [] { args:=args } = true:=(pre_splitW hpre).2
 obtain ⟨d,r,rfl,h1,h2⟩:=hasAllW_cons hsh
 obtain rfl:=hasAllW_nil h2
 obtain ⟨xs,rfl,h3⟩:=hasW_list h1
 obtain ⟨ns,rfl⟩:=items_int h3
 have hlen:ns.length ≤ n:=by
  unfold OpenLaw.pre at hc
  have h4:(WTm.not (.lt (.lit (.int (n:Int))) (.len (.arg 0)))).holds [] { args:=[.list (ns.map .int)] } = true:=by
   have h4:=(holds_andW hc).1
   rw [hn] at h4
   exact h4
  have h5:=condW_of h4 (w_not (w_lt w_lit (w_len_list (w_arg rfl))))
  rw [List.length_map] at h5
  refine Nat.le_of_not_lt fun q=>?_
  have q':(n:Int) < ((ns.length:Nat):Int):=by omega
  first
   | (rw [decide_eq_true q'] at h5; exact absurd h5 (by decide))
   | (simp at h5; omega)
 cases hwl with
 | cons w1 w2=>
  cases w2
  cases w1 with
  | list ho hall=>exact ⟨_,_,ns,rfl,rfl,ho,ints_of_wellAll ns _ hall,hlen⟩
theorem post_true (l:OpenLaw) (args:List WData):l.row.toRowW.claim.post args (.bool true) args = true:=
 postW_of (r:=l.row.toRowW) (X:=(true == true))
  (show WShape.has [] (.bool true) .bool = true by first | rfl | decide | simp [WShape.has,WShape.arms,WShape.armsAll])
  (show (WTm.eq .res (.lit (.bool true))).value [] { args:=args,res:=some (.bool true),after:=args } = some (.bool (true == true)) from w_eq_bool (w_res rfl) w_lit) rfl
theorem attach_call {l:OpenLaw} {n:Nat} {q:Program} {loose:List Str} {XP:(Str→Option Value)→Heap→Prop} {YP:World→Heap→Prop} {d:DefRec}
  (hn:l.most = some n) (hdf:d.params.defaults = [])
  (call:∀ (w:World) (s₀ s₁:Shared) (mg mb:Str→Option Value) (fa:Addr) (o:Obj) (pm cd doc:Value) (a:Addr) (vs:List Value) (ns:List Int),
   Ground q loose [] XP w s₀ mg mb s₁.heap→YP w s₁.heap→
   s₁.heap.get? fa = some o→o.data = .func (docDef d.name d.params d.body d.scope pm cd doc)→s₁.heap.CodeRec cd d.name→mg d.name = some (.ref fa)→
   s₁.heap.get? a = some { cls:=.type "list",data:=.seq vs.toArray }→IntsAre vs ns→ns.length ≤ n→s₁.gens = #[]→
   codeAny (model l.prog w) callerA (.call (.ref fa) ⟨[.ref a],[]⟩) (fun r s'=>r = .ok (.ret (.bool true))∧OldK s₁.heap s'.heap∧s'.os = s₁.os∧AllBare s'.gens) s₁) :
  WalkO q loose XP YP l.row.toRowW d [] (fun f vs=>PySem.call f vs):=by
 intro w s₀ s₁ mg mb G Y fa o pm cd doc dV kV ho hd hcd hD hmg hg args vals as hpre hlay hrd hwl hlo
 obtain rfl:dV = .none:=Dflts.none hD hdf
 obtain rfl:kV = .none:=Dflts.noKw hD
 obtain ⟨a,vs,ns,rfl,rfl,hobj,hints,hlen⟩:=script_of hn hpre hwl
 refine enter_call (codeAny_mono (call w s₀ s₁ mg mb fa o pm cd doc a vs ns G Y ho (fd_plain hd) hcd hmg hobj hints hlen hg) fun r s' hq=>?_)
 obtain ⟨rfl,h2,h3,h4⟩:=hq
 exact ⟨.inl ⟨.bool true,.bool true,[],rfl,fun _=>rfl,.bool true,post_true l _,fun _=>⟨List.Pairwise.nil,fun _ hm=>(nomatch hm)⟩⟩,h2,h3,h4⟩
section
variable {prog:Program} {w:World} {A:Around} {E:Value→Shared→Prop} {s:Shared} {K:Frag}
end
end Att
namespace L2
open PySem PySem.Spec PyProof.Rows
theorem vals_ints:∀ {vs:List Value} {ns:List Int},IntsAre vs ns→Vals (ns.map V.int) vs
 | _,_,.nil=>.nil
 | _,_,.cons n t h=>.cons ⟨t,rfl⟩ (vals_ints h)
noncomputable def Only (H:Hp):Prop:=∀ b,H b = none ∨ ∃ o xs,H b = some (.frz o (.lst xs))
theorem law_call {P:Program} {w:World} {K:PySem.W.Frag} {mg mb:Str→Option Value} {CX:CXT} {k:Nat} {fa a:Addr} {fd:FuncData} {x:Str} {sp:Sp} {s₁:Shared} {vs:List Value} {ns:List Int}
  (KX:K.In s₁.heap) (hns:s₁.heap.Ns mainGlobals mg) (hb:s₁.heap.Ns builtinsNs mb) (hbb:∀ x:Str,x ≠ "__name__"→mb x = bootBuiltins x) (hlim:s₁.heap.NoLimit) (hg:s₁.gens = #[])
  (ha:s₁.heap.get? a = some { cls:=.type "list",data:=.seq vs.toArray }) (hi:IntsAre vs ns) (hl:ns.length ≤ sizeLine) (hr:Room k callerA)
  (F:∀ base:Heap,K.In base→base.Ns mainGlobals mg→FnOk P w K mg base CX k fa fd [x] sp) (hbind:∀ (s:Shared) (u:Value),BindsTo s fd ⟨[u],[]⟩ [(x,u)])
  (hsp:∀ H:Hp,Only H→SqL K H a (ns.map V.int)→sp [.ref a] H (fun v _=>v = .bl true) fun _ _ _=>False)
  (hCX:∀ H e s',CX [] H s₁ (fun _ _ _=>False) e s'→False) :
  codeAny (model P w) callerA (.call (.ref fa) ⟨[.ref a],[]⟩) (fun r s'=>r = .ok (.ret (.bool true))∧OldK s₁.heap s'.heap∧s'.os = s₁.os∧AllBare s'.gens) s₁:=by
 have rv:=vals_ints hi
 have lenV:=hi.length
 -- from an abstract heap in which nothing but the script may be tracked
 have core:∀ H:Hp,Only H→SqL K H a (ns.map V.int)→HOk P w H s₁.heap→(∀ b,H b ≠ none→b = a)→(H a ≠ none→K.lookup a = none)→
   codeAny (model P w) callerA (.call (.ref fa) ⟨[.ref a],[]⟩) (fun r s'=>r = .ok (.ret (.bool true))∧OldK s₁.heap s'.heap∧s'.os = s₁.os∧AllBare s'.gens) s₁:=by
  intro H hO hS hok hA hK
  have base_of:∀ {b:Addr} {o:Obj},s₁.heap.get? b = some o→H b = none→(hidT s₁.heap H).get? b = some o:=fun e n=>hidT_get e n
  have noA:∀ {b:Addr} {o:Obj} {es:Array DictEntry} {ep:Nat},s₁.heap.get? b = some o→o.data = .dict es ep→H b = none:=fun {b o es ep} e d=>by
   cases q:H b with
   | none=>rfl
   | some u=>
    have e':b = a:=hA b (by rw [q]; simp)
    subst e'
    rw [ha] at e; cases e
    have d':Data.seq vs.toArray _ = Data.dict es ep:=d
    cases d'
  have nsK:∀ {b:Addr} {m:Str→Option Value},s₁.heap.Ns b m→(hidT s₁.heap H).Ns b m:=fun {b m} ⟨o,es,ep,e,d,r⟩=>⟨o,es,ep,base_of e (noA e d),d,r⟩
  have hKb:K.In (hidT s₁.heap H):=fun b o e=>base_of (KX b o e) (by
   cases q:H b with
   | none=>rfl
   | some u=>
    have e':b = a:=hA b (by rw [q]; simp)
    subst e'
    rw [hK (by rw [q]; simp)] at e; cases e)
  have hM:Mod K mg (hidT s₁.heap H):=⟨hKb,nsK hns,⟨mb,nsK hb,hbb⟩,let ⟨mc,h1,h2⟩:=hlim; ⟨mc,nsK h1,h2⟩⟩
  have e0:Env0 P w K mg (hidT s₁.heap H) callerA [] s₁ H:=⟨rfl,hM,fun b o e=>of_hidT e,Nat.le_of_eq (hidT_size _ _),trivial,fun b hb=>absurd (show b ∈ ([]:List Addr) from hb) (by simp),hok,.of_eq hg⟩
  refine codeAny_mono ((F _ hKb (nsK hns)).run callerA [] s₁ H ⟨[.ref a],[]⟩ [.ref a] [.ref a] _ _ hr e0 (hbind s₁ (.ref a)) (.cons rfl .nil) (hsp H hO hS)) fun r s' h=>?_
  cases r with
  | error e=>exact (hCX H e s' h).elim
  | ok fl=>
   cases fl with
   | next=>exact False.elim h
   | brk=>exact False.elim h
   | cont=>exact False.elim h
   | ret u=>
    obtain ⟨v,H',os,bare,un,hok',r',q⟩:=h
    have q':v = .bl true:=q
    subst q'
    obtain rfl:u = Value.bool true:=r'
    refine ⟨rfl,OldK.of_keep fun b o e=>?_,os,bare⟩
    cases q:H b with
    | none=>exact un.keep b o e q (by intro z; exact absurd (show b ∈ ([]:List Addr) from z) (by simp)) (by simp)
    | some u=>
     rcases hO b with z | ⟨ob,xs,z⟩
     ·rw [q] at z; cases z
     ·have z2:=un.frzs b ob _ z
      obtain ⟨e1,_⟩:=hok b _ z
      obtain ⟨e2,_⟩:=hok' b _ z2
      rw [e] at e1; cases e1
      exact e2
 cases hk:K.lookup a with
 | some o=>
  -- the script is one of the module's own objects
  have e:=KX a o hk
  rw [ha] at e
  cases e
  refine core (fun _=>none) (fun _=>.inl rfl) (.inr ⟨_,vs.toArray,_,hk,rfl,rfl,rfl,by rw [List.size_toArray,lenV]; exact hl,by simpa using rv⟩) (fun b u z=>by have z':(none:Option HO) = some u:=z; cases z') (fun b z=>absurd rfl z) fun z=>absurd rfl z
 | none=>
  refine core (fun b=>if b = a then some (.frz { cls:=.type "list",data:=.seq vs.toArray } (.lst (ns.map V.int))) else none) (fun b=>?_) (.inl (.inr ⟨{ cls:=.type "list",data:=.seq vs.toArray },if_pos rfl⟩)) (fun b u z=>?_) (fun b z=>?_) fun _=>hk
  ·by_cases hb:b = a
   ·exact .inr ⟨_,_,if_pos hb⟩
   ·exact .inl (if_neg hb)
  ·by_cases hb:b = a
   ·have z':=(if_pos hb).symm.trans z
    cases z'
    subst hb
    exact ⟨ha,by rw [List.length_map]; exact hl,vs,_,rv,ha⟩
   ·have z':=(if_neg hb).symm.trans z
    cases z'
  ·by_cases hb:b = a
   ·exact hb
   ·exact absurd (if_neg hb) z
theorem walk_of {l:PySem.W.OpenLaw} {n k:Nat} {q:Program} {loose:List Str} {XP:(Str→Option Value)→Heap→Prop} {YP:World→Heap→Prop} {d:DefRec} {K:Params→PySem.W.Frag} {CX:World→CXT} {sp:World→Sp} {x:Str}
  (hn:l.most = some n) (hn2:n ≤ sizeLine) (hdf:d.params.defaults = []) (hr:Room k callerA)
  (hY:∀ (w:World) (h:Heap),YP w h→(K w.params).In h)
  (F:∀ (w:World) (mg:Str→Option Value) (fa:Addr) (h:Heap),(K w.params).In h→h.Ns mainGlobals mg→mg d.name = some (.ref fa)→
   ∃ fd:FuncData,(∀ (s:Shared) (u:Value),BindsTo s fd ⟨[u],[]⟩ [(x,u)])∧
    ∀ base:Heap,(K w.params).In base→base.Ns mainGlobals mg→FnOk l.prog w (K w.params) mg base (CX w) k fa fd [x] (sp w))
  (hsp:∀ (w:World) (H:Hp) (a:Addr) (ns:List Int),ns.length ≤ n→Only H→SqL (K w.params) H a (ns.map V.int)→sp w [.ref a] H (fun v _=>v = .bl true) fun _ _ _=>False)
  (hCX:∀ (w:World) (H:Hp) (s:Shared) (e:Value) (s':Shared),CX w [] H s (fun _ _ _=>False) e s'→False) :
  PySem.W.WalkO q loose XP YP l.row.toRowW d [] (fun f vs=>PySem.call f vs):=by
 refine Att.attach_call hn hdf fun w s₀ s₁ mg mb fa o pm cd doc a vs ns G Y ho hd hcd hmg hobj hints hlen hg=>?_
 have KX:=hY w _ Y
 obtain ⟨fd,hb,hF⟩:=F w mg fa _ KX G.T.g hmg
 exact law_call KX G.T.g G.T.b G.T.builtins G.T.nolimit hg hobj hints (Nat.le_trans hlen hn2) hr hF hb (fun H hO hS=>hsp w H a ns hlen hO hS) fun H e s'=>hCX w H s₁ e s'
noncomputable def defArgs (s:Stmt):Arguments:=match s with
 | .FunctionDef _ a _ _ _ _ _ _ _ _=>a
 | _=>{ posonlyargs:=[],args:=[],vararg:=none,kwonlyargs:=[],kw_defaults:=[],kwarg:=none,defaults:=[] }
noncomputable def defBody (s:Stmt):List Stmt:=match s with
 | .FunctionDef _ _ b _ _ _ _ _ _ _=>b
 | _=>[]
noncomputable def defScope (s:Stmt):Scope:=match s with
 | .FunctionDef _ _ _ _ _ _ sc _ _ _=>sc
 | _=>{ kind:=.function,names:=[],isGenerator:=false,isCoroutine:=false }
noncomputable abbrev CX0:CXT:=fun _ _ _ _ _ _=>False
noncomputable abbrev E0:XK:=fun _ _ _=>False
theorem pass0 {X:Cx}:Passes CX0 X E0:=fun _ _ _ _ _ _ _ h=>h.elim
structure Fun (K:PySem.W.Frag) (x qual:Str) (st:Stmt) (f:Addr) (fd:FuncData):Prop where
 ex:∃ (oc:Value) (od:Option Addr) (kV doc pm:Value) (an:Option Addr) (cdv ct:Value) (osl:Array (Option Value)),
  fd = PySem.W.fnOf x qual (defArgs st) (defBody st) (defScope st) .none kV doc pm an cdv ct∧K.lookup f = some ⟨oc,od,.func fd,osl⟩∧PySem.W.codeIn K cdv qual = true
 kp:PySem.W.keepIn K (.ref f) = true
section
variable {P:Program} {w:World} {K:PySem.W.Frag} {mg:Str→Option Value} {base:Heap}
theorem Fun.ok {x qual:Str} {st:Stmt} {f:Addr} {fd:FuncData} {N ps:List Str} {k:Nat} {sp:Sp} (F:Fun K x qual st f fd) (S:FnScope N ps (defScope st)) (len:∀ vs H Q E,sp vs H Q E→vs.length = ps.length)
  (hbody:∀ (cdv:Value) (A:Around) (outer:List Env) (s:Shared) (H:Hp) (vs:List V) (Q:VK) (E:XK),Room k (A.deeper (envOfC qual (defScope st) s.heap.objs.size f cdv))→sp vs H Q E→
   ∃ t,PSs (cxOf CX0 P w K mg base N qual (defScope st) f cdv A outer s H E).nox (defBody st) t∧t { nx:=fun _ H'=>Q .non H',rt:=Q } (start N vs) H):FnOk P w K mg base CX0 (k + 1) f fd ps sp:=by
 obtain ⟨oc,od,kV,doc,pm,an,cdv,ct,osl,rfl,lk,hcd⟩:=F.ex
 refine fn_of lk hcd S len fun A outer s H vs Q E hr hsp=>?_
 obtain ⟨t,h,q⟩:=hbody cdv A outer s H vs Q E hr hsp
 exact ⟨t,h.nox,q⟩
theorem Fun.binds {x qual:Str} {st:Stmt} {f:Addr} {fd:FuncData} {ps:List Str} (F:Fun K x qual st f fd)
  (h:∀ (kV doc pm:Value) (an:Option Addr) (cdv ct:Value) (us:List Value),us.length = ps.length→bindArgs (PySem.W.fnOf x qual (defArgs st) (defBody st) (defScope st) .none kV doc pm an cdv ct) ⟨us,[]⟩ = pure (ps.zip us)):Binds K fd ps []:=by
 obtain ⟨oc,od,kV,doc,pm,an,cdv,ct,osl,rfl,lk,hcd⟩:=F.ex
 exact .all (h kV doc pm an cdv ct)
theorem fun_mk {x qual:Str} {st:Stmt} {f:Addr} {oc:Value} {od an:Option Addr} {osl:Array (Option Value)} {kV doc pm cdv ct:Value} (l:K.lookup f = some ⟨oc,od,.func (PySem.W.fnOf x qual (defArgs st) (defBody st) (defScope st) .none kV doc pm an cdv ct),osl⟩)
  (c:PySem.W.codeIn K cdv qual = true) (k:PySem.W.keepIn K (.ref f) = true):Fun K x qual st f (PySem.W.fnOf x qual (defArgs st) (defBody st) (defScope st) .none kV doc pm an cdv ct):=⟨⟨oc,od,kV,doc,pm,an,cdv,ct,osl,rfl,l,c⟩,k⟩
end
theorem small1000 {n:Nat} (h:n ≤ 1000):n < sizeLine:=Nat.lt_of_le_of_lt h (by decide)
section
variable {X:Cx}
theorem pv (i:Nat) {x:Str} {pos:Pos} (hN:X.N[i]? = some x:=by rfl) (hv:Vis X.env.scope x:=by first | exact Or.inl rfl | exact Or.inr (Or.inl rfl) | exact Or.inr (Or.inr rfl)) (hd:(x == ("__debug__":Str)) = false:=by decide)
  (hcd:(x == ("__classdict__":Str)) = false:=by decide):PE X (.Name x pos) (tVar i):=pe_var hN hv hd hcd
theorem call_lenD:CallR X (.builtin "len") (fun xs H Q=>∃ a kvs,xs = [V.ref a]∧H a = some (.dK kvs)∧Q (.int kvs.length) H):=by
 intro pins s σ H xs us Q I r h
 obtain ⟨a,kvs,rfl,ha,q⟩:=h
 obtain ⟨u,rfl,ru⟩:=vals1 r
 cases ru
 exact d_len I (.inl ha) fun t s' I'=>⟨.int kvs.length,H,I',⟨t,rfl⟩,q⟩
end
noncomputable def Same (H H':Hp):Prop:=∀ b o,H b = some o→H' b = some o
theorem Same.trans {H H1 H2:Hp} (a:Same H H1) (b:Same H1 H2):Same H H2:=fun c o h=>b c o (a c o h)
theorem Same.free {H H':Hp} (e:Same H H') {l:Addr} (h:H' l = Option.none):H l = Option.none:=by
 cases q:H l with
 | none=>rfl
 | some o=>
  rw [e l o q] at h
  cases h
theorem Same.seq {K:PySem.W.Frag} {H H':Hp} {a:Addr} {xs:List V} (e:Same H H') (h:SqL K H a xs):SqL K H' a xs:=by
 rcases h with (h | ⟨o,h⟩) | h
 ·exact .inl (.inl (e _ _ h))
 ·exact .inl (.inr ⟨o,e _ _ h⟩)
 ·exact .inr h
section
variable {κ:Type} [DecidableEq κ]
end
end L2
set_option maxHeartbeats 4000000
namespace L2
open PySem PySem.Spec PyProof.Rows
theorem compLoop_any {prog:Program} {w:World} {A:Around} {R:Result→Shared→Prop} {s:Shared} {elt target iter:Expr} {ifs:List Expr} {scope:Scope} {pos:Pos} {it acc:Value} {env:Env} (I:Nat→Shared→Prop)
  (turn:∀ n s,I n s→wpAny (model prog w) A (pyNext it) (fun r s₁=>match r with
   | none=>R (.ok .next) s₁
   | some v=>wpAny (model prog w) A (letOwnedTupleGo target it v) (fun _ s₁'=>wpAny (model prog w) A (assign target env v) (fun _ s₂=>
     wpAny (model prog w) A (forIn ifs true fun c r=>if r = true then do let ok ← isTrue c env (eval c env); pure (ForInStep.yield ok) else pure (ForInStep.yield r)) (fun ok s₃=>
      if ok = true then wpAny (model prog w) A (eval elt env) (fun x s₄=>
       wpAny (model prog w) A (call (.builtin "list.append") [acc,x]) (fun _ s₅=>∃ m,m < n∧I m s₅) (fun _ _=>False) s₄) (fun _ _=>False) s₃
      else ∃ m,m < n∧I m s₃) (fun _ _=>False) s₂) (fun _ _=>False) s₁') (fun _ _=>False) s₁) (fun _ _=>False) s)
  (n:Nat) (h:I n s) :
  codeAny (model prog w) A (.compLoop (.ListComp elt [⟨target,iter,ifs,0⟩] scope pos) 0 it acc env) R s:=by
 refine codeAny_loop rfl I (fun n s hI=>?_) n h
 show wpAny _ A ((compTurn (.ListComp elt [⟨target,iter,ifs,0⟩] scope pos) 0 it acc env).onRaise (fun x=>do noteFrame x env; theTreesLotGoes x)) _ _ s
 refine wpAny_noted ?_
 rw [compTurn_list]
 refine wpAny_bind (wpAny_standAt (wpAny_bind (wpAny_mono (turn n s hI) (fun r s₁ h₁=>?_) fun _ _ h'=>h'.elim)))
 cases r with
 | none=>exact wpAny_pure h₁
 | some v=>
  refine wpAny_bind (wpAny_mono h₁ (fun _ s₁' h₁'=>?_) fun _ _ h'=>h'.elim)
  refine wpAny_bind (wpAny_mono h₁' (fun _ s₂ h₂=>wpAny_bind (wpAny_mono h₂ (fun ok s₃ h₃=>?_) fun _ _ h'=>h'.elim)) fun _ _ h'=>h'.elim)
  cases ok with
  | false=>exact wpAny_pure ⟨rfl,h₃⟩
  | true=>
   exact wpAny_bind (wpAny_bind (wpAny_mono h₃ (fun x s₄ h₄=>wpAny_bind (wpAny_mono h₄ (fun _ s₅ h₅=>wpAny_pure (wpAny_pure ⟨rfl,h₅⟩)) fun _ _ h'=>h'.elim)) fun _ _ h'=>h'.elim))
structure Bk where
 C:Addr
 s:Shared
 H:Hp
 fp:List Addr
 pn:List (Addr × Obj)
noncomputable def clOf (env:Env) (fs:List Str):List (Str × Addr):=fs.map fun x=>(x,(env.cells.lookup x).getD 0)
noncomputable abbrev Cx.blk (X:Cx) (N:List Str) (scope:Scope) (fs:List Str) (B:Bk):Cx:=
 { X with N:=N,s₀:=B.s,H₀:=B.H,env:=compEnvC scope (clOf X.env fs) B.C X.env,outer:=X.stack,ex:=B.fp,fn:=fun _=>false,pn:=B.pn,xe:=fun _ _=>False }
noncomputable def CellsOk (env:Env):List Str→Prop
 | []=>True
 | x :: r=>(∃ c,env.cells.lookup x = some c)∧CellsOk env r
theorem cl_of {env:Env}:∀ {fs:List Str},CellsOk env fs→∀ {x:Str} {c:Addr},(clOf env fs).lookup x = some c→env.cells.lookup x = some c
 | [],_,x,c,h=>by cases h
 | y :: r,k,x,c,h=>by
  obtain ⟨⟨d,hd⟩,k⟩:=k
  have h':List.lookup x ((y,(env.cells.lookup y).getD 0) :: clOf env r) = some c:=h
  rw [List.lookup_cons] at h'
  cases e:x == y with
  | true=>
   rw [e] at h'
   have e':x = y:=by simpa using e
   subst e'
   rw [hd] at h'
   rw [hd]
   exact h'
  | false=>
   rw [e] at h'
   exact cl_of k h'
noncomputable def hasB (names:List (Str × NameKind)) (cl:List (Str × Addr)):Bool:=names.all fun y=>(y.2 != .cell && y.2 != .free) || (cl.lookup y.1).isSome
theorem has_of {names:List (Str × NameKind)} {cl:List (Str × Addr)} {x:Str} {k:NameKind} (h:hasB names cl = true) (e:names.lookup x = some k) (hk:k = .cell ∨ k = .free):∃ c,cl.lookup x = some c:=by
 have hm:(x,k) ∈ names:=PySem.mem_of_lookup e
 have q:=List.all_eq_true.mp h _ hm
 have z:(cl.lookup x).isSome = true:=by
  rcases hk with rfl | rfl
  ·simpa using q
  ·simpa using q
 exact Option.isSome_iff_exists.mp z
noncomputable def FreeOk (env:Env) (scope:Scope) (cl:List (Str × Addr)):List Str→Prop
 | []=>True
 | x :: r=>((env.scope.names.lookup x = some .cell ∨ env.scope.names.lookup x = some .free)∧((relabel scope env).names.lookup x = some .cell ∨ (relabel scope env).names.lookup x = some .free)∧cl.lookup x = env.cells.lookup x)∧FreeOk env scope cl r
theorem FreeOk.mem {env:Env} {scope:Scope} {cl:List (Str × Addr)}:∀ {l:List Str},FreeOk env scope cl l→∀ x ∈ l,
  (env.scope.names.lookup x = some .cell ∨ env.scope.names.lookup x = some .free)∧((relabel scope env).names.lookup x = some .cell ∨ (relabel scope env).names.lookup x = some .free)∧cl.lookup x = env.cells.lookup x
 | [],_,x,h=>nomatch h
 | y :: r,k,x,h=>by
  rcases List.mem_cons.mp h with rfl | h
  ·exact k.1
  ·exact FreeOk.mem k.2 x h
noncomputable def blkSt (own:Nat) (fr:List Nat) (σ:St):St:=List.replicate own none ++ fr.map fun j=>(σ[j]?).getD none
noncomputable abbrev lstO (us:List Value):Obj:={ cls:=.type "list",data:=.seq us.toArray us.length }
theorem lstO_snoc (us:List Value) (u:Value):({ cls:=.type "list",data:=.seq (us.toArray.push u) (us.length + 1) }:Obj) = lstO (us ++ [u]):=by
 show ({ cls:=.type "list",data:=.seq (us.toArray.push u) (us.length + 1) }:Obj) = { cls:=.type "list",data:=.seq (us ++ [u]).toArray (us ++ [u]).length }
 rw [List.length_append,List.length_singleton,List.push_toArray]
section
variable {X:Cx} {pins:List (Addr × Obj)} {σ:St} {H:Hp} {s:Shared}
theorem Inv.track {D:Addr} {us:List Value} {n:Nat} {ys:List V} (I:Inv X pins σ H s) (f:FpOk X pins H D) (e:s.heap.get? D = some { cls:=.type "list",data:=.seq us.toArray n }) (r:Vals ys us) (hz:ys.length ≤ sizeLine) :
  Inv X pins σ (upd H D (.lst ys)) s:=by
 obtain ⟨f0,f1,f2,f3,f4,f5⟩:=f
 have nD:∀ b u,H b = some u→b ≠ D:=fun b u q=>ne_of_none q f0
 have hok:HOk X.prog X.w (upd H D (.lst ys)) s.heap:=fun b u q=>by
  by_cases hb:b = D
  ·subst hb
   rw [upd_same] at q
   cases q
   exact ⟨hz,us,n,r,e⟩
  ·rw [upd_ne hb] at q
   exact (I.hok b u q).stay (fun _ _ _ z=>z) (fun c z=>by rw [upd_ne (nD c _ z)]; exact z) fun c xs z=>by rw [upd_ne (nD c _ z)]; exact z
 exact I.step (H':=upd H D (.lst ys)) (h':=s.heap) (g':=s.gens) (t':=s.toks) (d':=s.drawn) (ch:=[D])
  (fun b hb=>by
   have z:b = D:=by simpa using hb
   subst z
   exact ⟨f3,f1,f4,f5⟩)
  (fun _ _ _ _ _ q _=>q) (fun _ o _ _ _ q _=>⟨o.slots,q⟩)
  (fun b o hb _ n=>by rw [upd_ne (fun z=>hb (by simp [z]))]; exact n)
  (fun _ o _ q=>⟨o,q⟩) (fun b xs q=>by rw [upd_ne (nD b _ q)]; exact q) (fun b o u q=>by rw [upd_ne (nD b _ q)]; exact q)
  (fun b ps q=>⟨#[],by rw [upd_ne (nD b _ q),q]; simp⟩) (fun _ q=>q) hok I.bare
theorem blk_ok {N:List Str} {scope:Scope} {fs:List Str} {C:Addr} {fp:List Addr} (I:Inv X pins σ H s) (hkind:scope.kind = .function) (hC:s.heap.objs.size ≤ C) (hcl:CellsOk X.env fs)
  (hhas:hasB (relabel scope X.env).names (clOf X.env fs) = true) (hf:∀ b ∈ fp,FpOk X pins H b) (hlt:∀ b ∈ fp,b < s.heap.objs.size):(X.blk N scope fs ⟨C,s,H,fp,X.pn ++ pins⟩).Ok where
 mod:=I.ok.mod
 kind:=hkind
 glob:=I.ok.glob
 blt:=I.ok.blt
 above:=hC
 inj:=fun x y c h1 h2=>I.ok.inj x y c (cl_of hcl h1) (cl_of hcl h2)
 has:=fun x hx=>by
  rcases hx with e | e
  ·exact has_of hhas e (.inl rfl)
  ·exact has_of hhas e (.inr rfl)
 cab:=fun x c h=>by cases h
 hd:=I.ok.hd
 frames:=I.ok.frames
 stk:=.inl rfl
 exf:=fun b hb=>⟨Nat.ne_of_lt (Nat.lt_of_lt_of_le (hlt b hb) hC),fun x c e=>(hf b hb).2.2.2.2.1 x c (cl_of hcl e)⟩
 bs:=I.bs
 bsz:=Nat.le_trans I.ok.bsz I.sz
 noex:=fun b o e hb=>(hf b hb).2.2.2.1.elim (fun z=>I.ok.noex b o e z) fun z=>absurd (Nat.lt_of_lt_of_le (Heap.lt_size e) (Nat.le_trans I.ok.bsz z)) (Nat.lt_irrefl _)
 exfs:=fun b hb z=>(List.mem_cons.mp (I.stkSub b z)).elim (hf b hb).2.1 (hf b hb).2.2.1
 funs:=I.stack
 frf:=I.stkFree
theorem blk_inv {N:List Str} {scope:Scope} {fs:List Str} {C D:Addr} {fp:List Addr} {own:Nat} {fr:List Nat} {h₁:Heap} {m0:Str→Option Value} {t':Nat} (I:Inv X pins σ H s)
  (ok:(X.blk N scope fs ⟨C,s,H,fp,X.pn ++ pins⟩).Ok) (hC:s.heap.objs.size ≤ C) (hD:s.heap.objs.size ≤ D) (hDC:D ≠ C) (hcl:CellsOk X.env fs)
  (old:∀ b o,s.heap.get? b = some o→h₁.get? b = some o) (hns:h₁.Ns C m0) (hacc:h₁.get? D = some (lstO [])) (hlen:N.length = own + fr.length) (hN:(N.drop own).map some = fr.map fun j=>X.N[j]?)
  (hF:FreeOk X.env scope (clOf X.env fs) (N.drop own)) :
  Inv (X.blk N scope fs ⟨C,s,H,fp,X.pn ++ pins⟩) [(D,lstO [])] (blkSt own fr σ) H { s with heap:=h₁,toks:=t' }:=by
 refine ⟨ok,rfl,I.bare,Un.kept old,⟨m0,hns,fun i x v e1 e2 e3=>?_⟩,fun x c e=>?_,I.hok.fresh hC,fun x c e=>I.freeC x c (cl_of hcl e),fun p hp=>?_,I.hok.kept old,?_⟩
 ·have e1:N[i]? = some x:=e1
  by_cases hi:i < own
  ·unfold blkSt at e2
   rw [List.getElem?_append_left (by rw [List.length_replicate]; exact hi),List.getElem?_replicate,if_pos hi] at e2
   cases e2
  ·obtain ⟨k,rfl⟩:∃ k,i = own + k:=⟨i - own,by omega⟩
   have e1':(N.drop own)[k]? = some x:=by rw [List.getElem?_drop]; exact e1
   have q:=congrArg (fun l=>l[k]?) hN
   simp only [List.getElem?_map,e1',Option.map_some] at q
   unfold blkSt at e2
   rw [List.getElem?_append_right (by rw [List.length_replicate]; omega),List.length_replicate,Nat.add_sub_cancel_left,List.getElem?_map] at e2
   cases hj:fr[k]? with
   | none=>rw [hj] at e2; cases e2
   | some j=>
    rw [hj] at e2 q
    simp only [Option.map_some,Option.some.injEq] at e2 q
    have hσ:σ[j]? = some (some v):=by
     cases z:σ[j]? with
     | none=>rw [z] at e2; cases e2
     | some w=>rw [z] at e2; simp only [Option.getD_some] at e2; rw [e2]
    obtain ⟨k1,k2,k3⟩:=hF.mem x (List.mem_of_getElem? e1')
    obtain ⟨m,hn,hl⟩:=I.loc
    have vis:Vis X.env.scope x:=by
     rcases k1 with z | z
     ·exact .inr (.inl z)
     ·exact .inr (.inr z)
    obtain ⟨u,ru,l⟩:=hl j x v q.symm hσ vis
    rcases l with ⟨hk,_⟩ | ⟨_,c,hc,o,ho,hd⟩
    ·have hk':X.env.scope.names.lookup x = some .local:=hk
     rcases k1 with z | z
     ·rw [z] at hk'; cases hk'
     ·rw [z] at hk'; cases hk'
    ·exact ⟨u,ru,.inr ⟨k2,c,k3.trans hc,o,old _ _ ho,hd⟩⟩
 ·obtain ⟨v,o,ho,hd⟩:=I.cell x c (cl_of hcl e)
  exact ⟨v,o,old _ _ ho,hd⟩
 ·rcases List.mem_append.mp hp with z | z
  ·obtain ⟨e,n,ne,nf,d⟩:=I.pin p z
   exact ⟨old _ _ e,n,Nat.ne_of_lt (Nat.lt_of_lt_of_le (Heap.lt_size e) hC),fun q=>(List.mem_cons.mp (I.stkSub _ q)).elim ne nf,d⟩
  ·have z':p = (D,lstO []):=by simpa using z
   subst z'
   exact ⟨hacc,I.hok.fresh hD,hDC,fun q=>(List.mem_cons.mp (I.stkSub _ q)).elim (fun e=>absurd e (Nat.ne_of_gt (Nat.lt_of_lt_of_le I.lt hD))) (I.nofs hD),fun v z=>by cases z⟩
 ·show (blkSt own fr σ).length = N.length
  unfold blkSt
  rw [List.length_append,List.length_replicate,List.length_map,hlen]
end
noncomputable def PF (X:Cx) (ifs:List Expr) (t:TT):Prop:=
 ∀ (pins:List (Addr × Obj)) (s:Shared) (σ:St) (H:Hp) (Q:Bool→Hp→Prop),Inv X pins σ H s→t σ H Q→
  wpAny (model X.prog X.w) X.A (forIn ifs true fun c r=>if r = true then do let ok ← isTrue c X.env (eval c X.env); pure (ForInStep.yield ok) else pure (ForInStep.yield r)) (TP X pins σ Q) X.xe s
noncomputable def tYes:TT:=fun _ H Q=>Q true H
theorem pf_nil {X:Cx}:PF X [] tYes:=fun _ _ _ H _ I h=>wpAny_tests_nil ⟨H,I,h⟩
theorem pf_one {X:Cx} {c:Expr} {t:TT} (h:PT X c t):PF X [c] t:=fun pins s σ H Q I q=>wpAny_tests_one (h pins s σ H Q I q)
noncomputable def CompW (J:It) (g:TG) (tc:TT) (te:TE) (own:Nat) (σ':St) (fin:List V→Hp→Prop) (H1:Hp):Prop:=
 ∃ W:Nat→Nat→List V→Hp→Prop,(∃ m,W 0 m [] H1)∧∀ i m ys H,W i m ys H→
  (J.stop i H∧ys.length ≤ sizeLine∧fin ys H) ∨
  (J.go i H∧ys.length ≤ sizeLine∧∃ Nx:List V→Hp→Prop,(∀ ys' H',Nx ys' H'→∃ m',m' < m∧W (i + 1) m' ys' H')∧∀ x H',J.yld i H x H'→g x σ' H' fun σ2 H2=>σ2.drop own = σ'.drop own∧tc σ2 H2 fun b H3=>
   if b = true then te σ2 H3 fun y H4=>Nx (ys ++ [y]) H4 else Nx ys H3)
section
variable {X:Cx} {pins:List (Addr × Obj)} {σ:St} {H:Hp} {s:Shared}
variable {elt iter tg:Expr} {ifs:List Expr} {scope:Scope} {pos:Pos} {N:List Str} {own:Nat} {fr:List Nat} {fs:List Str} {g:TG} {tc:TT} {te:TE}
theorem comp_block {J:It} {fp:List Addr} {it:Addr} {tn:Nat→Heap→Prop} {fin:List V→Hp→Prop} {E:Value→Shared→Prop} {RR:Value→Addr→Result→Shared→Prop}
  (hc:X.calm = true) (hcell:∀ y ∈ scope.names,y.2 ≠ .cell) (hkind:scope.kind = .function) (hcl:CellsOk X.env fs) (hhas:hasB (relabel scope X.env).names (clOf X.env fs) = true)
  (hlen:N.length = own + fr.length) (hN:(N.drop own).map some = fr.map fun j=>X.N[j]?) (hF:FreeOk X.env scope (clOf X.env fs) (N.drop own))
  (hg:∀ B,PG (X.blk N scope fs B) tg g) (hf:∀ B,PF (X.blk N scope fs B) ifs tc) (he:∀ B,PE (X.blk N scope fs B) elt te)
  (I:Inv X pins σ H s) (T:Turn X.prog X.w X.K tg J fp it tn) (st:tn 0 s.heap) (f:∀ b ∈ fp,FpOk X pins H b) (W:CompW J g tc te own (blkSt own fr σ) fin H)
  (hRR:∀ D C s' ys H' m',Inv X pins σ (upd H' D (.lst ys)) s'→H' D = none→s'.heap.Ns C m'→FpOk X pins (upd H' D (.lst ys)) C→fin ys H'→RR (.ref D) C (.ok .next) s') :
  wpAny (model X.prog X.w) X.A (newList []) (fun acc s₃=>wpAny (model X.prog X.w) X.A (newFunctionEnv scope X.env.globals (clOf X.env fs) [] X.env.qual none .none (some X.env)) (fun cenv s₄=>
   codeAny (model X.prog X.w) X.A (.compStart (.ListComp elt [⟨tg,iter,ifs,0⟩] scope pos) 0 (.ref it) acc { cenv with scope:=relabel scope X.env }) (RR acc cenv.locals) s₄) E s₃) E s:=by
 refine wpAny_newObj_type (wpAny_newFunctionEnv hcell (by intro y hy; simp at hy) (fun h₁ hns₁ hsb₁=>?_) hkind)
 dsimp only at hns₁ hsb₁ ⊢
 generalize hH2:s.heap.push { cls:=.type "list",dict:=none,data:=.seq ([]:List Value).toArray } = H2 at hns₁ hsb₁ ⊢
 have hC:H2.objs.size = s.heap.objs.size + 1:=by rw [← hH2,Heap.size_push]
 have hCle:s.heap.objs.size ≤ H2.objs.size:=by rw [hC]; exact Nat.le_succ _
 have hDC:s.heap.objs.size ≠ H2.objs.size:=by rw [hC]; exact Nat.ne_of_lt (Nat.lt_succ_self _)
 have below:∀ b,b < s.heap.objs.size→b ≠ H2.objs.size∧b ≠ s.heap.objs.size:=fun b hb=>⟨by rw [hC]; exact Nat.ne_of_lt (Nat.lt_succ_of_lt hb),Nat.ne_of_lt hb⟩
 have old:∀ b o,s.heap.get? b = some o→h₁.get? b = some o:=fun b o e=>hsb₁.extBut b o (below b (Heap.lt_size e)).1 (Heap.get?_push_of_some _ (hH2 ▸ Heap.get?_push_of_some _ e))
 have hacc:h₁.get? s.heap.objs.size = some (lstO []):=hsb₁.extBut _ _ hDC (Heap.get?_push_of_some _ (hH2 ▸ Heap.get?_push_size _ rfl))
 have hlt:∀ b ∈ fp,b < s.heap.objs.size:=fun b hb=>by
  obtain ⟨o,e,_⟩:=T.obj 0 _ st b hb
  exact Heap.lt_size e
 obtain ⟨Wv,⟨m0,w0⟩,turn⟩:=W
 have ok:=blk_ok (N:=N) I hkind hCle hcl hhas f hlt
 have loop:∀ s₃:Shared,s₃ = { s with heap:=h₁,toks:=s.toks + ([]:List (Str × Value)).length }→
   codeAny (model X.prog X.w) X.A (.compLoop (.ListComp elt [⟨tg,iter,ifs,0⟩] scope pos) 0 (.ref it) (.ref s.heap.objs.size) (compEnvC scope (clOf X.env fs) H2.objs.size X.env))
    (RR (.ref s.heap.objs.size) H2.objs.size) s₃:=by
  rintro s₃ rfl
  have I0:=blk_inv (own:=own) (fr:=fr) (t':=s.toks + ([]:List (Str × Value)).length) I ok hCle (Nat.le_refl _) hDC hcl old hns₁ hacc hlen hN hF
  have st0:tn 0 h₁:=T.keep 0 _ _ st fun b _ o e=>old b o e
  have stat:∀ {us:List Value} {H':Hp},(∀ b ∈ fp,H' b = none)→∀ b ∈ fp,FpOk (X.blk N scope fs ⟨H2.objs.size,s,H,fp,X.pn ++ pins⟩) [(s.heap.objs.size,lstO us)] H' b:=fun {us H'} hn b hb=>by
   obtain ⟨f0,f1,f2,f3,f4,f5⟩:=f b hb
   refine ⟨hn b hb,(below b (hlt b hb)).1,fun z=>(List.mem_cons.mp (I.stkSub b z)).elim f1 f2,.inl hb,fun x c e=>f4 x c (cl_of hcl e),fun p hp=>?_⟩
   rcases List.mem_append.mp hp with z | z
   ·exact f5 p z
   ·have z':p = (s.heap.objs.size,lstO us):=by simpa using z
    subst z'
    exact Ne.symm (below b (hlt b hb)).2
  have pnlt:∀ p ∈ X.pn ++ pins,p.1 < s.heap.objs.size:=fun p hp=>Heap.lt_size (I.pin p hp).1
  refine compLoop_any (fun k s'=>∃ i ys us H',Inv (X.blk N scope fs ⟨H2.objs.size,s,H,fp,X.pn ++ pins⟩) [(s.heap.objs.size,lstO us)] (blkSt own fr σ) H' s'∧Vals ys us∧tn i s'.heap∧(∀ b ∈ fp,H' b = none)∧Wv i k ys H') ?_ m0
   ⟨0,[],[],H,I0,.nil,st0,fun b hb=>(f b hb).1,w0⟩
  rintro n s' ⟨i,ys,us,H',I',rv,st',fr',w'⟩
  rcases turn i n ys H' w' with ⟨stop,hz,hfin⟩ | ⟨go,hz,Nx,hNx,step⟩
  ·refine thn (T.done (X.blk N scope fs ⟨H2.objs.size,s,H,fp,X.pn ++ pins⟩) rfl rfl rfl hc i _ s' _ H' (fun _ _=>False) I' (stat fr') st' stop) (fun r s1 ⟨hr,I1⟩=>?_)
   subst hr
   show RR _ _ (.ok .next) s1
   have IX:Inv X pins σ H' s1:=I.call' I1.os I1.base I1.hok I1.bare fun b hb=>by
    obtain ⟨f0,f1,f2,f3,f4,f5⟩:=f b hb
    exact ⟨f3,f1,f4,f5⟩
   obtain ⟨eD,nD,_⟩:=I1.pin (s.heap.objs.size,lstO us) (by simp)
   have IT:=IX.track (I.fpOk (H':=H') (Nat.le_refl _) nD) eD rv hz
   obtain ⟨m',hn',_⟩:=I1.loc
   exact hRR _ _ s1 ys H' m' IT nD hn' (I.fpOk hCle (by rw [upd_ne (Ne.symm hDC)]; exact I1.free)) hfin
  ·refine thn (T.item (X.blk N scope fs ⟨H2.objs.size,s,H,fp,X.pn ++ pins⟩) rfl rfl rfl hc i _ s' _ H' (fun _ _=>False) I' (stat fr') st' go) (fun r s1 ⟨u,hr,h1⟩=>?_)
   subst hr
   show wpAny _ _ (letOwnedTupleGo tg (.ref it) u) _ _ s1
   refine thn h1 (fun _ s5 ⟨x,H5,I5,r5,y5,st5,fr5⟩=>?_)
   have I5':=I5.pinned (stat fr5) (T.obj _ _ st5)
   refine thn (hg _ _ s5 _ H5 x u _ I5' r5 (step x H5 y5)) (fun _ s6 ⟨σ6,H6,I6,dr6,q6⟩=>?_)
   refine thn (hf _ _ s6 σ6 H6 _ I6 q6) (fun b s7 ⟨H7,I7,q7⟩=>?_)
   -- forgetting the turn's own names
   have forget:∀ {H8:Hp} {s8:Shared} {pl:List (Addr × Obj)},Inv (X.blk N scope fs ⟨H2.objs.size,s,H,fp,X.pn ++ pins⟩) pl σ6 H8 s8→Inv (X.blk N scope fs ⟨H2.objs.size,s,H,fp,X.pn ++ pins⟩) pl (blkSt own fr σ) H8 s8:=fun {H8 s8 pl} I8=>by
    refine I8.weak (I0.len.trans I8.len.symm) fun j v e=>?_
    by_cases hj:j < own
    ·unfold blkSt at e
     rw [List.getElem?_append_left (by rw [List.length_replicate]; exact hj),List.getElem?_replicate,if_pos hj] at e
     cases e
    ·obtain ⟨k,rfl⟩:∃ k,j = own + k:=⟨j - own,by omega⟩
     rw [← List.getElem?_drop] at e ⊢
     rw [dr6]
     exact e
   have fpk:∀ {H8:Hp} {s8:Shared},Inv (X.blk N scope fs ⟨H2.objs.size,s,H,fp,X.pn ++ pins⟩) ([(s.heap.objs.size,lstO us)] ++ pinsAt fp s5.heap) σ6 H8 s8→∀ b ∈ fp,∀ o,s5.heap.get? b = some o→s8.heap.get? b = some o∧H8 b = none:=fun I8 b hb o e=>
    let z:=I8.pin (b,o) (List.mem_append_right _ (List.mem_append_right _ (mem_pinsAt hb e)))
    ⟨z.1,z.2.1⟩
   cases b with
   | false=>
    show ∃ m,m < n∧_
    obtain ⟨m',hm,w7⟩:=hNx _ _ (show Nx ys H7 from q7)
    refine ⟨m',hm,i + 1,ys,us,H7,(forget I7).unpinned,rv,T.keep _ _ _ st5 fun b hb o e=>(fpk I7 b hb o e).1,fun b hb=>?_,w7⟩
    obtain ⟨o,e,_⟩:=T.obj _ _ st5 b hb
    exact (fpk I7 b hb o e).2
   | true=>
    show wpAny _ _ (eval elt _) _ _ s7
    have q7':te σ6 H7 fun y H4=>Nx (ys ++ [y]) H4:=q7
    refine thn (he _ _ s7 σ6 H7 _ I7 q7') (fun v s8 ⟨y,H8,I8,r8,n8⟩=>?_)
    obtain ⟨m',hm,w8⟩:=hNx _ _ n8
    obtain ⟨eD,nD,neD,nfD,_⟩:=I8.pin (s.heap.objs.size,lstO us) (List.mem_append_right _ (List.mem_append_left _ (by simp)))
    refine append_at (hsz:=by show us.toArray.size ≤ sizeLine; rw [List.size_toArray,← rv.length]; exact hz) eD fun h9 hs9 hD9=>?_
    have J0:Inv (X.blk N scope fs ⟨H2.objs.size,s,H,fp,X.pn ++ pins⟩) [] σ6 H8 s8:=I8.pins_of fun p hp=>nomatch hp
    have J1:Inv (X.blk N scope fs ⟨H2.objs.size,s,H,fp,X.pn ++ pins⟩) [] σ6 H8 { s8 with heap:=h9 }:=J0.turned (t':=s8.toks) (it:=s.heap.objs.size) (fun b o hb e=>(hs9.2 b hb).trans e) nD neD (.inr (Nat.le_refl _))
     (fun x c e z=>by
      obtain ⟨v',q⟩:=I.cell x c (cl_of hcl e)
      exact absurd (Nat.lt_of_lt_of_le q.lt (by rw [z]; exact Nat.le_refl _)) (Nat.lt_irrefl _))
     (fun p hp=>by
      rw [List.append_nil] at hp
      exact Nat.ne_of_lt (pnlt p hp))
    have J2:Inv (X.blk N scope fs ⟨H2.objs.size,s,H,fp,X.pn ++ pins⟩) [(s.heap.objs.size,lstO (us ++ [v]))] σ6 H8 { s8 with heap:=h9 }:=J1.pins_of fun p hp=>by
     have z':p = (s.heap.objs.size,lstO (us ++ [v])):=by simpa using hp
     subst z'
     exact ⟨hD9.trans (congrArg some (lstO_snoc us v)),nD,neD,nfD,fun v z=>by cases z⟩
    refine ⟨m',hm,i + 1,ys ++ [y],us ++ [v],H8,forget J2,Vals.append rv (.cons r8 .nil),T.keep _ _ _ st5 fun b hb o e=>(hs9.2 b (below b (hlt b hb)).2).trans (fpk I8 b hb o e).1,fun b hb=>?_,w8⟩
    obtain ⟨o,e,_⟩:=T.obj _ _ st5 b hb
    exact (fpk I8 b hb o e).2
 exact codeAny_compStart_list (loop _ rfl) (T.self _ 0 _ _ _ (T.keep 0 _ _ st fun b _ o e=>old b o e) (loop _ rfl))
noncomputable def tComp (wi:TI) (g:TG) (tc:TT) (te:TE) (own:Nat) (fr:List Nat):TE:=fun σ H Q=>wi σ H fun J H1=>
 CompW J g tc te own (blkSt own fr σ) (fun ys H2=>∀ D,H2 D = none→Q (.ref D) (upd H2 D (.lst ys))) H1
theorem pe_comp (fs:List Str) (own:Nat) (fr:List Nat) (N:List Str) {wi:TI} (hc:X.calm = true) (hclos:closureFor scope X.env = pure (clOf X.env fs)) (hcell:∀ y ∈ scope.names,y.2 ≠ .cell) (hkind:scope.kind = .function)
  (hnames:∀ x ∈ scope.names,x.2 = .local→scope.names.lookup x.1 = some .local) (hcl:CellsOk X.env fs) (hhas:hasB (relabel scope X.env).names (clOf X.env fs) = true)
  (hlen:N.length = own + fr.length) (hN:(N.drop own).map some = fr.map fun j=>X.N[j]?) (hF:FreeOk X.env scope (clOf X.env fs) (N.drop own))
  (hi:PI X tg iter wi) (hg:∀ B,PG (X.blk N scope fs B) tg g) (hf:∀ B,PF (X.blk N scope fs B) ifs tc) (he:∀ B,PE (X.blk N scope fs B) elt te)
  (hs:∀ x,foldedSetIterable iter X.env x = pure x:=by intro _; rfl):PE X (.ListComp elt [⟨tg,iter,ifs,0⟩] scope pos) (tComp wi g tc te own fr):=by
 intro pins s σ H Q I h
 rw [eval_ListComp]
 refine wpAny_comprehension_free (use:=none) (g:=⟨tg,iter,ifs,0⟩) (gs:=[]) rfl hs hclos hkind hnames (thn (hi pins s σ H _ I h) fun v s1 h1=>thn h1 fun itv s2 h2=>?_)
 obtain ⟨it,fp,tn,J,H2,e,I2,T,st2,f2,W⟩:=h2
 subst e
 refine comp_block (RR:=fun acc C=>compPost (model X.prog X.w) X.A X.xe none (EP X pins σ Q) acc C) hc hcell hkind hcl hhas hlen hN hF hg hf he I2 T st2 f2 W ?_
 intro D C s' ys H' m' I' nD hn fC fin
 exact ⟨m',hn,fun h' hs'=>⟨.ref D,_,I'.turned (t':=s'.toks) (fun b o hb e=>(hs'.2 b hb).trans e) fC.1 fC.2.1 fC.2.2.2.1 fC.2.2.2.2.1 fC.2.2.2.2.2,rfl,fin D nD⟩⟩
theorem ps_comp (fs:List Str) (own:Nat) (fr:List Nat) (N:List Str) {wi:TI} {i:Nat} {y:Str} {py spos:Pos} (hX:X.N.Nodup) (hix:X.N[i]? = some y) (hy:X.env.scope.names.lookup y = some .local)
  (hsw:swapsWith (.ListComp elt [⟨tg,iter,ifs,0⟩] scope pos) (some (.Name y py)) spos.line X.env = pure true)
  (hc:X.calm = true) (hclos:closureFor scope X.env = pure (clOf X.env fs)) (hcell:∀ y ∈ scope.names,y.2 ≠ .cell) (hkind:scope.kind = .function)
  (hnames:∀ x ∈ scope.names,x.2 = .local→scope.names.lookup x.1 = some .local) (hcl:CellsOk X.env fs) (hhas:hasB (relabel scope X.env).names (clOf X.env fs) = true)
  (hlen:N.length = own + fr.length) (hN:(N.drop own).map some = fr.map fun j=>X.N[j]?) (hF:FreeOk X.env scope (clOf X.env fs) (N.drop own))
  (hi:PI X tg iter wi) (hg:∀ B,PG (X.blk N scope fs B) tg g) (hf:∀ B,PF (X.blk N scope fs B) ifs tc) (he:∀ B,PE (X.blk N scope fs B) elt te)
  (hs:∀ x,foldedSetIterable iter X.env x = pure x:=by intro _; rfl):PS X (.Assign [.Name y py] (.ListComp elt [⟨tg,iter,ifs,0⟩] scope pos) spos) (tAsg (tComp wi g tc te own fr) (gName i)):=by
 intro pins s σ H D I h
 rw [exec_Assign_Name_used _ _ _ _ hsw]
 refine wpAny_bind (wpAny_standAt (wpAny_bind ?_))
 show wpAny _ X.A (do let _ ← comprehension (.ListComp elt [⟨tg,iter,ifs,0⟩] scope pos) scope X.env _ (newList []) false (eval iter X.env) (some (assign (.Name y py) X.env))) _ _ s
 refine wpAny_bind (wpAny_mono (wpAny_comprehension_free (use:=some (assign (.Name y py) X.env)) (Q:=fun _ s'=>SP X pins D .next s') (g:=⟨tg,iter,ifs,0⟩) (gs:=[]) rfl hs hclos hkind hnames
  (thn (hi pins s σ H _ I h) fun v s1 h1=>thn h1 fun itv s2 h2=>?_)) (fun _ s' hq=>wpAny_pure (wpAny_pure hq)) fun _ _ e=>e)
 obtain ⟨it,fp,tn,J,H2,e,I2,T,st2,f2,W⟩:=h2
 subst e
 refine comp_block (RR:=fun acc C=>compPost (model X.prog X.w) X.A X.xe (some (assign (.Name y py) X.env)) (fun _ s'=>SP X pins D .next s') acc C) hc hcell hkind hcl hhas hlen hN hF hg hf he I2 T st2 f2 W ?_
 intro Da C s' ys H' m' I' nD hn fC fin
 show wpAny _ X.A (assign (.Name y py) X.env (.ref Da)) _ _ s'
 refine wpAny_assign_Name (store_ok2 (v:=.ref Da) I' hX hix (.inl hy) rfl (fun s2 I3 ⟨a,sb,ha⟩=>?_) (.inr hy))
 have ca:C ≠ a:=by
  rcases ha with z | z
  ·rw [z]; exact fC.2.1
  ·exact Ne.symm (fC.2.2.2.2.1 _ _ z)
 exact ⟨m',hn.sameBut sb ca,fun h' hs'=>⟨_,_,I3.turned (t':=s2.toks) (fun b o hb e=>(hs'.2 b hb).trans e) fC.1 fC.2.1 fC.2.2.2.1 fC.2.2.2.2.1 fC.2.2.2.2.2,fin Da nD⟩⟩
end
end L2
namespace PySem
open Sem (wp)
namespace F
theorem nolen_lri:typeLookup (.type "list_reverseiterator") "__len__" = pure none:=by rw [typeLookup_type,builtinLookup_eq_fast]; kernel_rfl
theorem hint_lri:typeLookup (.type "list_reverseiterator") "__length_hint__" = pure (some (.builtin "list_reverseiterator.__length_hint__")):=by rw [typeLookup_type,builtinLookup_eq_fast]; kernel_rfl
end F
section
variable {prog:Program} {w:World} {A:Around} {s:Shared} {R:Result→Shared→Prop}
variable {I:Addr} {fp wr:List Addr} {G:Array GenState→Array GenState→Prop} {n:Nat} {P:Nat→Value→Prop} {St:Nat→Shared→Prop}
theorem extend_lri (W:WalksS prog w A.in1 I fp wr G n P St) (hT:∀ i s,St i s→s.TypeIs (.ref I) "list_reverseiterator") (S:Addr) (res:Value) (c₀:Nat) (hst:St 0 s) (hSf:S ∉ fp) (hI:I ∈ fp)
  (hS:s.heap.get? S = some { cls:=.type "list",data:=.seq #[] c₀ })
  (hR:∀ s' acc' c',Moved (S :: wr) G s s'→s'.heap.get? S = some { cls:=.type "list",dict:=none,data:=.seq acc' c',slots:=#[] }→ItemsOf P acc' n→R (.ok (.ret res)) s') (hn:n ≤ sizeLine) :
  wpAny (model prog w) A.in1 (Builtin.List.listExtendWith (.ref S) (.ref I) res)
   (fun fin s'=>match fin with | .done f=>R (.ok f) s' | .again c'=>c'.quiet = true∧codeAny (model prog w) A c' R s') (fun e s'=>R (.error e) s') s:=by
 have hSI:S ≠ I:=fun e=>hSf (e ▸ hI)
 have h1:Builtin.List.listSameRef (.ref S) (.ref I) = false:=by simp [Builtin.List.listSameRef,hSI]
 unfold Builtin.List.listExtendWith
 refine wpAny_bind (wpAny_typeOf (hT 0 _ hst) ?_)
 rw [if_neg (by rw [h1]; decide)]
 refine wpAny_bind (W.self 0 _ _ _ hst ?_)
 refine wpAny_bind (wpAny_holding ?_)
 unfold Builtin.List.listLengthHint
 refine wpAny_bind (wpAny_specialOf (hT 0 _ hst) F.nolen_lri ?_)
 show wpAny _ A.in1 (specialOf (Value.ref I) (Str.ofString "__length_hint__") >>= _) _ _ _
 refine wpAny_bind (wpAny_specialOf (hT 0 _ hst) F.hint_lri ?_)
 (generalize hid:("list_reverseiterator.__length_hint__":String) = id0; wp_delta; rw [show splitId id0 = some ("list_reverseiterator","__length_hint__") from by subst hid; decide +kernel]; subst hid)
 refine wpAny_bind (wpAny_isInstance (b:=true) (hT 0 _ hst) (by rw [isSubtype_type]; kernel_rfl) ?_)
 refine wpAny_pure ?_
 rw [if_neg (by decide)]
 exact wpAny_pure ⟨plainId_quiet F.plain_extend_loop _,codeAny_extend_loopS W hn _ hSf _ n 0 _ _ _ rfl (Nat.zero_le _) hst hS (ItemsOf.nil P) fun s' acc' c' hm hS' hacc=>hR s' acc' c' hm hS' hacc⟩
theorem list_init_lri (W:WalksS prog w A.in1 I fp wr G n P St) (hT:∀ i s,St i s→s.TypeIs (.ref I) "list_reverseiterator") (S:Addr) (hst:St 0 s) (hSf:S ∉ fp) (hI:I ∈ fp)
  (hS:s.heap.get? S = some { cls:=.type "list",data:=.seq #[] })
  (hR:∀ s' acc' c',Moved (S :: wr) G s s'→s'.heap.get? S = some { cls:=.type "list",dict:=none,data:=.seq acc' c',slots:=#[] }→ItemsOf P acc' n→R (.ok (.ret .none)) s') (hn:n ≤ sizeLine) :
  wpAny (model prog w) A.in1 (Builtin.«list.__init__» ⟨[.ref S,.ref I],[]⟩)
   (fun fin s'=>match fin with | .done f=>R (.ok f) s' | .again c'=>c'.quiet = true∧codeAny (model prog w) A c' R s') (fun e s'=>R (.error e) s') s:=by
 show wpAny _ A.in1 (do let old ← Builtin.List.listItems (.ref S); Builtin.List.listUpdate (.ref S) (fun _=>#[]); letGo old.toList.reverse; Builtin.List.listExtendWith (.ref S) (.ref I) .none) _ _ s
 refine wpAny_bind ?_
 unfold Builtin.List.listItems
 refine wpAny_bind (wpAny_seqItems hS rfl (wpAny_pure ?_))
 show wpAny _ A.in1 (updateSeq S (fun _=>#[]) >>= fun _=>letGo (#[]:Array Value).toList.reverse >>= fun _=>Builtin.List.listExtendWith (.ref S) (.ref I) .none) _ _ s
 refine wpAny_bind (wpAny_updateSeq hS rfl ?_)
 have hS₂:=Heap.get?_update_self (Obj.mapSeq (fun _=>(#[]:Array Value))) hS rfl
 have oth:∀ b o,b ≠ S→s.heap.get? b = some o→(s.heap.update S (Obj.mapSeq (fun _=>(#[]:Array Value)))).get? b = some o:=
  fun b o hb e=>(Heap.get?_update_other _ _ (Ne.symm hb)).trans e
 refine wpAny_bind (wpAny_letGo ?_)
 refine extend_lri (hn:=hn) W hT S .none _ (W.frame 0 s _ s.toks hst (Nat.le_refl _) fun b hb o e=>oth b o (fun h=>hSf (h ▸ hb)) e) hSf hI hS₂ fun s' acc' c' hm hS' hacc=>?_
 exact hR s' acc' c' (Moved.trans W.gtrans ((Moved.refl W.grefl).then_heap (Nat.le_refl _) fun b o hb e=>oth b o (fun h=>hb (h ▸ List.mem_cons_self)) e) hm) hS' hacc
end
section
variable {prog:Program} {w:World} {A:Around} {E:Value→Shared→Prop} {s:Shared}
theorem call_list_lri {I l:Addr} {items:Array Value} {Q:Value→Shared→Prop} (hh:A.handled = none) (hl:s.heap.IsList l items) (hit:s.heap.IsRevIter I l ((items.size:Int) - 1)) (hne:l ≠ I) (hn:items.size ≤ sizeLine)
  (hQ:∀ h' tk acc' c',(∀ b o,b ≠ I→s.heap.get? b = some o→h'.get? b = some o)→h'.get? s.heap.objs.size = some { cls:=.type "list",dict:=none,data:=.seq acc' c',slots:=#[] }→
   acc'.toList = items.toList.reverse→Q (.ref s.heap.objs.size) { s with heap:=h',toks:=tk }) :
  wpAny (model prog w) A (call (.type "list") [.ref I]) Q E s:=by
 have W:=(Walks.listRev (prog:=prog) (w:=w) (A:=A.in1.in1) hh I l hne items).toS
 have hIlt:I < s.heap.objs.size:=by obtain ⟨o,ho,_⟩:=hit; exact Heap.lt_size ho
 have hllt:l < s.heap.objs.size:=by obtain ⟨o,ho,_⟩:=hl; exact Heap.lt_size ho
 have hfp:∀ b ∈ [I,l],b < s.heap.objs.size:=fun b hb=>by
  rcases List.mem_cons.mp hb with rfl | hb
  ·exact hIlt
  ·rw [List.mem_singleton.mp hb]; exact hllt
 have hSf:s.heap.objs.size ∉ [I,l]:=fun hm=>Nat.lt_irrefl _ (hfp _ hm)
 have hst:(fun i (s:Shared)=>i ≤ items.size∧s.heap.IsRevIter I l ((items.size:Int) - 1 - (i:Int))∧s.heap.IsList l items) 0 s:=⟨Nat.zero_le _,by simpa using hit,hl⟩
 refine callType_codes (Q₁:=fun obj s₁=>obj = .ref s.heap.objs.size∧s₁ = { s with heap:=s.heap.push { cls:=.type "list",data:=.seq #[] } }) F.called_list (F.typeCall_list_1 _) F.entry_list_init
  (code_list_new _ ⟨rfl,rfl⟩) fun obj s₁ h₁=>?_
 obtain ⟨rfl,rfl⟩:=h₁
 have hS:(s.heap.push { cls:=.type "list",data:=.seq #[] }).get? s.heap.objs.size = some { cls:=.type "list",data:=.seq #[] }:=Heap.get?_push_size _ rfl
 refine ⟨⟨_,hS,rfl⟩,F.args_list_init_2 _ _,list_init_lri (hn:=hn) W (fun i s st=>st.2.1.typeIs) _ (W.frame 0 s _ s.toks hst (Nat.le_refl _) fun b _ o e=>Heap.get?_push_of_some _ e) hSf (List.mem_cons_self ..) hS fun s' acc' c' hm hS' hacc=>?_⟩
 refine ⟨rfl,?_⟩
 rw [hm.eq_with]
 refine hQ s'.heap s'.toks acc' c' (fun b o hb e=>hm.heap b o (fun z=>?_) (Heap.get?_push_of_some _ e)) hS' ?_
 ·rcases List.mem_cons.mp z with z | z
  ·exact absurd (Heap.lt_size e) (by rw [z]; exact Nat.lt_irrefl _)
  ·exact hb (List.mem_singleton.mp z)
 ·obtain ⟨hsz,hP⟩:=hacc
  apply List.ext_getElem?
  intro j
  by_cases hj:j < items.size
  ·have hj':j < acc'.size:=by rw [hsz]; exact hj
   have q:=hP j acc'[j] (by simp [hj'])
   have e1:acc'.toList[j]? = some acc'[j]:=by simp [hj']
   rw [e1,List.getElem?_reverse (by simpa using hj)]
   simpa using q.symm
  ·rw [List.getElem?_eq_none (by simpa [hsz] using hj),List.getElem?_eq_none (by simpa using hj)]
end
end PySem
namespace L2
open PySem PySem.Spec PyProof.Rows
section
variable {X:Cx}
noncomputable def tListRev (K:PySem.W.Frag) (te:TE):TE:=fun σ H Q=>te σ H fun x H1=>∃ a xs,x = .ref a∧SqL K H1 a xs∧∀ q,H1 q = none→Q (.ref q) (upd H1 q (.lst xs.reverse))
theorem pe_listRev {e:Expr} {te:TE} {p1 p2 q1 q2:Pos} (hc:X.calm = true) (he:PE X e te) (hg1:Gl X "list") (hm1:X.mg "list" = none) (hg2:Gl X "reversed") (hm2:X.mg "reversed" = none)
  (hs:starEach [e] X.env = [(false,eval e X.env)]:=by rfl) (hs2:starEach [.Call (.Name "reversed" p2) [e] [] q2] X.env = [(false,eval (.Call (.Name "reversed" p2) [e] [] q2) X.env)]:=by rfl) :
  PE X (.Call (.Name "list" p1) [.Call (.Name "reversed" p2) [e] [] q2] [] q1) (tListRev X.K te):=by
 intro pins s σ H Q I h
 refine wpAny_Call_Name_kw (ld_blt I hg1 hm1 (u:=.type "list") (by decide +kernel) ?_)
 refine PyProof.Rows.callWith_type1 ?_ hs2 rfl
 rw [hs2]
 show wpAny _ _ (spliced ((false,eval (.Call (.Name "reversed" p2) [e] [] q2) X.env) :: backTo q1 [])) _ _ s
 refine Calls.spliced_cons ?_
 refine wpAny_Call_Name_kw (ld_blt I hg2 hm2 (u:=.type "reversed") boot_reversed ?_)
 refine PyProof.Rows.callWith_type1 ?_ hs rfl
 rw [hs]
 show wpAny _ _ (spliced ((false,eval e X.env) :: backTo q2 [])) _ _ s
 refine Calls.spliced_cons (thn (he pins s σ H _ I h) fun u s1 ⟨x,H1,I1,r1,a,xs,ex,hx,q⟩=>?_)
 subst ex
 cases r1
 obtain ⟨its,rv,p,hz⟩:=I1.list hx
 have hl:=rv.length
 have hal:a < s1.heap.objs.size:=by obtain ⟨o,ho,_⟩:=p.isList; exact Heap.lt_size ho
 refine Calls.spliced_nil (call_reversed_list p.isList ?_)
 refine Calls.spliced_nil ?_
 refine call_list_lri (I.ok.hd hc) (p.isList.push _) ⟨_,Heap.get?_push_size _ rfl,rfl,rfl⟩ (Nat.ne_of_lt hal) (by rw [List.size_toArray,← hl]; exact hz) fun h' tk acc c hk hS ha=>?_
 have hsz:(s1.heap.push (revObj a ((its.toArray.size:Int) - 1))).objs.size = s1.heap.objs.size + 1:=Heap.size_push _ _
 have hle:s1.heap.objs.size ≤ (s1.heap.push (revObj a ((its.toArray.size:Int) - 1))).objs.size:=by rw [hsz]; exact Nat.le_succ _
 refine ⟨.ref _,_,I1.laid (a:=(s1.heap.push (revObj a ((its.toArray.size:Int) - 1))).objs.size) (o:=.lst xs.reverse) (h':=h') (t':=tk) (fun b u e=>hk b u (Nat.ne_of_lt (Heap.lt_size e)) (Heap.get?_push_of_some _ e)) hle ?_,rfl,q _ (I1.hok.fresh hle)⟩
 refine ⟨by rw [List.length_reverse]; exact hz,its.reverse,c,Vals.reverse rv,?_⟩
 rw [hS]
 have e:acc = its.reverse.toArray:=by
  apply Array.toList_inj.mp
  rw [ha]
 rw [e]
end
section
variable {X:Cx}
end
section
variable {X:Cx}
noncomputable abbrev sgn (c:Nat):Str:=⟨#[c]⟩
noncomputable def Its (z:Str):It:=⟨fun i _=>i < z.cps.size,fun i H x H'=>H' = H∧∃ c,z.cps[i]? = some c∧x = .str (sgn c),fun i _=>z.cps.size ≤ i⟩
theorem turn_str {P:Program} {w:World} {K:PySem.W.Frag} {tg:Expr} {ty:String} (hty:ty = "str_ascii_iterator" ∨ ty = "str_iterator") (it:Addr) (z:Str) (t:Tok):Turn P w K tg (Its z) [it] it (fun i h=>i ≤ z.cps.size∧h.IsStrIter it ty z t i):=by
 have W:∀ A':Around,A'.handled = none→Walks P w A' it [it] [it] z.cps.size (SignAt z) (fun i h=>h.IsStrIter it ty z t i):=fun A' hA=>by
  rcases hty with rfl | rfl
  ·exact Walks.strAscii hA it z t
  ·exact Walks.strWide hA it z t
 have nt:(["enumerate","zip","dict_itemiterator","dict_reverseitemiterator","odict_iterator","itertools.zip_longest","itertools.pairwise"].contains ty) = false:=by
  rcases hty with rfl | rfl <;> decide
 refine ⟨by simp,fun i h st b hb=>?_,fun i h h' st k=>?_,?_,?_,?_⟩
 ·have e:b = it:=by simpa using hb
  subst e
  obtain ⟨_,o,e,c,d⟩:=st
  exact ⟨o,e,fun v q=>by rw [d] at q; cases q⟩
 ·obtain ⟨hi,o,e,r⟩:=st
  exact ⟨hi,o,k it (by simp) o e,r⟩
 ·intro X hP hw hK hc i pins s σ H E I hf st hg
  subst hP hw hK
  obtain ⟨f0,f1,f2,f3,f4,f5⟩:=hf it (by simp)
  refine (W X.A (I.ok.hd hc)).item i s _ _ hg st.2 fun v h' tk hv st' kk=>?_
  obtain ⟨c,u,hcp,rfl⟩:=hv
  have I1:Inv X pins σ H { s with heap:=h',toks:=tk }:=I.turned (fun b o hb e=>kk b o (by simpa using hb) e) f0 f1 f3 f4 f5
  obtain ⟨o,e,co,d⟩:=id st'
  exact ⟨_,rfl,go_of (s:={ s with heap:=h',toks:=tk }) e co d nt ⟨.str (sgn c),H,I1,⟨u,rfl⟩,⟨rfl,c,hcp,rfl⟩,⟨hg,st'⟩,fun b hb=>(hf b hb).1⟩⟩
 ·intro X hP hw hK hc i pins s σ H E I hf st hg
  subst hP hw hK
  obtain ⟨f0,f1,f2,f3,f4,f5⟩:=hf it (by simp)
  have e:i = z.cps.size:=Nat.le_antisymm st.1 hg
  subst e
  exact (W X.A (I.ok.hd hc)).done s _ _ st.2 fun h' tk kk=>⟨rfl,I.turned (fun b o hb e=>kk b o (by simpa using hb) e) f0 f1 f3 f4 f5⟩
 ·intro A i s Q E st h
  rcases hty with rfl | rfl
  ·exact wpAny_pyIter_striter_ascii st.2 h
  ·exact wpAny_pyIter_striter_wide st.2 h
theorem strs_of {ys:List Str}:∀ {us:List Value},Vals (ys.map V.str) us→StrsAre us ys:=by
 induction ys with
 | nil=>intro us r; rw [List.map_nil] at r; cases r; exact .nil
 | cons n ns ih=>
  intro us r
  rw [List.map_cons] at r
  cases r with
  | cons r1 r2=>
   obtain ⟨t,e⟩:=r1
   subst e
   exact .cons n t (ih r2)
noncomputable def rJoin (K:PySem.W.Frag):V→List V→Hp→VK→Prop:=fun x vs H Q=>∃ sep p ys,x = .str sep∧vs = [.ref p]∧SqL K H p (ys.map V.str)∧(ys.map (·.length)).sum + ys.length * sep.length ≤ 1000000∧Q (.str (Txt.join sep ys)) H
theorem mt_join:MtR X "str.join" (rJoin X.K):=by
 intro pins s σ H x vs v us Q I rx rv h
 obtain ⟨sep,p,ys,rfl,rfl,hp,hz,q⟩:=h
 obtain ⟨t,rfl⟩:=rx
 obtain ⟨u,rfl,ru⟩:=vals1 rv
 cases ru
 obtain ⟨its,r,pl,_⟩:=I.list hp
 exact join_list pl.isList (by simpa using strs_of r) (by omega) fun t' k=>⟨.str _,H,I.tok k,⟨t',rfl⟩,q⟩
theorem signs_vals {z:Str} {acc:Array Value} (h:ItemsOf (SignAt z) acc z.cps.size):Vals (z.cps.toList.map fun c=>V.str (sgn c)) acc.toList:=by
 obtain ⟨hs,hP⟩:=h
 have key:∀ (cs:List Nat) (us:List Value),us.length = cs.length→(∀ (j:Nat) (v:Value),us[j]? = some v→∃ c u,cs[j]? = some c∧v = .str (sgn c) u)→Vals (cs.map fun c=>V.str (sgn c)) us:=by
  intro cs
  induction cs with
  | nil=>
   intro us hl _
   cases us with
   | nil=>exact .nil
   | cons u us=>cases hl
  | cons c cs ih=>
   intro us hl hu
   cases us with
   | nil=>cases hl
   | cons u us=>
    obtain ⟨c',t,e1,e2⟩:=hu 0 u rfl
    have e1':c = c':=by simpa using e1
    subst e1'
    refine .cons ⟨t,e2⟩ (ih us (by simpa using hl) fun j v e=>?_)
    exact hu (j + 1) v (by simpa using e)
 refine key z.cps.toList acc.toList (by simp [hs]) fun j v e=>?_
 obtain ⟨c,u,e1,e2⟩:=hP j v (by simpa using e)
 exact ⟨c,u,by simpa using e1,e2⟩
theorem call_list_of_str (hc:X.calm = true):CallR X (.type "list") (fun xs H Q=>∃ z,xs = [.str z]∧z.length ≤ sizeLine∧∀ l,H l = none→Q (.ref l) (upd H l (.lst (z.cps.toList.map fun c=>V.str (sgn c))))):=by
 intro pins s σ H xs us Q I r h
 obtain ⟨z,rfl,hz,q⟩:=h
 obtain ⟨u,rfl,t,rfl⟩:=vals1 r
 refine call_list_str (I.ok.hd hc) z t (fun h' tk acc c hk hS ha=>?_) hz
 refine ⟨.ref _,_,I.laid (a:=s.heap.objs.size) (o:=.lst (z.cps.toList.map fun c=>V.str (sgn c))) (h':=h') (t':=tk) hk (Nat.le_refl _) ?_,rfl,q _ (I.hok.fresh (Nat.le_refl _))⟩
 exact ⟨by rw [List.length_map,Array.length_toList]; exact hz,acc.toList,c,signs_vals ha,by rw [hS]⟩
end
section
variable {X:Cx}
noncomputable def rSlS:V→Option Int→Option Int→Hp→VK→Prop:=fun x lo hi H Q=>∃ z,x = .str z∧z.length ≤ sizeLine∧Q (.str (Txt.slice z lo hi)) H
theorem sl_str:SlR X rSlS:=by
 intro pins s σ H x v vl vu lo hi sl Q I rx hs pl pu h
 obtain ⟨z,rfl,hz,q⟩:=h
 obtain ⟨t,rfl⟩:=rx
 refine ⟨"str",_,F.slot_str_getitem.lookup,typeIs_str _ _ _,?_⟩
 obtain ⟨o,e,c,d⟩:=hs
 have fin:∀ l u:Option (Int × Tok),(vl = partValue l∧lo = l.map (·.1))→(vu = partValue u∧hi = u.map (·.1))→wpAny (model X.prog X.w) X.A (getItem (.str z t) (.ref sl)) (EP X pins σ Q) X.xe s:=by
  rintro l u ⟨rfl,rfl⟩ ⟨rfl,rfl⟩
  exact wpAny_getItem_str_slice (l:=l) (u:=u) (st:=none) ⟨o,e,c,d⟩ rfl (post_val_or_str ⟨Nat.le_trans (Txt.slice_le z _ _) hz,fun t' k=>⟨.str _,H,I.tok k,⟨t',rfl⟩,q⟩⟩)
 cases pl with
 | none=>
  cases pu with
  | none=>exact fin none none ⟨rfl,rfl⟩ ⟨rfl,rfl⟩
  | int j uj=>exact fin none (some (j,uj)) ⟨rfl,rfl⟩ ⟨rfl,rfl⟩
 | int i ui=>
  cases pu with
  | none=>exact fin (some (i,ui)) none ⟨rfl,rfl⟩ ⟨rfl,rfl⟩
  | int j uj=>exact fin (some (i,ui)) (some (j,uj)) ⟨rfl,rfl⟩ ⟨rfl,rfl⟩
noncomputable def rIndex:V→List V→Hp→VK→Prop:=fun x vs H Q=>∃ a b i rest,x = .str a∧vs = [.str b]∧Builtin.Str.occurrences a b 0 a.length 1 = i :: rest∧Q (.int i) H
theorem mt_index:MtR X "str.index" rIndex:=by
 intro pins s σ H x vs v us Q I rx rv h
 obtain ⟨a,b,i,rest,rfl,rfl,ho,q⟩:=h
 obtain ⟨t,rfl⟩:=rx
 obtain ⟨w,rfl,u,rfl⟩:=vals1 rv
 exact call_gives F.slot_str_index (typeIs_str _ _ _) F.entry_str_index (F.args_str_index_2 _ _) (gives_str_index a b t u i rest ho) ⟨.int i,H,I.tok _,⟨_,rfl⟩,q⟩
noncomputable def tThree (K:PySem.W.Frag) (i j k:Nat) (te:TE):TS:=fun D σ H=>te σ H fun x H1=>∃ p v w u,x = .ref p∧SqT K H1 p [v,w,u]∧D.nx (((σ.set k (some u)).set j (some w)).set i (some v)) H1
theorem ps_three {i j k:Nat} {x y z:Str} {e:Expr} {te:TE} {px py pz pt:Pos} {kt:Nat} {pos:Pos} (hc:X.calm = true) (hN:X.N.Nodup) (hi:X.N[i]? = some x) (hj:X.N[j]? = some y) (hk:X.N[k]? = some z)
  (hx:X.env.scope.names.lookup x = some .local) (hy:X.env.scope.names.lookup y = some .local) (hz:X.env.scope.names.lookup z = some .local) (he:PE X e te)
  (hw:swappedStores [.Tuple [.Name x px,.Name y py,.Name z pz] kt pt] e X.env = pure (some [x,y,z]))
  (hs:swapsWithSole [.Tuple [.Name x px,.Name y py,.Name z pz] kt pt] e pos.line X.env = pure false) :
  PS X (.Assign [.Tuple [.Name x px,.Name y py,.Name z pz] kt pt] e pos) (tThree X.K i j k te):=by
 intro pins s σ H D I h
 refine Assign_Tuple_swapped (names:=[x,y,z]) (thn (he pins s σ H _ I h) fun r s1 ⟨xr,H1,I1,r1,p,v,w,u,ex,hp,q⟩=>?_) hs hw
 subst ex
 cases r1
 obtain ⟨its,rv,tp,_⟩:=I1.tuple hp
 obtain ⟨u1,u2,u3,ei,a1,a2,a3⟩:∃ u1 u2 u3,its = [u1,u2,u3]∧RelV v u1∧RelV w u2∧RelV u u3:=by
  cases rv with
  | cons a1 rv=>
   cases rv with
   | cons a2 rv=>
    cases rv with
    | cons a3 rv=>
     cases rv
     exact ⟨_,_,_,rfl,a1,a2,a3⟩
 subst ei
 refine unpackItems_tuple (items:=#[u1,u2,u3]) (I.ok.hd hc) tp fun h' kp=>?_
 have I2:=I1.kept (h':=h') (t':=s1.toks) fun b o eb=>kp b o (Nat.ne_of_lt (Heap.lt_size eb)) eb
 refine assignInOrder_cons (wpAny_bindName (store_ok I2 hN hk (.inl hz) a3 (fun s2 I3=>?_) (.inr hz)))
 refine assignInOrder_cons (wpAny_bindName (store_ok I3 hN hj (.inl hy) a2 (fun s3 I4=>?_) (.inr hy)))
 exact assignInOrder_cons (wpAny_bindName (store_ok I4 hN hi (.inl hx) a1 (fun s4 I5=>assignInOrder_nil ⟨_,H1,I5,q⟩) (.inr hx)))
end
end L2
namespace Zt
open PySem
open Sem (wp)
section
variable {prog:Program} {w:World} {A:Around} {E:Value→Shared→Prop} {s:Shared}
theorem nx {j t:Addr} {i:Nat} {its:Array Value} {x:Value} {Q:Value→Shared→Prop} (hj:s.heap.IsTupleIter j t i) (ht:s.heap.IsTuple t its) (hx:its[i]? = some x)
  (k:∀ g:Heap,g.IsTupleIter j t (i + 1)→Heap.SameBut j s.heap g→Q x { s with heap:=g }):wpAny (model prog w) A (Builtin.SmallTypes.nextOf (.ref j)) Q E s:=by
 obtain ⟨ob,eb,kb,db⟩:=id hj
 obtain ⟨oc,ec,_,nc,dc⟩:=ht
 unfold Builtin.SmallTypes.nextOf
 refine wpAny_bind (wpAny_callSpecial?_slot (name:=Str.ofString "__next__") hj.typeIs F.slot_tuple_iterator_next (wpAny_call_entry F.slot_tuple_iterator_next hj.typeIs F.entry_tuple_iterator_next ?_ (F.args_tuple_iterator_next_1 _)))
 show wpAny _ _ (field (.ref j) 0 >>= _) _ _ s; refine wpAny_bind (wpAny_field eb db (x:=.ref t) rfl ?_)
 show wpAny _ _ (if (Value.ref t == Value.none) = true then _ else _) _ _ s; rw [if_neg (show ¬ ((Value.ref t == Value.none) = true) from Bool.false_ne_true)]
 show wpAny _ _ (field (.ref j) 1 >>= _) _ _ s; refine wpAny_bind (wpAny_field eb db (x:=.int i 0) rfl ?_)
 show wpAny _ _ (seqItems? (.ref t) >>= _) _ _ s; refine wpAny_bind (wpAny_seqItems ec dc ?_)
 simp only [Int.toNat_natCast,hx]; refine wpAny_bind (wpAny_setField eb db (by simp) (wpAny_pure ⟨x,rfl,wpAny_pure (k _ ?_ (Heap.SameBut.update ..))⟩))
 exact ⟨_,Heap.get?_update_self _ eb (Obj.isFreed_of_fields (Obj.data_mapFields db _)),(Obj.cls_mapFields ..).trans kb,by rw [Obj.data_mapFields db]; simp [rawInt]⟩
theorem nx0 {j t:Addr} {i:Nat} {its:Array Value} {Q:Value→Shared→Prop} (hh:A.handled = none) (hj:s.heap.IsTupleIter j t i) (ht:s.heap.IsTuple t its) (hx:its[i]? = none)
  (k:∀ (g:Heap) (e:Addr),Heap.ExtBut j s.heap g→(∃ o,g.get? e = some o∧o.cls = .type "StopIteration")→E (.ref e) { s with heap:=g }):wpAny (model prog w) A (Builtin.SmallTypes.nextOf (.ref j)) Q E s:=by
 obtain ⟨ob,eb,kb,db⟩:=id hj
 obtain ⟨oc,ec,_,nc,dc⟩:=ht
 unfold Builtin.SmallTypes.nextOf
 refine wpAny_bind (wpAny_callSpecial?_slot (name:=Str.ofString "__next__") hj.typeIs F.slot_tuple_iterator_next (wpAny_call_entry F.slot_tuple_iterator_next hj.typeIs F.entry_tuple_iterator_next ?_ (F.args_tuple_iterator_next_1 _)))
 show wpAny _ _ (field (.ref j) 0 >>= _) _ _ s; refine wpAny_bind (wpAny_field eb db (x:=.ref t) rfl ?_)
 show wpAny _ _ (if (Value.ref t == Value.none) = true then _ else _) _ _ s; rw [if_neg (show ¬ ((Value.ref t == Value.none) = true) from Bool.false_ne_true)]
 show wpAny _ _ (field (.ref j) 1 >>= _) _ _ s; refine wpAny_bind (wpAny_field eb db (x:=.int i 0) rfl ?_)
 show wpAny _ _ (seqItems? (.ref t) >>= _) _ _ s; refine wpAny_bind (wpAny_seqItems ec dc ?_)
 simp only [Int.toNat_natCast,hx]; refine wpAny_bind (wpAny_rule (wpAny_bind (wpAny_setField eb db (by simp) ?_)))
 show wpAny _ _ (newExc (.type "StopIteration") [] >>= _) _ _ _; refine wpAny_bind ?_
 simp only [newExc,newTuple]; refine wpAny_bind (wpAny_newObj_type ?_ (by size_fits))
 refine wpAny_bind (m:=firstArgMember _ _) (wpAny_of_eq (a:=Value.none) (by first | rfl | (simp only [firstArgMember]; rfl)) ?_); refine wpAny_newObj_type ?_ (by size_fits)
 simp only [raiseNew]; refine wpAny_bind (wpAny_handled ?_)
 first | (rw [hh]) | (rw [show A.in1.handled = none from hh])
 exact wpAny_bind (wpAny_pure (wpAny_throw (k _ _ (((Heap.SameBut.update ..).extBut.push _).push _) ⟨_,Heap.get?_push_size _ rfl,rfl⟩)))
variable {z TI TO i1 i2 l1 l2:Addr} {k1 k2:Nat} {xs ys:Array Value} {x y a b:Value}
theorem go_item {Q:Value→Shared→Prop} (D:ZipApart z TI TO i1 i2 l1 l2) (gz:IsZip s.heap z TI TO .none) (gI:IsPair s.heap TI (.ref i1) (.ref i2)) (gO:IsPair s.heap TO a b)
  (g1:s.heap.IsTupleIter i1 l1 k1) (g2:s.heap.IsTupleIter i2 l2 k2) (t1:s.heap.IsTuple l1 xs) (t2:s.heap.IsTuple l2 ys) (hx:xs[k1]? = some x) (hy:ys[k2]? = some y)
  (k:∀ g,IsZip g z TI TO (rawInt s.heap.objs.size)→IsPair g TO x y→g.IsTupleIter i1 l1 (k1 + 1)→g.IsTupleIter i2 l2 (k2 + 1)→IsPair g s.heap.objs.size x y→
   (∀ c o,c ≠ z→c ≠ TO→c ≠ i1→c ≠ i2→s.heap.get? c = some o→g.get? c = some o)→Q (.ref s.heap.objs.size) { s with heap:=g }) :
  wpAny (model prog w) A (Builtin.«zip.__next__» ⟨[.ref z],[]⟩) (fun fin s'=>∃ v,fin = .done (.ret v)∧Q v s') E s:=by
 show wpAny _ _ (field (.ref z) 2 >>= _) _ _ _; refine wpAny_bind (wpAny_field gz rfl (x:=.bool false) rfl ?_)
 show wpAny _ _ (field (.ref z) 3 >>= _) _ _ _; refine wpAny_bind (wpAny_field gz rfl (x:=.ref TI) rfl (wpAny_bind (wpAny_seqItems gI rfl ?_)))
 show wpAny _ _ (Builtin.SmallTypes.ownedTupleIsFree (.ref z) >>= _) _ _ _; refine wpAny_bind ?_; unfold Builtin.SmallTypes.ownedTupleIsFree
 refine wpAny_bind (wpAny_field gz rfl (x:=.none) rfl (wpAny_pure ?_)); simp only [if_true]
 refine wpAny_bind (wpAny_rule (wpAny_bind (wpAny_field gz rfl (x:=.ref TO) rfl (wpAny_bind (wpAny_setField_rec gz (by simp) fun h₁ z1 q1=>?_)))))
 replace z1:IsZip h₁ z TI TO .ellipsis:=z1
 refine wpAny_bind ?_; simp only [List.zipIdx_cons,List.zipIdx_nil,List.forIn_cons,List.forIn_nil]
 refine wpAny_bind (wpAny_bind (wpAny_onRaise ?_)); show wpAny _ _ (Builtin.SmallTypes.nextOf (.ref i1) >>= _) _ _ _
 refine wpAny_bind (nx (g1.extBut q1.extBut D.i1z) (t1.extBut q1.extBut D.l1z) hx fun h₂ n1 q2=>wpAny_pure ?_)
 have o2:IsPair h₂ TO a b:=q2.extBut _ _ D.TOi1 (q1.extBut _ _ D.TOz gO)
 refine wpAny_bind (wpAny_seqItems o2 rfl (wpAny_bind (wpAny_updateSeq_pair o2 fun h₃ o3 q3=>?_)))
 replace o3:IsPair h₃ TO x b:=o3
 refine wpAny_bind (wpAny_letGo (wpAny_pure ?_)); refine wpAny_bind (wpAny_bind (wpAny_onRaise ?_)); show wpAny _ _ (Builtin.SmallTypes.nextOf (.ref i2) >>= _) _ _ _
 refine wpAny_bind (nx (((g2.extBut q1.extBut D.i2z).extBut q2.extBut D.i12.symm).extBut q3.extBut D.TOi2.symm) (((t2.extBut q1.extBut D.l2z).extBut q2.extBut D.l2i1).extBut q3.extBut D.l2TO) hy fun h₄ n2 q4=>wpAny_pure ?_)
 have o4:IsPair h₄ TO x b:=q4.extBut _ _ D.TOi2 o3
 refine wpAny_bind (wpAny_seqItems o4 rfl (wpAny_bind (wpAny_updateSeq_pair o4 fun h₅ o5 q5=>?_)))
 replace o5:IsPair h₅ TO x y:=o5
 refine wpAny_bind (wpAny_letGo (wpAny_pure (wpAny_pure ?_))); refine wpAny_bind (wpAny_seqItems o5 rfl (wpAny_bind (wpAny_newTuple ?_)))
 have sz:h₅.objs.size = s.heap.objs.size:=by rw [q5.1,q4.1,q3.1,q2.1,q1.1]
 have z5:IsZip h₅ z TI TO .ellipsis:=q5.extBut _ _ D.TOz.symm (q4.extBut _ _ D.i2z.symm (q3.extBut _ _ D.TOz.symm (q2.extBut _ _ D.i1z.symm z1)))
 have kk:∀ c o,c ≠ z→c ≠ TO→c ≠ i1→c ≠ i2→s.heap.get? c = some o→h₅.get? c = some o:=fun c o c1 c2 c3 c4 e=>q5.extBut _ _ c2 (q4.extBut _ _ c4 (q3.extBut _ _ c2 (q2.extBut _ _ c3 (q1.extBut _ _ c1 e))))
 have m1:h₅.IsTupleIter i1 l1 (k1 + 1):=((n1.extBut q3.extBut D.TOi1.symm).extBut q4.extBut D.i12).extBut q5.extBut D.TOi1.symm
 have m2:h₅.IsTupleIter i2 l2 (k2 + 1):=n2.extBut q5.extBut D.TOi2.symm
 have zl:z < h₅.objs.size:=Heap.lt_size z5
 show wpAny _ _ (Builtin.SmallTypes.ownedTupleHandOut (.ref z) (.ref h₅.objs.size) >>= _) _ _ _; refine wpAny_bind ?_; unfold Builtin.SmallTypes.ownedTupleHandOut
 have z6:IsZip (h₅.push { cls:=.type "tuple",data:=.seq #[x,y] }) z TI TO .ellipsis:=Heap.get?_push_of_some _ z5
 refine wpAny_bind (wpAny_setField_rec z6 (by simp) fun h₇ z7 q7=>?_)
 replace z7:IsZip h₇ z TI TO (rawInt h₅.objs.size):=z7
 refine wpAny_setField_rec z7 (by simp) fun h₈ z8 q8=>?_
 replace z8:IsZip h₈ z TI TO (rawInt h₅.objs.size):=z8
 have up:∀ c o,c ≠ z→h₅.get? c = some o→h₈.get? c = some o:=fun c o c1 e=>q8.extBut _ _ c1 (q7.extBut _ _ c1 (Heap.get?_push_of_some _ e))
 have T8:IsPair h₈ h₅.objs.size x y:=q8.extBut _ _ (Nat.ne_of_gt zl) (q7.extBut _ _ (Nat.ne_of_gt zl) (Heap.get?_push_size _ rfl))
 rw [sz] at z8 T8
 refine wpAny_pure ⟨_,rfl,?_⟩
 show Q (.ref h₅.objs.size) _
 rw [sz]
 exact k h₈ z8 (up _ _ D.TOz o5) (m1.at fun o e=>up _ o D.i1z e) (m2.at fun o e=>up _ o D.i2z e) T8 fun c o c1 c2 c3 c4 e=>up c o c1 (kk c o c1 c2 c3 c4 e)
theorem go_end {Q:Fin→Shared→Prop} (hh:A.handled = none) (D:ZipApart z TI TO i1 i2 l1 l2) (gz:IsZip s.heap z TI TO .none) (gI:IsPair s.heap TI (.ref i1) (.ref i2)) (gO:IsPair s.heap TO a b)
  (g1:s.heap.IsTupleIter i1 l1 k1) (g2:s.heap.IsTupleIter i2 l2 k2) (t1:s.heap.IsTuple l1 xs) (t2:s.heap.IsTuple l2 ys) (he:xs[k1]? = none ∨ ys[k2]? = none)
  (k:∀ (g:Heap) (e:Addr),(∀ c o,c ≠ z→c ≠ TO→c ≠ i1→c ≠ i2→s.heap.get? c = some o→g.get? c = some o)→(∃ o,g.get? e = some o∧o.cls = .type "StopIteration")→E (.ref e) { s with heap:=g }) :
  wpAny (model prog w) A (Builtin.«zip.__next__» ⟨[.ref z],[]⟩) Q E s:=by
 show wpAny _ _ (field (.ref z) 2 >>= _) _ _ _; refine wpAny_bind (wpAny_field gz rfl (x:=.bool false) rfl ?_)
 show wpAny _ _ (field (.ref z) 3 >>= _) _ _ _; refine wpAny_bind (wpAny_field gz rfl (x:=.ref TI) rfl (wpAny_bind (wpAny_seqItems gI rfl ?_)))
 show wpAny _ _ (Builtin.SmallTypes.ownedTupleIsFree (.ref z) >>= _) _ _ _; refine wpAny_bind ?_; unfold Builtin.SmallTypes.ownedTupleIsFree
 refine wpAny_bind (wpAny_field gz rfl (x:=.none) rfl (wpAny_pure ?_)); simp only [if_true]
 refine wpAny_bind (wpAny_rule (wpAny_bind (wpAny_field gz rfl (x:=.ref TO) rfl (wpAny_bind (wpAny_setField_rec gz (by simp) fun h₁ z1 q1=>?_)))))
 replace z1:IsZip h₁ z TI TO .ellipsis:=z1
 refine wpAny_bind ?_; simp only [List.zipIdx_cons,List.zipIdx_nil,List.forIn_cons,List.forIn_nil]
 refine wpAny_bind (wpAny_bind (wpAny_onRaise ?_)); show wpAny _ _ (Builtin.SmallTypes.nextOf (.ref i1) >>= _) _ _ _
 cases hx:xs[k1]? with
 | none=>
  refine wpAny_bind (nx0 hh (g1.extBut q1.extBut D.i1z) (t1.extBut q1.extBut D.l1z) hx fun h₂ e q2 ⟨oe,ge,ce⟩=>?_)
  have z2:IsZip h₂ z TI TO .ellipsis:=q2 _ _ D.i1z.symm z1
  have ez:e ≠ z:=fun u=>by subst u; rw [z2] at ge; cases ge; simp at ce
  exact wpAny_setField_rec z2 (by simp) fun h₃ _ q3=>k h₃ e (fun c o c1 _ c3 _ u=>q3.extBut _ _ c1 (q2 _ _ c3 (q1.extBut _ _ c1 u))) ⟨oe,q3.extBut _ _ ez ge,ce⟩
 | some x=>
  have hy:ys[k2]? = none:=he.elim (fun q=>by rw [hx] at q; cases q) id
  refine wpAny_bind (nx (g1.extBut q1.extBut D.i1z) (t1.extBut q1.extBut D.l1z) hx fun h₂ n1 q2=>wpAny_pure ?_)
  have o2:IsPair h₂ TO a b:=q2.extBut _ _ D.TOi1 (q1.extBut _ _ D.TOz gO)
  refine wpAny_bind (wpAny_seqItems o2 rfl (wpAny_bind (wpAny_updateSeq_pair o2 fun h₃ o3 q3=>?_)))
  refine wpAny_bind (wpAny_letGo (wpAny_pure ?_)); refine wpAny_bind (wpAny_bind (wpAny_onRaise ?_)); show wpAny _ _ (Builtin.SmallTypes.nextOf (.ref i2) >>= _) _ _ _
  refine wpAny_bind (nx0 hh (((g2.extBut q1.extBut D.i2z).extBut q2.extBut D.i12.symm).extBut q3.extBut D.TOi2.symm) (((t2.extBut q1.extBut D.l2z).extBut q2.extBut D.l2i1).extBut q3.extBut D.l2TO) hy fun h₄ e q4 ⟨oe,ge,ce⟩=>?_)
  have z4:IsZip h₄ z TI TO .ellipsis:=q4 _ _ D.i2z.symm (q3.extBut _ _ D.TOz.symm (q2.extBut _ _ D.i1z.symm z1))
  have ez:e ≠ z:=fun u=>by subst u; rw [z4] at ge; cases ge; simp at ce
  exact wpAny_setField_rec z4 (by simp) fun h₅ _ q5=>k h₅ e (fun c o c1 c2 c3 c4 u=>q5.extBut _ _ c1 (q4 _ _ c4 (q3.extBut _ _ c2 (q2.extBut _ _ c3 (q1.extBut _ _ c1 u))))) ⟨oe,q5.extBut _ _ ez ge,ce⟩
theorem next_item {Q:Option Value→Shared→Prop} (D:ZipApart z TI TO i1 i2 l1 l2) (gz:IsZip s.heap z TI TO .none) (gI:IsPair s.heap TI (.ref i1) (.ref i2)) (gO:IsPair s.heap TO a b)
  (g1:s.heap.IsTupleIter i1 l1 k1) (g2:s.heap.IsTupleIter i2 l2 k2) (t1:s.heap.IsTuple l1 xs) (t2:s.heap.IsTuple l2 ys) (hx:xs[k1]? = some x) (hy:ys[k2]? = some y)
  (k:∀ g,IsZip g z TI TO (rawInt s.heap.objs.size)→IsPair g TO x y→g.IsTupleIter i1 l1 (k1 + 1)→g.IsTupleIter i2 l2 (k2 + 1)→IsPair g s.heap.objs.size x y→
   (∀ c o,c ≠ z→c ≠ TO→c ≠ i1→c ≠ i2→s.heap.get? c = some o→g.get? c = some o)→Q (some (.ref s.heap.objs.size)) { s with heap:=g }):wpAny (model prog w) A (pyNext (.ref z)) Q E s:=by
 have ty:s.TypeIs (.ref z) "zip":=⟨_,gz,rfl⟩
 unfold pyNext
 exact wpAny_bind (wpAny_attempt (wpAny_callSpecial?_slot (name:=Str.ofString "__next__") ty F.slot_zip_next (wpAny_call_entry F.slot_zip_next ty F.entry_zip_next
  (go_item D gz gI gO g1 g2 t1 t2 hx hy fun g a1 a2 a3 a4 a5 a6=>wpAny_pure (k g a1 a2 a3 a4 a5 a6)) (F.args_zip_next_1 _))))
theorem next_end {Q:Option Value→Shared→Prop} (hh:A.handled = none) (D:ZipApart z TI TO i1 i2 l1 l2) (gz:IsZip s.heap z TI TO .none) (gI:IsPair s.heap TI (.ref i1) (.ref i2)) (gO:IsPair s.heap TO a b)
  (g1:s.heap.IsTupleIter i1 l1 k1) (g2:s.heap.IsTupleIter i2 l2 k2) (t1:s.heap.IsTuple l1 xs) (t2:s.heap.IsTuple l2 ys) (he:xs[k1]? = none ∨ ys[k2]? = none)
  (k:∀ g:Heap,(∀ c o,c ≠ z→c ≠ TO→c ≠ i1→c ≠ i2→s.heap.get? c = some o→g.get? c = some o)→Q none { s with heap:=g }):wpAny (model prog w) A (pyNext (.ref z)) Q E s:=by
 have ty:s.TypeIs (.ref z) "zip":=⟨_,gz,rfl⟩
 unfold pyNext
 refine wpAny_bind (wpAny_attempt (wpAny_callSpecial?_slot (name:=Str.ofString "__next__") ty F.slot_zip_next (wpAny_call_entry F.slot_zip_next ty F.entry_zip_next (go_end hh D gz gI gO g1 g2 t1 t2 he fun g e kk ⟨o,ho,hc⟩=>?_) (F.args_zip_next_1 _))))
 exact wpAny_bind (wpAny_isInstance (T:="StopIteration") (b:=true) ⟨o,ho,hc⟩ isSubtype_stop (wpAny_pure (k _ kk)))
end
noncomputable abbrev H1 (h:Heap) (l1:Addr):Heap:=h.push { cls:=.type "tuple_iterator",data:=.fields #[.ref l1,.int 0 0] }
noncomputable abbrev H2 (h:Heap) (l1 l2:Addr):Heap:=(H1 h l1).push { cls:=.type "tuple_iterator",data:=.fields #[.ref l2,.int 0 0] }
noncomputable abbrev H3 (h:Heap) (l1 l2:Addr):Heap:=(H2 h l1 l2).push { cls:=.type "tuple",data:=.seq #[.ref h.objs.size,.ref (H1 h l1).objs.size] }
noncomputable abbrev H4 (h:Heap) (l1 l2:Addr):Heap:=(H3 h l1 l2).push { cls:=.type "tuple",data:=.seq #[.none,.none] }
noncomputable abbrev H5 (h:Heap) (l1 l2:Addr):Heap:=(H4 h l1 l2).push { cls:=.type "zip",data:=.fields #[.none,.bool false,.bool false,.ref (H2 h l1 l2).objs.size,.ref (H3 h l1 l2).objs.size] }
theorem meets_new (l1 l2:Addr) (xs ys:Array Value) :
  Meets (Builtin.«zip.__new__» ⟨[.type "zip",.ref l1,.ref l2],[]⟩) (fun _ R s=>s.heap.IsTuple l1 xs∧s.heap.IsTuple l2 ys∧R (.ok (.ret (.ref (H4 s.heap l1 l2).objs.size))) { s with heap:=H5 s.heap l1 l2 }):=
 .of_wp fun prog w A R s h=>by
  obtain ⟨hp,g,d,tk,os⟩:=s; obtain ⟨e1,e2,h⟩:=h
  have hsub:=sub_zip
  have L1:Heap.IsTuple (Shared.heap ⟨hp,g,d,tk,os⟩) l1 xs:=e1
  have L2:Heap.IsTuple (Shared.heap ⟨hp.push { cls:=.type "tuple_iterator",data:=.fields #[.ref l1,.int 0 0] },g,d,tk,os⟩) l2 ys:=Heap.IsTuple.push e2 _
  wp_walk using wpAny_pyIter_tuple L1,wpAny_pyIter_tuple L2
  exact ⟨_,rfl,h⟩
section
variable {prog:Program} {w:World} {A:Around} {E:Value→Shared→Prop} {s:Shared}
theorem call_new {l1 l2:Addr} {xs ys:Array Value} {Q:Value→Shared→Prop} (e1:s.heap.IsTuple l1 xs) (e2:s.heap.IsTuple l2 ys)
  (k:∀ g,IsZip g (s.heap.objs.size + 4) (s.heap.objs.size + 2) (s.heap.objs.size + 3) .none→IsPair g (s.heap.objs.size + 2) (.ref s.heap.objs.size) (.ref (s.heap.objs.size + 1))→
   IsPair g (s.heap.objs.size + 3) .none .none→g.IsTupleIter s.heap.objs.size l1 0→g.IsTupleIter (s.heap.objs.size + 1) l2 0→
   (∀ c o,s.heap.get? c = some o→g.get? c = some o)→Q (.ref (s.heap.objs.size + 4)) { s with heap:=g }) :
  wpAny (model prog w) A (call (.type "zip") [.ref l1,.ref l2]) Q E s:=by
 refine callType_new F.called_zip (by decide) (F.typeCall_zip_2 _ _) (F.newCall_zip_2 _ _) (fun obj=>F.args_object_init_3 obj _ _) F.entry_zip_new (meets_new l1 l2 xs ys) ⟨e1,e2,?_⟩
 have z1:(H1 s.heap l1).objs.size = s.heap.objs.size + 1:=Heap.size_push ..
 have z2:(H2 s.heap l1 l2).objs.size = s.heap.objs.size + 2:=by rw [Heap.size_push,z1]
 have z3:(H3 s.heap l1 l2).objs.size = s.heap.objs.size + 3:=by rw [Heap.size_push,z2]
 have z4:(H4 s.heap l1 l2).objs.size = s.heap.objs.size + 4:=by rw [Heap.size_push,z3]
 have g5:(H5 s.heap l1 l2).get? (H4 s.heap l1 l2).objs.size = some _:=Heap.get?_push_size _ rfl
 have g4:(H5 s.heap l1 l2).get? (H3 s.heap l1 l2).objs.size = some _:=Heap.get?_push_of_some _ (Heap.get?_push_size _ rfl)
 have g3:(H5 s.heap l1 l2).get? (H2 s.heap l1 l2).objs.size = some _:=Heap.get?_push_of_some _ (Heap.get?_push_of_some _ (Heap.get?_push_size _ rfl))
 have g2:(H5 s.heap l1 l2).get? (H1 s.heap l1).objs.size = some _:=Heap.get?_push_of_some _ (Heap.get?_push_of_some _ (Heap.get?_push_of_some _ (Heap.get?_push_size _ rfl)))
 have g1:(H5 s.heap l1 l2).get? s.heap.objs.size = some _:=Heap.get?_push_of_some _ (Heap.get?_push_of_some _ (Heap.get?_push_of_some _ (Heap.get?_push_of_some _ (Heap.get?_push_size _ rfl))))
 show _∧_
 rw [z2,z3,z4] at g5
 rw [z1,z2] at g3
 rw [z3] at g4
 rw [z1] at g2
 rw [z4]
 exact ⟨⟨_,g5,rfl⟩,k _ g5 g3 g4 ⟨_,g1,rfl,rfl⟩ ⟨_,g2,rfl,rfl⟩ fun c o e=>Heap.get?_push_of_some _ (Heap.get?_push_of_some _ (Heap.get?_push_of_some _ (Heap.get?_push_of_some _ (Heap.get?_push_of_some _ e))))⟩
end
end Zt
namespace L2
open PySem PySem.Spec PyProof.Rows
section
variable {X:Cx} {pins:List (Addr × Obj)} {σ:St} {H:Hp} {s:Shared} {h':Heap}
theorem Inv.turnedL {t':Nat} {fp:List Addr} (I:Inv X pins σ H s) (k:∀ b o,b ∉ fp→s.heap.get? b = some o→h'.get? b = some o) (hf:∀ b ∈ fp,FpOk X pins H b):Inv X pins σ H { s with heap:=h',toks:=t' }:=by
 have nit:∀ b u,H b = some u→b ∉ fp:=fun b u e z=>by rw [(hf b z).1] at e; cases e
 refine I.step (g':=s.gens) (d':=s.drawn) (ch:=fp) (fun b hb=>?_) (fun b o _ _ hc e _=>k b o hc e) (fun b o _ _ hc e _=>⟨o.slots,k b o hc e⟩) (fun _ _ _ _ n=>n)
  (fun b o hc e=>⟨o,k b o hc e⟩) (fun _ _ e=>e) (fun _ _ _ e=>e) (fun b ps e=>⟨#[],by rw [e]; simp⟩) (fun m hm=>?_) (fun b u e=>?_) I.bare
 ·obtain ⟨f0,f1,f2,f3,f4,f5⟩:=hf b hb
  exact ⟨f3,f1,f4,f5⟩
 ·obtain ⟨o,es,ep,ho,r⟩:=hm
  exact ⟨o,es,ep,k _ o (fun z=>(hf _ z).2.1 rfl) ho,r⟩
 ·refine (I.hok b u e).stay (fun c v hc q=>k c v ?_ q) (fun _ q=>q) fun _ _ q=>q
  rcases hc with z | z
  ·rw [z]; exact nit b u e
  ·exact nit c _ z
theorem Inv.trackT {D:Addr} {us:List Value} {ys:List V} (I:Inv X pins σ H s) (f:FpOk X pins H D) (e:IsTupD s.heap D us.toArray) (r:Vals ys us) (hz:ys.length ≤ sizeLine) :
  Inv X pins σ (upd H D (.tup ys)) s:=by
 obtain ⟨f0,f1,f2,f3,f4,f5⟩:=f
 have nD:∀ b u,H b = some u→b ≠ D:=fun b u q=>ne_of_none q f0
 have hok:HOk X.prog X.w (upd H D (.tup ys)) s.heap:=fun b u q=>by
  by_cases hb:b = D
  ·subst hb
   rw [upd_same] at q
   cases q
   exact ⟨hz,us,r,e⟩
  ·rw [upd_ne hb] at q
   exact (I.hok b u q).stay (fun _ _ _ z=>z) (fun c z=>by rw [upd_ne (nD c _ z)]; exact z) fun c xs z=>by rw [upd_ne (nD c _ z)]; exact z
 exact I.step (H':=upd H D (.tup ys)) (h':=s.heap) (g':=s.gens) (t':=s.toks) (d':=s.drawn) (ch:=[D])
  (fun b hb=>by
   have z:b = D:=by simpa using hb
   subst z
   exact ⟨f3,f1,f4,f5⟩)
  (fun _ _ _ _ _ q _=>q) (fun _ o _ _ _ q _=>⟨o.slots,q⟩)
  (fun b o hb _ n=>by rw [upd_ne (fun z=>hb (by simp [z]))]; exact n)
  (fun _ o _ q=>⟨o,q⟩) (fun b xs q=>by rw [upd_ne (nD b _ q)]; exact q) (fun b o u q=>by rw [upd_ne (nD b _ q)]; exact q)
  (fun b ps q=>⟨#[],by rw [upd_ne (nD b _ q),q]; simp⟩) (fun _ q=>q) hok I.bare
end
noncomputable def Itz (K:PySem.W.Frag) (a b:Addr):It:=
  ⟨fun i H=>∃ xs ys x y,SqT K H a xs∧SqT K H b ys∧xs[i]? = some x∧ys[i]? = some y,
   fun i H v H'=>∃ p x y,v = .ref p∧H p = none∧H' = upd H p (.tup [x,y])∧∀ xs ys,SqT K H a xs→SqT K H b ys→xs[i]? = some x∧ys[i]? = some y,
   fun i H=>∃ xs ys,SqT K H a xs∧SqT K H b ys∧(xs.length ≤ i ∨ ys.length ≤ i)⟩
theorem turn_zip {P:Program} {w:World} {K:PySem.W.Frag} {elts:List Expr} {k0:Nat} {pos0:Pos} {z TI TO i1 i2 a b:Addr} (D:ZipApart z TI TO i1 i2 a b) :
  Turn P w K (.Tuple elts k0 pos0) (Itz K a b) [z,TI,TO,i1,i2] z (fun i h=>IsZip h z TI TO .none∧IsPair h TI (.ref i1) (.ref i2)∧(∃ x y,IsPair h TO x y)∧h.IsTupleIter i1 a i∧h.IsTupleIter i2 b i) where
 mem:=by simp
 obj:=fun i h st c hc=>by
  obtain ⟨gz,gI,⟨x,y,gO⟩,⟨o1,e1,_,d1⟩,⟨o2,e2,_,d2⟩⟩:=st
  simp only [List.mem_cons,List.not_mem_nil,or_false] at hc
  rcases hc with rfl | rfl | rfl | rfl | rfl
  ·exact ⟨_,gz,fun v q=>by cases q⟩
  ·exact ⟨_,gI,fun v q=>by cases q⟩
  ·exact ⟨_,gO,fun v q=>by cases q⟩
  ·exact ⟨_,e1,fun v q=>by rw [d1] at q; cases q⟩
  ·exact ⟨_,e2,fun v q=>by rw [d2] at q; cases q⟩
 keep:=fun i h h' st k=>by
  obtain ⟨gz,gI,⟨x,y,gO⟩,g1,g2⟩:=st
  exact ⟨k z (by simp) _ gz,k TI (by simp) _ gI,⟨x,y,k TO (by simp) _ gO⟩,g1.at fun o e=>k i1 (by simp) o e,g2.at fun o e=>k i2 (by simp) o e⟩
 item:=by
  intro X hP hw hK hc i pins s σ H E I hf st hg
  subst hP hw hK
  obtain ⟨gz,gI,⟨ta,tb,gO⟩,g1,g2⟩:=st
  obtain ⟨xs,ys,x,y,hqa,hqb,hx,hy⟩:=hg
  obtain ⟨ia,ra,pa,za⟩:=I.tuple hqa
  obtain ⟨ib,rb,pb,zb⟩:=I.tuple hqb
  obtain ⟨u,hu,ru⟩:=ra.get hx
  obtain ⟨v,hv,rv⟩:=rb.get hy
  refine Zt.next_item D gz gI gO g1 g2 (show s.heap.IsTuple a ia.toArray from pa) (show s.heap.IsTuple b ib.toArray from pb) (x:=u) (y:=v) (by simpa using hu) (by simpa using hv) fun g a1 a2 a3 a4 a5 a6=>?_
  refine ⟨_,rfl,wpAny_letOwnedTupleGo_zip (s:={ s with heap:=g }) a1 fun g' z' q'=>?_⟩
  have kk:∀ c o,c ∉ [z,TI,TO,i1,i2]→s.heap.get? c = some o→g'.get? c = some o:=fun c o hc e=>by
   simp only [List.mem_cons,List.not_mem_nil,or_false,not_or] at hc
   exact q'.extBut _ _ hc.1 (a6 c o hc.1 hc.2.2.1 hc.2.2.2.1 hc.2.2.2.2 e)
  have I1:Inv X pins σ H { s with heap:=g' }:=I.turnedL (t':=s.toks) kk hf
  have f0:FpOk X pins H s.heap.objs.size:=I.fpOk (Nat.le_refl _) (I.hok.fresh (Nat.le_refl _))
  have eT:IsTupD g' s.heap.objs.size [u,v].toArray:=⟨_,q'.extBut _ _ (Nat.ne_of_gt (Heap.lt_size gz)) a5,rfl,rfl,_,rfl⟩
  have I2:=I1.trackT f0 eT (.cons ru (.cons rv .nil)) (by show 2 ≤ sizeLine; decide)
  refine ⟨.ref s.heap.objs.size,_,I2,rfl,⟨s.heap.objs.size,x,y,rfl,f0.1,rfl,fun xs' ys' h1 h2=>by rw [I.tuple_inj h1 hqa,I.tuple_inj h2 hqb]; exact ⟨hx,hy⟩⟩,
   ⟨z',q'.extBut _ _ D.TIz (a6 TI _ D.TIz D.TITO D.TIi1 D.TIi2 gI),⟨_,_,q'.extBut _ _ D.TOz a2⟩,a3.extBut q'.extBut D.i1z,a4.extBut q'.extBut D.i2z⟩,fun c hc=>?_⟩
  have hlt:c < s.heap.objs.size:=by
   obtain ⟨o1,e1,_⟩:=g1
   obtain ⟨o2,e2,_⟩:=g2
   simp only [List.mem_cons,List.not_mem_nil,or_false] at hc
   rcases hc with rfl | rfl | rfl | rfl | rfl
   ·exact Heap.lt_size gz
   ·exact Heap.lt_size gI
   ·exact Heap.lt_size gO
   ·exact Heap.lt_size e1
   ·exact Heap.lt_size e2
  rw [upd_ne (Nat.ne_of_lt hlt)]
  exact (hf c hc).1
 done:=by
  intro X hP hw hK hc i pins s σ H E I hf st hg
  subst hP hw hK
  obtain ⟨gz,gI,⟨ta,tb,gO⟩,g1,g2⟩:=st
  obtain ⟨xs,ys,hqa,hqb,hl⟩:=hg
  obtain ⟨ia,ra,pa,za⟩:=I.tuple hqa
  obtain ⟨ib,rb,pb,zb⟩:=I.tuple hqb
  have la:=ra.length
  have lb:=rb.length
  refine Zt.next_end (I.ok.hd hc) D gz gI gO g1 g2 (show s.heap.IsTuple a ia.toArray from pa) (show s.heap.IsTuple b ib.toArray from pb) ?_ fun g kk=>⟨rfl,I.turnedL (t':=s.toks) (fun c o hc e=>?_) hf⟩
  ·rcases hl with q | q
   ·exact .inl (by simp; omega)
   ·exact .inr (by simp; omega)
  ·simp only [List.mem_cons,List.not_mem_nil,or_false,not_or] at hc
   exact kk c o hc.1 hc.2.2.1 hc.2.2.2.1 hc.2.2.2.2 e
 self:=fun _ _ _ _ _ st h=>wpAny_pyIter_zip st.1 h
section
variable {X:Cx}
noncomputable def iZip (K:PySem.W.Frag) (ta:TA):TI:=fun σ H R=>ta σ H fun vs H1=>∃ a b,vs = [.ref a,.ref b]∧(∃ xs,SqT K H1 a xs)∧(∃ ys,SqT K H1 b ys)∧R (Itz K a b) H1
theorem pi_zip {elts:List Expr} {k0:Nat} {pos0:Pos} {a b:Expr} {ta:TA} {p pos:Pos} (hg:Gl X "zip") (hm:X.mg "zip" = none) (hv:bootBuiltins "zip" = some (.type "zip")) (ha:PA X [a,b] ta)
  (hs:starEach [a,b] X.env = [(false,eval a X.env),(false,eval b X.env)]:=by rfl) (hs2:starEach [b] X.env = [(false,eval b X.env)]:=by rfl):PI X (.Tuple elts k0 pos0) (.Call (.Name "zip" p) [a,b] [] pos) (iZip X.K ta):=by
 intro pins s σ H R I h
 refine Call_ (ld_blt I hg hm hv (PyProof.Rows.callWith_type1 (thn (ha pos pins s σ H _ I h) fun us s1 ⟨vs,H1,I1,r1,q1⟩=>?_) (by rw [hs,hs2]) (by rw [hs2]; rfl)))
 obtain ⟨a,b,e,⟨xs,qa⟩,⟨ys,qb⟩,q⟩:=q1
 subst e
 obtain ⟨u,v,rfl,ru,rv⟩:=vals2 r1
 cases ru
 cases rv
 obtain ⟨ia,ra,pa,za⟩:=I1.tuple qa
 obtain ⟨ib,rb,pb,zb⟩:=I1.tuple qb
 have la:a < s1.heap.objs.size:=by obtain ⟨o,e,_⟩:=pa; exact Heap.lt_size e
 have lb:b < s1.heap.objs.size:=by obtain ⟨o,e,_⟩:=pb; exact Heap.lt_size e
 refine Zt.call_new (show s1.heap.IsTuple a ia.toArray from pa) (show s1.heap.IsTuple b ib.toArray from pb) fun g gz gI gO g1 g2 kk=>?_
 refine wpAny_pyIter_zip (s:={ s1 with heap:=g }) gz ?_
 refine ⟨_,[s1.heap.objs.size + 4,s1.heap.objs.size + 2,s1.heap.objs.size + 3,s1.heap.objs.size,s1.heap.objs.size + 1],_,_,H1,rfl,I1.kept (t':=s1.toks) kk,turn_zip (zipApart_new la lb),⟨gz,gI,⟨_,_,gO⟩,g1,g2⟩,fun c hc=>?_,q⟩
 have hle:s1.heap.objs.size ≤ c:=by
  simp only [List.mem_cons,List.not_mem_nil,or_false] at hc
  rcases hc with rfl | rfl | rfl | rfl | rfl
  ·exact Nat.le_add_right _ _
  ·exact Nat.le_add_right _ _
  ·exact Nat.le_add_right _ _
  ·exact Nat.le_refl _
  ·exact Nat.le_add_right _ _
 exact I1.fpOk hle (I1.hok.fresh hle)
noncomputable def KD (P:Program) (w:World) (K:PySem.W.Frag) (a:Addr) (kvs:List (Key × V)):Prop:=(a == sysModules) = false∧∃ o vs,K.lookup a = some o∧KV kvs vs∧Obj.IsDictOf (mixKind P w) o vs
noncomputable def tKGet (a:Addr) (kvs:List (Key × V)) (ty tx:TE):TE:=fun σ H Q=>ty σ H fun y H2=>tx σ H2 fun z H3=>∃ k,y = kV k∧Q ((valV kvs k).getD z) H3
theorem pe_kget {x:Str} {e f:Expr} {px apos cpos:Pos} {ty tx:TE} {a:Addr} {kvs:List (Key × V)} (hu:X.A.units + 1 < cLine) (hg:Gl X x) (hm:X.mg x = some (.ref a)) (hD:KD X.prog X.w X.K a kvs) (he:PE X e ty) (hf:PE X f tx) (m:M2 X (.Name x px) "get" apos e f cpos)
  (hd:(x == ("__debug__":Str)) = false:=by decide):PE X (.Call (.Attribute (.Name x px) "get" apos) [e,f] [] cpos) (tKGet a kvs ty tx):=by
 intro pins s σ H Q I h
 obtain ⟨hsys,o,vs,hk,rel,ii⟩:=hD
 have dd:∀ {s1:Shared} {H1:Hp},Inv X pins σ H1 s1→s1.heap.DictOf (mixKind X.prog X.w) a vs:=fun I1=>Heap.dictOf_iff.mpr ⟨o,I1.kIn a o hk,ii⟩
 refine wpAny_Call_method m.base m.few m.line PySem.F.plainAttrs_dict PySem.F.slot_dict_get PySem.F.type_dict_get (ld_glob I hg hm ?_ hd)
 refine ⟨(dd I).typeIs,fun b q=>?_,?_⟩
 ·cases q
  obtain ⟨ob,_,_,h1,h2,_⟩:=dd I
  exact ⟨ob,h1,h2.2.1⟩
 rw [m.trees]
 refine Calls.callWith_builtin rfl (Calls.evalArgs_plain (Calls.spliced_cons (thn (he pins s σ H _ I h) fun iv s2 ⟨y,H2,I2,ry,q2⟩=>
  Calls.spliced_cons (thn (hf pins s2 σ H2 _ I2 q2) fun fv s3 ⟨z,H3,I3,rz,k,ey,q3⟩=>Calls.spliced_nil ?_))))
 subst ey
 refine call_meetsIn PySem.F.slot_dict_get (dd I3).typeIs PySem.F.entry_dict_get (PySem.F.args_dict_get_3 _ _ _) (meets_dict_get_default (mixKind X.prog X.w) a (kV_is ry) hsys fv) ⟨_,(dd I3).mapOf,⟨_,H3,I3.tok _,?_,q3⟩⟩
 exact (rel.val k).getD rz
end
section
variable {env:Env} {rest:List Expr} {pos:Pos}
theorem star_comp {a:Expr} {gs:List Comprehension} {sc:Scope}:starEach (.ListComp a gs sc pos :: rest) env = (false,eval (.ListComp a gs sc pos) env) :: starEach rest env:=rfl
end
section
variable {X:Cx} {pos:Pos} {es:List Expr} {te:TE} {t:TA}
end
structure QE (X:Cx) (e:Expr) (t:TE):Prop where
 ok:PE X e t
structure QA (X:Cx) (es:List Expr) (t:TA):Prop where
 ok:PA X es t
section
variable {X:Cx} {pos:Pos} {e:Expr} {es:List Expr} {te:TE} {t:TA}
end
structure QS (X:Cx) (st:Stmt) (t:TS):Prop where
 ok:PS X st t
structure QSs (X:Cx) (st:List Stmt) (t:TS):Prop where
 ok:PSs X st t
section
variable {X:Cx} {pos:Pos} {a b e tg iter:Expr} {es:List Expr} {ta tb' te:TE} {t:TA} {st:Stmt} {sts:List Stmt} {u v tb:TS}
end
section
variable {X:Cx}
end
end L2
namespace Et
open PySem
open Sem (wp)
open AutoSeq1 (wpAny_loadPart')
end Et
namespace L2
open PySem PySem.Spec PyProof.Rows
section
variable {X:Cx}
theorem op_isT:OpR X (compareOp .Is) (fun x y H Q=>x = .bl true∧y = .bl true∧Q (.bl true) H):=by
 intro pins s σ H x y v u Q I rx ry h
 obtain ⟨rfl,rfl,q⟩:=h
 cases (show v = Value.bool true from rx)
 cases (show u = Value.bool true from ry)
 exact wpAny_is_self rfl ⟨.bl true,H,I,rfl,q⟩
theorem op_isNotT:OpR X (compareOp .IsNot) (fun x y H Q=>x = .bl true∧y = .bl true∧Q (.bl false) H):=by
 intro pins s σ H x y v u Q I rx ry h
 obtain ⟨rfl,rfl,q⟩:=h
 cases (show v = Value.bool true from rx)
 cases (show u = Value.bool true from ry)
 exact wpAny_isNot_self rfl ⟨.bl false,H,I,rfl,q⟩
end
theorem hash_key (w:World) (x:Str):PyData.keyHash w.params x = hashStr w x:=rfl
noncomputable abbrev kdE (w:World) (x:Str × Int × Tok × Tok):DictEntry:=⟨PyData.keyHash w.params x.1,.str x.1 x.2.2.1,.int x.2.1 x.2.2.2⟩
theorem kd_obj (P:Program) (w:World) (xs:List (Str × Int × Tok × Tok)) (ep:Nat) (nd:(xs.map (·.1)).Nodup) :
  ∃ vs,KV (xs.map fun x=>((Sum.inr x.1:Key),V.int x.2.1)) vs∧Obj.IsDictOf (mixKind P w) { cls:=.type "dict",data:=.dict (xs.map (kdE w)).toArray ep } vs:=by
 refine ⟨xs.map fun x=>((Sum.inr x.1:Key),Value.int x.2.1 x.2.2.2),?_,(xs.map (kdE w)).toArray,ep,⟨rfl,rfl,rfl⟩,rfl,?_,?_,?_⟩
 ·induction xs with
  | nil=>exact .nil
  | cons x xs ih=>exact .cons ⟨rfl,_,rfl⟩ (ih (by simpa using (List.nodup_cons.mp (by simpa using nd)).2))
 ·intro e he
  have he':e ∈ xs.map (kdE w):=by simpa using he
  obtain ⟨x,_,rfl⟩:=List.mem_map.mp he'
  exact ⟨Sum.inr x.1,keyIs_str x.1 x.2.2.1,hash_key w x.1⟩
 ·have key:∀ ys:List (Str × Int × Tok × Tok),Pairs (mixKind P w) (ys.map (kdE w)) (ys.map fun x=>((Sum.inr x.1:Key),Value.int x.2.1 x.2.2.2)):=by
   intro ys
   induction ys with
   | nil=>exact .nil
   | cons y ys ih=>exact .cons (keyIs_str y.1 y.2.2.1) rfl ih
  exact key xs
 ·rw [List.map_map]
  have e:((fun x:Key × Value=>x.1) ∘ fun x:Str × Int × Tok × Tok=>((Sum.inr x.1:Key),Value.int x.2.1 x.2.2.2)) = fun x=>Sum.inr x.1:=rfl
  have key:∀ ys:List (Str × Int × Tok × Tok),(ys.map (·.1)).Nodup→(ys.map fun x=>(Sum.inr x.1:Key)).Nodup:=by
   intro ys
   induction ys with
   | nil=>intro _; exact List.nodup_nil
   | cons y ys ih=>
    intro h
    rw [List.map_cons,List.nodup_cons] at h ⊢
    refine ⟨fun hm=>h.1 ?_,ih h.2⟩
    obtain ⟨z,hz,e⟩:=List.mem_map.mp hm
    have e':z.1 = y.1:=Sum.inr.inj e
    exact List.mem_map.mpr ⟨z,hz,e'⟩
  exact key xs nd
end L2
namespace Wd
open PySem L2 PyProof.Rows
noncomputable def abc:Str:="abcdefghijklmnopqrstuvwxyz"
noncomputable def keptS:List Str:=["jars","deed","rest","pay","put","then","either","take","often","use"]
theorem abc_at:∀ i,i < 26→abc.cps.toList[i]? = some (97 + i):=by decide +kernel
theorem abc_len:abc.length ≤ sizeLine∧abc.cps.toList.length = 26:=by decide +kernel
theorem abc_ix:∀ i,i < 26→Builtin.Str.occurrences abc (sgn (97 + i)) 0 abc.length 1 = [i]:=by decide +kernel
theorem sub_len {α:Type} [BEq α] [LawfulBEq α]:∀ {xs ys:List α},xs.Nodup→(∀ x ∈ xs,x ∈ ys)→xs.length ≤ ys.length
 | [],ys,_,_=>Nat.zero_le _
 | x :: xs,ys,nd,h=>by
  have hx:=h x (List.mem_cons_self ..)
  have q:=sub_len (xs:=xs) (ys:=ys.erase x) (List.nodup_cons.mp nd).2 fun y hy=>by
   have ne:y ≠ x:=fun e=>(List.nodup_cons.mp nd).1 (e ▸ hy)
   exact (List.mem_erase_of_ne ne).mpr (h y (List.mem_cons_of_mem _ hy))
  rw [List.length_erase_of_mem hx] at q
  have:=List.length_pos_of_mem hx
  rw [List.length_cons]
  omega
noncomputable def cand (r:List Nat) (i:Nat):Str:=⟨((97 + i % 26) :: r).toArray⟩
theorem cand_inj {r:List Nat} {i j:Nat} (h:cand r i = cand r j):i % 26 = j % 26:=by
 have e:(((97 + i % 26) :: r).toArray).toList = (((97 + j % 26) :: r).toArray).toList:=congrArg (fun z:Str=>z.cps.toList) h
 simp only [List.cons.injEq] at e
 omega
theorem cand_nodup (r:List Nat) (c:Nat):((List.range 26).map fun i=>cand r (c + i)).Nodup:=by
 refine List.pairwise_map.mpr (List.Pairwise.imp_of_mem (R:=(· ≠ ·)) ?_ List.nodup_range)
 intro a b ha hb ne e
 have h1:=List.mem_range.mp ha
 have h2:=List.mem_range.mp hb
 have h3:=cand_inj e
 omega
theorem cand_free (r:List Nat) (c:Nat) (bad:List Str) (h:bad.length < 26):∃ j,j < 26∧cand r (c + j) ∉ bad:=by
 refine Classical.byContradiction fun no=>?_
 have q:=sub_len (cand_nodup r c) (ys:=bad) fun x hx=>by
  obtain ⟨j,hj,rfl⟩:=List.mem_map.mp hx
  exact Classical.byContradiction fun z=>no ⟨j,List.mem_range.mp hj,z⟩
 rw [List.length_map,List.length_range] at q
 omega
structure IsW (z:Str):Prop where
 ne:z.cps.toList ≠ []
 le:z.cps.toList.length ≤ 6
 sm:∀ c ∈ z.cps.toList,97 ≤ c∧c ≤ 122
theorem IsW.cand {z:Str} (h:IsW z):∃ i r,z = Wd.cand r i∧i < 26∧r.length ≤ 5∧∀ c ∈ r,97 ≤ c∧c ≤ 122:=by
 obtain ⟨⟨⟨l⟩⟩,ne,le,sm⟩:∃ z',_∧_∧_:=⟨z,h.ne,h.le,h.sm⟩
 obtain ⟨⟨l⟩⟩:=z
 cases l with
 | nil=>exact absurd rfl h.ne
 | cons c r=>
  have q:=h.sm c (List.mem_cons_self ..)
  refine ⟨c - 97,r,?_,by omega,by have:=h.le; simp at this; omega,fun d hd=>h.sm d (List.mem_cons_of_mem _ hd)⟩
  unfold Wd.cand
  rw [show 97 + (c - 97) % 26 = c by omega]
theorem isW_cand {r:List Nat} (h:r.length ≤ 5) (hs:∀ c ∈ r,97 ≤ c∧c ≤ 122) (i:Nat):IsW (cand r i):=by
 refine ⟨by simp [cand],by simp [cand]; omega,fun c hc=>?_⟩
 have hc':c ∈ (97 + i % 26) :: r:=hc
 rcases List.mem_cons.mp hc' with e | e
 ·omega
 ·exact hs c e
theorem IsW.len {z:Str} (h:IsW z):z.length ≤ 6:=by have q:=h.le; rw [Array.length_toList] at q; exact q
theorem IsW.line {z:Str} (h:IsW z):z.length ≤ sizeLine:=Nat.le_trans h.len (by decide)
theorem cand_zero (r:List Nat) (i:Nat):atI (cand r i).cps.toList 0 = some (97 + i % 26):=atI_nat (j:=0) rfl
theorem cand_rest (r:List Nat) (i:Nat):Txt.slice (cand r i) (some 1) none = ⟨r.toArray⟩:=by
 have e:Txt.slice (cand r i) (some 1) none = StrLaws.sliceText (cand r i) (some 1) none:=rfl
 rw [e,StrLaws.sliceText_from ⟨by decide,by simp [cand]; omega⟩]
 simp [cand]
theorem cand_next (r:List Nat) (i:Nat):(sgn (97 + (i + 1) % 26):Str) ++ (⟨r.toArray⟩:Str) = cand r (i + 1):=by
 refine Str.ext' ?_
 show #[97 + (i + 1) % 26] ++ r.toArray = _
 simp [cand]
theorem at_abc (i:Nat):atI abc.cps.toList ((i % 26:Nat):Int) = some (97 + i % 26):=atI_nat (abc_at _ (Nat.mod_lt _ (by decide)))
theorem join_signs (cs:List Nat):Txt.join "" (cs.map sgn) = ⟨cs.toArray⟩:=by
 have q:=join_nil_signs ⟨cs.toArray⟩
 have e:Txt.join "" (cs.map sgn) = Str.join ⟨#[]⟩ (cs.map sgn):=StrLaws.glued_eq_join _ _
 rw [e]
 exact q
theorem sum_sgn (cs:List Nat):((cs.map sgn).map (·.length)).sum = cs.length:=by
 induction cs with
 | nil=>rfl
 | cons c r ih=>rw [List.map_cons,List.map_cons,List.sum_cons,ih,List.length_cons]; show 1 + r.length = _; omega
theorem isW_put {cs:List Nat} {a i:Nat} (h:cs.length ≤ 5) (hs:∀ c ∈ cs,97 ≤ c∧c ≤ 122) (ha:a ≤ cs.length) (hi:i < 26) :
  IsW (Txt.slice ⟨cs.toArray⟩ none (some (a:Int)) ++ (sgn (97 + i):Str) ++ Txt.slice ⟨cs.toArray⟩ (some (a:Int)) none)∧(Txt.slice ⟨cs.toArray⟩ none (some (a:Int))).length ≤ 5∧(Txt.slice ⟨cs.toArray⟩ (some (a:Int)) none).length ≤ 5:=by
 have e1:Txt.slice ⟨cs.toArray⟩ none (some (a:Int)) = ⟨(cs.take a).toArray⟩:=by
  have e:Txt.slice ⟨cs.toArray⟩ none (some (a:Int)) = StrLaws.sliceText ⟨cs.toArray⟩ none (some (a:Int)):=rfl
  rw [e,StrLaws.sliceText_to ⟨by omega,by simp; omega⟩]
  simp
 have e2:Txt.slice ⟨cs.toArray⟩ (some (a:Int)) none = ⟨(cs.drop a).toArray⟩:=by
  have e:Txt.slice ⟨cs.toArray⟩ (some (a:Int)) none = StrLaws.sliceText ⟨cs.toArray⟩ (some (a:Int)) none:=rfl
  rw [e,StrLaws.sliceText_from ⟨by omega,by simp; omega⟩]
  refine Str.ext' ?_
  show ((cs.drop (a:Int).toNat).take ((cs.length:Int) - a).toNat).toArray = (cs.drop a).toArray
  rw [Int.toNat_natCast,List.take_of_length_le (by rw [List.length_drop]; omega)]
 rw [e1,e2]
 have e3:((⟨(cs.take a).toArray⟩:Str) ++ (sgn (97 + i):Str) ++ (⟨(cs.drop a).toArray⟩:Str)).cps.toList = cs.take a ++ [97 + i] ++ cs.drop a:=by
  show ((cs.take a).toArray ++ #[97 + i] ++ (cs.drop a).toArray).toList = _
  simp
 refine ⟨⟨by rw [e3]; simp,by rw [e3]; simp; omega,fun c hc=>?_⟩,?_,?_⟩
 ·rw [e3] at hc
  rcases List.mem_append.mp hc with hc | hc
  ·rcases List.mem_append.mp hc with hc | hc
   ·exact hs c (List.mem_of_mem_take hc)
   ·rw [List.mem_singleton.mp hc]; omega
  ·exact hs c (List.mem_of_mem_drop hc)
 ·show (cs.take a).toArray.size ≤ 5
  rw [List.size_toArray,List.length_take]; omega
 ·show (cs.drop a).toArray.size ≤ 5
  rw [List.size_toArray,List.length_drop]; omega
end Wd
namespace M3
noncomputable def lowT (t b:Int):Int:=(if b < 0 then -t else t) / (Int.gcd t b:Int)
noncomputable def lowB (t b:Int):Int:=(if b < 0 then -b else b) / (Int.gcd t b:Int)
theorem gcd_pos {t b:Int} (h:b ≠ 0):0 < Int.gcd t b:=Nat.gcd_pos_of_pos_right _ (by omega)
theorem gcd_le {t b:Int} (h:b ≠ 0):(Int.gcd t b:Int) ≤ b.natAbs:=by
 have q:Nat.gcd t.natAbs b.natAbs ≤ b.natAbs:=Nat.gcd_le_right _ (by omega)
 have e:Int.gcd t b = Nat.gcd t.natAbs b.natAbs:=rfl
 omega
theorem gcd_flip (t b:Int):Int.gcd (-t) (-b) = Int.gcd t b:=by rw [Int.gcd_neg,Int.neg_gcd]
theorem parts (t b:Int):∃ x y:Int,t = (Int.gcd t b:Int) * x∧b = (Int.gcd t b:Int) * y:=by
 obtain ⟨x,hx⟩:=Int.gcd_dvd_left t b
 obtain ⟨y,hy⟩:=Int.gcd_dvd_right t b
 exact ⟨x,y,hx,hy⟩
theorem low_eq {t b x y g:Int} (hg:g = (Int.gcd t b:Int)) (h:b ≠ 0) (ht:t = g * x) (hb:b = g * y):lowT t b = (if y < 0 then -x else x)∧lowB t b = (if y < 0 then -y else y):=by
 have gp:0 < g:=by rw [hg]; exact Int.natCast_pos.mpr (gcd_pos h)
 have hy:b < 0 ↔ y < 0:=by
  rw [hb]
  constructor
  ·intro q
   by_cases z:y < 0
   ·exact z
   ·have:=Int.mul_nonneg (Int.le_of_lt gp) (Int.not_lt.mp z)
    omega
  ·intro q
   exact Int.mul_neg_of_pos_of_neg gp q
 unfold lowT lowB
 rw [← hg]
 by_cases z:y < 0
 ·rw [if_pos (hy.mpr z),if_pos (hy.mpr z),if_pos z,if_pos z]
  constructor
  ·rw [ht,← Int.mul_neg,Int.mul_ediv_cancel_left _ (by omega)]
  ·rw [hb,← Int.mul_neg,Int.mul_ediv_cancel_left _ (by omega)]
 ·rw [if_neg (fun q=>z (hy.mp q)),if_neg (fun q=>z (hy.mp q)),if_neg z,if_neg z]
  constructor
  ·rw [ht,Int.mul_ediv_cancel_left _ (by omega)]
  ·rw [hb,Int.mul_ediv_cancel_left _ (by omega)]
theorem coprime {t b x y:Int} (h:b ≠ 0) (ht:t = (Int.gcd t b:Int) * x) (hb:b = (Int.gcd t b:Int) * y):Int.gcd x y = 1:=by
 have gp:=gcd_pos (t:=t) h
 have q:Int.gcd ((Int.gcd t b:Int) * x) ((Int.gcd t b:Int) * y) = (Int.gcd t b:Int).natAbs * Int.gcd x y:=Int.gcd_mul_left _ _ _
 rw [← ht,← hb,Int.natAbs_natCast] at q
 have q2:Int.gcd t b * 1 = Int.gcd t b * Int.gcd x y:=by omega
 exact (Nat.eq_of_mul_eq_mul_left gp q2).symm
structure Low (a b:Int):Prop where
 pos:0 < b
 one:Int.gcd a b = 1
theorem low_low {t b:Int} (h:b ≠ 0):Low (lowT t b) (lowB t b):=by
 obtain ⟨x,y,ht,hb⟩:=parts t b
 have c:=coprime h ht hb
 obtain ⟨e1,e2⟩:=low_eq rfl h ht hb
 have y0:y ≠ 0:=fun z=>h (by rw [hb,z,Int.mul_zero])
 rw [e1,e2]
 by_cases z:y < 0
 ·rw [if_pos z,if_pos z]
  exact ⟨by omega,by rw [gcd_flip]; exact c⟩
 ·rw [if_neg z,if_neg z]
  exact ⟨by omega,c⟩
theorem low_unique {a b x y:Int} (L:Low a b) (hy:0 < y) (e:x * b = a * y):lowT x y = a∧lowB x y = b:=by
 have b0:=L.pos
 have d1:b.natAbs ∣ a.natAbs * y.natAbs:=by
  rw [← Int.natAbs_mul,← e,Int.natAbs_mul]
  exact Nat.dvd_mul_left _ _
 have c:Nat.Coprime b.natAbs a.natAbs:=by
  show Nat.gcd b.natAbs a.natAbs = 1
  rw [Nat.gcd_comm]
  exact L.one
 obtain ⟨k,hk⟩:=Int.natAbs_dvd_natAbs.mp (c.dvd_of_dvd_mul_left d1)
 have k0:0 < k:=by
  by_cases z:0 < k
  ·exact z
  ·have:=Int.mul_nonneg (Int.le_of_lt b0) (show 0 ≤ -k by omega)
   rw [Int.mul_neg] at this
   omega
 have hx:x = a * k:=by
  have q:x * b = a * k * b:=by rw [e,hk,Int.mul_assoc,Int.mul_comm k b]
  exact Int.eq_of_mul_eq_mul_right (by omega) q
 have g:(Int.gcd x y:Int) = k:=by
  rw [hx,hk,Int.gcd_mul_right,L.one,Nat.one_mul]
  omega
 have q:=low_eq (g:=k) (x:=a) (y:=b) (t:=x) (b:=y) g.symm (by omega) (by rw [hx,Int.mul_comm]) (by rw [hk,Int.mul_comm])
 rw [if_neg (by omega),if_neg (by omega)] at q
 exact q
theorem low_worth {t b:Int} (h:b ≠ 0):lowT t b * b = t * lowB t b:=by
 obtain ⟨x,y,ht,hb⟩:=parts t b
 obtain ⟨e1,e2⟩:=low_eq rfl h ht hb
 rw [e1,e2]
 have q:x * b = t * y:=by
  have e3:x * ((Int.gcd t b:Int) * y) = (Int.gcd t b:Int) * x * y:=by rw [← Int.mul_assoc,Int.mul_comm x]
  rw [← ht,← hb] at e3
  exact e3
 by_cases z:y < 0
 ·rw [if_pos z,if_pos z,Int.neg_mul,Int.mul_neg,q]
 ·rw [if_neg z,if_neg z]
  exact q
theorem fdiv_low {t b:Int} (h:b ≠ 0):t.fdiv (if b < 0 then -(Int.gcd t b:Int) else (Int.gcd t b:Int)) = lowT t b∧b.fdiv (if b < 0 then -(Int.gcd t b:Int) else (Int.gcd t b:Int)) = lowB t b:=by
 have gp:(0:Int) < (Int.gcd t b:Int):=Int.natCast_pos.mpr (gcd_pos h)
 have d1:=Int.gcd_dvd_left t b
 have d2:=Int.gcd_dvd_right t b
 unfold lowT lowB
 by_cases z:b < 0
 ·rw [if_pos z,if_pos z,if_pos z,Int.fdiv_neg (by omega),if_pos d1,Int.fdiv_neg (by omega),if_pos d2,Int.fdiv_eq_ediv_of_dvd d1,Int.fdiv_eq_ediv_of_dvd d2,Int.neg_ediv_of_dvd d1,Int.neg_ediv_of_dvd d2]
  exact ⟨rfl,rfl⟩
 ·rw [if_neg z,if_neg z,if_neg z,Int.fdiv_eq_ediv_of_dvd d1,Int.fdiv_eq_ediv_of_dvd d2]
  exact ⟨rfl,rfl⟩
theorem fmod_gcd (x y:Int):Int.gcd y (x.fmod y) = Int.gcd x y:=by
 have q:=Int.mul_fdiv_add_fmod x y
 have e:Int.gcd y (x.fmod y + x.fdiv y * y) = Int.gcd y (x.fmod y):=Int.gcd_add_mul_right_right _ _ _
 rw [← e,Int.mul_comm (x.fdiv y) y,Int.add_comm,q,Int.gcd_comm]
theorem low_size {t b T B:Int} (h:b ≠ 0) (h1:-T ≤ t) (h2:t ≤ T) (h3:-B ≤ b) (h4:b ≤ B) (hT:0 ≤ T) (hB:0 ≤ B):-T ≤ lowT t b∧lowT t b ≤ T∧0 < lowB t b∧lowB t b ≤ B:=by
 have gp:(0:Int) < (Int.gcd t b:Int):=Int.natCast_pos.mpr (gcd_pos h)
 have L:=(low_low (t:=t) h).pos
 have key:∀ z M:Int,0 ≤ M→-M ≤ z→z ≤ M→-M ≤ z / (Int.gcd t b:Int)∧z / (Int.gcd t b:Int) ≤ M:=fun z M hM z1 z2=>by
  generalize (Int.gcd t b:Int) = g at gp
  have m2:M * 1 ≤ M * g:=Int.mul_le_mul_of_nonneg_left (by omega) hM
  have m3:-M * g = -(M * g):=Int.neg_mul M g
  exact ⟨Int.le_ediv_of_mul_le gp (by omega),Int.ediv_le_of_le_mul gp (by omega)⟩
 have k1:=key (if b < 0 then -t else t) T hT (by split <;> omega) (by split <;> omega)
 have k2:=key (if b < 0 then -b else b) B hB (by split <;> omega) (by split <;> omega)
 exact ⟨k1.1,k1.2,L,k2.2⟩
end M3
namespace Xc
open PySem PySem.W PySem.Calls PyProof.Rows Builtin Builtin.ObjectAttr
noncomputable abbrev bmVE:List Value:=[.type "ValueError",.type "Exception",.type "BaseException",.type "object"]
noncomputable def excOk (K:Frag) (C:Addr):Bool:=match K.lookup C with
 | some ⟨.type "type",_,.cls cd,sl⟩=>(match cd.mro,sl.toList with
  | .ref C' :: bm,[_,_,_,_,some (.builtin n),_]=>C' == C && n == "ValueError.__new__" && !cd.hasDel && cd.hasDict && tailIn K bmVE bm
  | _,_=>false)
 | _=>false
theorem exc_of {K:Frag} {h:Heap} {C:Addr} (X:K.In h) (q:excOk K C = true):∃ nm qn N bs bm sn sub ab col dd k0 k1 k2 k3 k5,
  K.lookup C = some (excClassObj nm qn C N bs bm true sn sub ab col dd k0 k1 k2 k3 k5 "ValueError.__new__")∧OwnTail h bmVE bm:=by
 unfold excOk at q
 split at q
 ·rename_i dd cd sl ho
  split at q
  ·rename_i C' bm k0 k1 k2 k3 n k5 hm hs
   simp only [Bool.and_eq_true,beq_iff_eq,Bool.not_eq_true'] at q
   obtain ⟨⟨⟨⟨rfl,rfl⟩,hdel⟩,hdct⟩,ht⟩:=q
   obtain ⟨nm,bs,mro,ns,qn,hd,sn,sub,ab,col,del⟩:=cd
   dsimp only at hm hdel hdct
   subst hm hdel hdct
   have hsl:sl = #[k0,k1,k2,k3,some (.builtin "ValueError.__new__"),k5]:=by
    obtain ⟨l⟩:=sl
    simp only at hs
    rw [hs]
   subst hsl
   exact ⟨nm,qn,ns,bs,bm,sn,sub,ab,col,dd,k0,k1,k2,k3,k5,ho,tail_of_in X ht⟩
  ·cases q
 ·cases q
noncomputable abbrev tupObj (rest:List Value):Obj:={ cls:=.type "tuple",data:=.seq rest.toArray }
noncomputable abbrev excObj (C:Addr) (t:Addr):Obj:={ cls:=.ref C,data:=.fields #[.ref t,.none,.none,.none,.bool false,.none] }
section
variable {prog:Program} {w:World} {A:Around} {K:Frag} {C f:Addr} {R:Result→Shared→Prop} {h:Heap} {g:Array GenState} {d:Drawn} {t:Nat} {os:OsState}
theorem exc_core {rest:List Value} (X:K.In h) (q:excOk K C = true) (hi:findIn K (.ref C) "__init__" = some (some (.ref f))) (hf:typeIn K (.ref f) = some (.type "function")) (hrest:rest.length ≤ sizeLine)
  (hq:codeAny (model prog w) (A.under (.builtin "type.__call__" ⟨.ref C :: rest,[]⟩)) (.call (.ref f) ⟨.ref (h.objs.size + 1) :: rest,[]⟩) (InitBack (h.objs.size + 1) R) ⟨(h.push (tupObj rest)).push (excObj C h.objs.size),g,d,t,os⟩) :
  codeAny (model prog w) A (.call (.ref C) ⟨rest,[]⟩) R ⟨h,g,d,t,os⟩:=by
 obtain ⟨nm,qn,N,bs,bm,sn,sub,ab,col,dd,k0,k1,k2,k3,k5,hK,T⟩:=exc_of X q
 have hC:=X _ _ hK
 have F0:=PySem.F.excBase_ValueError
 have f1:=tc_lookup
 have f2:=tc_bind (.ref C)
 have hT:(⟨h,g,d,t,os⟩:Shared).TypeIs (.ref C) "type":=⟨_,hC,rfl⟩
 refine codeAny_of_tree ?_
 show wpAny _ _ (callAny (.ref C) _) _ _ _
 repeat (any_goals (first | assumption | with_reducible refine wpAny_loadPart_at hC ?_ | wp_step))
 refine ⟨rfl,?_⟩
 refine codeAny_call_builtin_at (Code.quiet_builtin _ (by decide +kernel)) entry_typeCall (wpAny_check_type_call_sub hC ?_)
 repeat (first | with_reducible refine wpAny_loadPart_at hC ?_ | with_reducible refine wpAny_madeBy_exc hC ?_ | wp_step)
 refine codeAny_call_builtin_code (Code.quiet_builtin _ F0.quiet) (wpAny_check_new_subU F0 F0.hasB T hC ?_)
 refine codeAny_exc_new_subU F0 F0.hasB F0 T hC ?_ hrest
 show wpAny _ _ _ _ _ _
 have k:∀ b o,h.get? b = some o→((h.push (tupObj rest)).push (excObj C h.objs.size)).get? b = some o:=fun b o e=>Heap.get?_push_of_some _ (Heap.get?_push_of_some _ e)
 have hx:((h.push (tupObj rest)).push (excObj C h.objs.size)).get? (h.objs.size + 1) = some (excObj C h.objs.size):=by heap_get
 have t1:Looks (model prog w) ((h.push (tupObj rest)).push (excObj C h.objs.size)) (typeOf (.ref (h.objs.size + 1))) (.ref C):=(Looks.ld hx).andThen .now
 have hC₁:=k _ _ hC
 have hcC:(Value.ref C :: bm).contains (.ref C) = true:=by simp
 have i1:=(looks_findIn (M:=model prog w) X hi).keeps k
 have b1:=(bind_fn (M:=model prog w) X (.ref (h.objs.size + 1)) hf).keeps k
 show wpAny (model prog w) (A.under (.builtin "type.__call__" ⟨.ref C :: rest,[]⟩)) _ _ _ ⟨(h.push (tupObj rest)).push (excObj C h.objs.size),g,d,t,os⟩
 unfold isInstance callSpecial? specialOf
 repeat (first | with_reducible refine wpAny_call ?_ | simp only [hcC,Bool.not_true,Bool.false_eq_true,if_false] | lk)
 refine codeAny_mono hq fun r s' z=>?_
 rcases r with e | (v | _ | _ | _) <;> first | exact z | exact z.elim | skip
 obtain ⟨rfl,z⟩:=z
 exact wpAny_pure (wpAny_pure z)
end
structure Lies (h:Heap) (e:Addr) (oe:Obj) (vs:Array Value):Prop where
 at_:h.get? e = some oe
 dat:oe.data = .fields vs
 tb:vs[1]? = some .none ∨ ∃ T oT ts,vs[1]? = some (.ref T)∧T ≠ e∧h.get? T = some oT∧oT.data = .fields ts∧ts[3]? = some .none
section
variable {M:Model} {A:Around} {E:Value→Shared→Prop} {s:Shared}
noncomputable abbrev fas (l:List Env):List Addr:=l.filterMap (·.frame)
structure Noted (l:List Env) (e:Addr) (oe:Obj) (old:Addr→Prop) (h h':Heap):Prop where
 lies:∃ oe' vs' T oT ts,h'.get? e = some oe'∧oe'.cls = oe.cls∧oe'.dict = oe.dict∧oe'.data = .fields vs'∧vs'[1]? = some (.ref T)∧h.objs.size ≤ T∧T ≠ e∧h'.get? T = some oT∧oT.data = .fields ts∧ts[3]? = some .none
 keep:∀ b o,b ≠ e→¬ old b→b ∉ fas l→h.get? b = some o→h'.get? b = some o
 slot:∀ b o,b ∈ fas l→h.get? b = some o→∃ sl,h'.get? b = some { o with slots:=sl }
theorem new_entry {base:Heap} {env:Env} {outer:List Env} {L e:Addr} {oe:Obj} {vs:Array Value} {head:Value} {hadNext:Bool} {Q:Unit→Shared→Prop}
  (hfr:A.frames = some (env :: outer)) (hl:s.heap.FunFrames base (env :: outer)) (hf:env.frame = some L) (he:s.heap.get? e = some oe) (hd:oe.data = .fields vs) (hsz:1 < vs.size)
  (h:∀ h',Noted (env :: outer) e oe (fun _=>False) s.heap h'→Q () { s with heap:=h' }) :
  wpAny M A (do let a ← frameOf env; let pl ← entryPlaceOf L hadNext; let b ← EntryCells.newEntry head a .none (rawInt L) .none pl; setField (.ref e) 1 b) (fun _ s'=>wpAny M A (setFlight (.ref e) none) Q E s') E s:=by
 have hene:e ∉ (env :: outer).filterMap (·.frame):=fun hm=>by
  obtain ⟨_,o,ho,hnf⟩:=hl.mem hm
  rw [he] at ho; injection ho with ho; subst ho; exact hnf vs hd
 refine wpAny_bind (wpAny_frameOf_fun hfr hl hf fun h₁ hs₁=>?_)
 refine wpAny_bind (wpAny_entryPlaceOf fun pl hpl=>?_)
 unfold EntryCells.newEntry newFields
 refine wpAny_bind (wpAny_newObj_type ?_ (hpl.sizeOk5 _ _ _ _ _))
 have he₁:h₁.get? e = some oe:=(hs₁.2.1 e hene).trans he
 have he₂:=Heap.get?_push_of_some (h:=h₁) { cls:=.type "traceback",dict:=none,data:=.fields ([head,.ref L,.none,rawInt L,.none] ++ (if pl.isEmpty then List.replicate 6 Value.none else pl)).toArray } he₁
 refine wpAny_setField he₂ hd hsz ?_
 have hTe:h₁.objs.size ≠ e:=Nat.ne_of_gt (Heap.lt_size he₁)
 have hd₃:=Obj.data_mapFields hd (·.setIfInBounds 1 (Value.ref h₁.objs.size))
 have he₃:=Heap.get?_update_self (Obj.mapFields (·.setIfInBounds 1 (Value.ref h₁.objs.size))) he₂ (Obj.isFreed_of_fields hd₃)
 have hT₃:=(Heap.get?_update_other (h₁.push { cls:=.type "traceback",dict:=none,data:=.fields ([head,.ref L,.none,rawInt L,.none] ++ (if pl.isEmpty then List.replicate 6 Value.none else pl)).toArray })
  (Obj.mapFields (·.setIfInBounds 1 (Value.ref h₁.objs.size))) (Ne.symm hTe)).trans (Heap.get?_push_size h₁ rfl)
 unfold setFlight
 refine wpAny_bind (wpAny_field he₃ hd₃ (x:=.ref h₁.objs.size) (by simp [hsz]) ?_)
 rw [if_pos (show (Value.ref h₁.objs.size != Value.none) = true from by simp)]
 refine wpAny_setField hT₃ rfl (by simp only [List.size_toArray,List.length_append,List.length_cons,List.length_nil] <;> omega) (h _ ?_)
 have keep:∀ b o,b ≠ e→h₁.get? b = some o→
   (((h₁.push { cls:=.type "traceback",dict:=none,data:=.fields ([head,.ref L,.none,rawInt L,.none] ++ (if pl.isEmpty then List.replicate 6 Value.none else pl)).toArray }).update e (Obj.mapFields (·.setIfInBounds 1 (Value.ref h₁.objs.size)))).update h₁.objs.size
    (Obj.mapFields (·.setIfInBounds 3 ((none:Option Addr).elim Value.none fun f=>rawInt f)))).get? b = some o:=fun b o hbe hb=>by
  have hbT:h₁.objs.size ≠ b:=Nat.ne_of_gt (Heap.lt_size hb)
  rw [Heap.get?_update_other _ _ hbT,Heap.get?_update_other _ _ (Ne.symm hbe)]
  exact Heap.get?_push_of_some _ hb
 refine ⟨⟨_,_,h₁.objs.size,_,_,?_,Obj.cls_mapFields _ _,?_,hd₃,by simp [hsz],Nat.le_of_eq hs₁.1.symm,hTe,Heap.get?_update_self _ hT₃ (Obj.isFreed_of_fields (Obj.data_mapFields rfl _)),Obj.data_mapFields rfl _,by first | (simp; done) | (rcases hpl with rfl | ⟨_,_,_,_,_,_,_,rfl⟩ <;> simp)⟩,fun b o hbe _ hbf hb=>keep b o hbe ((hs₁.2.1 b hbf).trans hb),fun b o hbf hb=>?_⟩
 ·rw [Heap.get?_update_other _ _ hTe]; exact he₃
 ·obtain ⟨c,dd,da,sl⟩:=oe; cases hd; rfl
 ·obtain ⟨sl,hs⟩:=hs₁.2.2 b o hb
  exact ⟨sl,keep b _ (fun z=>hene (z ▸ hbf)) hs⟩
noncomputable def oldTb (vs:Array Value) (b:Addr):Prop:=vs[1]? = some (.ref b)
theorem note_ok {base:Heap} {env:Env} {outer:List Env} {L e:Addr} {oe:Obj} {vs:Array Value} {Q:Unit→Shared→Prop}
  (hfr:A.frames = some (env :: outer)) (hl:s.heap.FunFrames base (env :: outer)) (hf:env.frame = some L) (x:Lies s.heap e oe vs)
  (h:∀ h',Noted (env :: outer) e oe (oldTb vs) s.heap h'→Q () { s with heap:=h' }) :
  wpAny M A (noteFrame (.ref e) env) (fun _ s'=>wpAny M A (setFlight (.ref e) none) Q E s') E s:=by
 obtain ⟨he,hd,h1 | ⟨T,oT,ts,h1,hTe,hT,hdT,h3⟩⟩:=x
 ·unfold noteFrame
  simp only [hf]
  refine wpAny_bind (wpAny_field he hd h1 ?_)
  rw [if_neg (by decide)]
  refine new_entry hfr hl hf he hd (Array.getElem?_eq_some_iff.mp h1).1 fun h' n=>h h' ⟨n.lies,fun b o hb _=>n.keep b o hb id,n.slot⟩
 ·unfold noteFrame
  simp only [hf]
  refine wpAny_bind (wpAny_field he hd h1 ?_)
  rw [if_pos (show (Value.ref T != Value.none) = true from by simp)]
  refine wpAny_bind (wpAny_field hT hdT h3 ?_)
  rw [if_neg (show ¬ ((Value.none == rawInt L) = true) from by simp [rawInt])]
  refine wpAny_bind (wpAny_setField hT hdT (Array.getElem?_eq_some_iff.mp h3).1 ?_)
  have other:∀ b,b ≠ T→(s.heap.update T (Obj.mapFields (·.setIfInBounds 3 Value.none))).get? b = s.heap.get? b:=fun b hb=>Heap.get?_update_other _ _ (Ne.symm hb)
  have noRecord:∀ b o,s.heap.get? b = some o→(∀ vs,o.data ≠ .fields vs)→b ≠ T:=fun b o hb hnf q=>by
   rw [q,hT] at hb; injection hb with hb; subst hb; exact hnf ts hdT
  refine new_entry hfr (hl.of_keeps fun b o hb hnf=>⟨o,(other b (noRecord b o hb hnf)).trans hb,rfl⟩) hf ((other e (Ne.symm hTe)).trans he) hd (Array.getElem?_eq_some_iff.mp h1).1 fun h' n=>h h' ⟨?_,fun b o hb ho hbf q=>n.keep b o hb id hbf ((other b fun z=>ho (by rw [z]; exact h1)).trans q),fun b o hbf q=>n.slot b o hbf ((other b fun z=>?_).trans q)⟩
  ·obtain ⟨oe',vs',T',oT',ts',a1,a2,a3,a4,a5,a6,a7⟩:=n.lies
   exact ⟨oe',vs',T',oT',ts',a1,a2,a3,a4,a5,by simpa [Heap.size_after_update] using a6,a7⟩
  ·obtain ⟨_,o',ho',hnf⟩:=hl.mem hbf
   rw [z,hT] at ho'; injection ho' with ho'; subst ho'; exact hnf ts hdT
theorem leave_ok {base:Heap} {env:Env} {outer:List Env} {L e:Addr} {oe:Obj} {vs:Array Value} {Q:Unit→Shared→Prop}
  (hfr:A.frames = some (env :: outer)) (hl:s.heap.FunFrames base (env :: outer)) (hf:env.frame = some L) (x:Lies s.heap e oe vs)
  (h:∀ h',Noted (env :: outer) e oe (oldTb vs) s.heap h'→Q () { s with heap:=h' }):wpAny M A (leaving env (.ref e)) Q E s:=by
 unfold leaving
 exact wpAny_bind (note_ok hfr hl hf x h)
end
section
variable {M:Model} {A:Around} {E:Value→Shared→Prop} {env:Env} {K:Frag} {C:Addr}
theorem raise_own {s:Shared} {x:Sem Value} {Q:Flow→Shared→Prop} (q:excOk K C = true) (hh:A.handled = none)
  (h:wpAny M A x (fun v s₁=>∃ e oe vs,v = .ref e∧K.In s₁.heap∧s₁.heap.get? e = some oe∧oe.cls = .ref C∧oe.data = .fields vs∧vs[1]? = some .none∧E (.ref e) s₁) E s) :
  wpAny M A (raiseStmt env (some x) none) Q E s:=by
 unfold raiseStmt
 refine wpAny_bind (wpAny_mono h (fun v s₁ h₁=>?_) fun _ _ x=>x)
 obtain ⟨e,oe,vs,rfl,X,he,hc,hd,h1,hE⟩:=h₁
 obtain ⟨nm,qn,N,bs,bm,sn,sub,ab,col,dd,k0,k1,k2,k3,k5,hK,T⟩:=exc_of X q
 have hC:=X _ _ hK
 obtain ⟨hp,g,d,tk,os⟩:=s₁
 have hcB:(Value.ref C :: bm).contains (.type "BaseException") = true:=by rw [List.contains_cons,T.hasType PySem.F.excBase_ValueError.hasBase]; rfl
 have hcT:(Value.ref C :: bm).contains (.type "type") = false:=by rw [List.contains_cons,T.hasType (b:=false) (by decide +kernel)]; rfl
 repeat (first | (with_reducible refine wpAny_loadPart_at he ?_; rw [hc]) | with_reducible refine wpAny_loadPart_at hC ?_ | (with_reducible refine wpAny_isSubtype_exc hC ?_; first | rw [hcB] | rw [hcT]) | with_reducible refine wpAny_field he hd h1 ?_ | wp_step)
 exact wpAny_raiseNew_none hh hE
end
structure ExcK (K:Frag) (C:Addr):Prop where
 ok:excOk K C = true
 sa:findIn K (.ref C) "__setattr__" = some (some (.builtin "object.__setattr__"))
 ga:findIn K (.ref C) "__getattribute__" = some (some (.builtin "BaseException.__getattribute__"))
 gh:findIn K (.ref C) "__getattr__" = some none
 be:mroIn K C (.type "BaseException") = some true
 ob:mroIn K C (.type "object") = some true
 cl:findIn K (.ref C) "__class__" = some (some (.builtin "object.__class__"))
 cg:specialIn K (.builtin "object.__class__") "__get__" = some (some (.builtin "getset_descriptor.__get__"))
 ct:takesIn K (.builtin "object.__class__") = some true
theorem ExcK.dict {K:Frag} {C:Addr} (k:ExcK K C):hasDictIn K C = true:=by
 have q:=k.ok
 unfold excOk at q
 unfold hasDictIn clsIn
 split at q
 ·rename_i dd cd sl ho
  rw [ho]
  split at q
  ·simp only [Bool.and_eq_true] at q
   exact q.1.2
  ·cases q
 ·cases q
section
variable {prog:Program} {w:World} {A:Around} {E:Value→Shared→Prop} {s:Shared} {K:Frag} {x C:Addr} {ox:Obj} {od:Option Obj} {name:Str} {expr:Bool} {Q:Value→Shared→Prop}
theorem check_ga {M:Model} {nameV:Value} {Q:Unit→Shared→Prop} (X:K.In s.heap) (I:InstAt s.heap x ox C od) (k:ExcK K C) (hq:Q () s) :
  wpAny M A (checkBuiltinCall "BaseException.__getattribute__" ⟨[.ref x,nameV],[]⟩) Q E s:=
 @check_slot M A E s "BaseException.__getattribute__" "BaseException" "__getattribute__" (.ref x) [nameV] [] Q (by decide +kernel) (by decide +kernel) (I.type.andThen (looks_mroIn X k.be)) (F.args_bexc_ga (.ref x) nameV) hq
theorem exc_by {nameV:Value} {fill:Bool} (X:K.In s.heap) (I:InstAt s.heap x ox C od) (k:ExcK K C)
  (h:codeAny (model prog w) A (.call (.builtin "BaseException.__getattribute__") ⟨[.ref x,nameV],[]⟩) (fun r s'=>match r with | .ok (.ret v)=>wpAny (model prog w) A (handedOut v) Q E s' | _=>False) s) :
  wpAny (model prog w) A (getAttrBy (.ref x) nameV fill expr) Q E s:=by
 obtain ⟨hh,g,d,t,os⟩:=s
 have L0:=I.type (M:=model prog w)
 have L1:=looks_findIn (M:=model prog w) X k.ga
 have L2:=looks_findIn (M:=model prog w) X k.gh
 have f3:=F.attr_ValueError.ga.bind (.ref x)
 have hx0:(expr && onTheHeap (Value.builtin "BaseException.__getattribute__")) = false:=by cases expr <;> rfl
 have hx2:(Value.builtin "BaseException.__getattribute__" == Value.builtin "object.__getattribute__") = false:=by decide +kernel
 have hx1:(onTheHeap (Value.ref C) && Value.builtin "BaseException.__getattribute__" == Value.builtin "object.__getattribute__") = false:=by rw [hx2]; rfl
 unfold getAttrBy
 refine wpAny_holding (wpAny_bind (L0.at (wpAny_bind (L1.at ?_))))
 dsimp only
 rw [if_neg (by rw [hx1]; decide)]
 unfold getAttrByItsOwn hookBefore
 refine wpAny_bind ?_
 show wpAny _ _ (typeLookup (.ref C) "__getattr__") _ _ _
 refine L2.at (wpAny_bind (wpAny_attempt (wpAny_holding ?_)))
 unfold callGetattribute
 rw [if_neg (by rw [hx0]; decide)]
 unfold boundAndCalled
 rw [f3]
 refine wpAny_bind (wpAny_pure (wpAny_call (codeAny_mono h fun r s' z=>?_)))
 rcases r with e | (v | _ | _ | _) <;> first | exact z.elim | exact z
theorem exc_ga {nameV:Value} {R:Result→Shared→Prop} (X:K.In s.heap) (I:InstAt s.heap x ox C od) (k:ExcK K C)
  (h:wpAny (model prog w) A.in1 (Builtin.«object.__getattribute__» ⟨[.ref x,nameV],[]⟩) (fun fin s'=>match fin with | .done f=>R (.ok f) s' | .again c'=>c'.quiet = true∧codeAny (model prog w) A c' R s') (fun e s'=>R (.error e) s') s) :
  codeAny (model prog w) A (.call (.builtin "BaseException.__getattribute__") ⟨[.ref x,nameV],[]⟩) R s:=
 codeAny_call_builtin F.attr_ValueError.ga.plain F.entry_bexc_ga (check_ga X I k h)
theorem exc_get {v:Value} (X:K.In s.heap) (I:InstAt s.heap x ox C od) (k:ExcK K C) (hf:findObj K C od name = some (.value v)) (hh:handedIn v = true) (h:Q v { s with toks:=s.toks + 1 }) :
  wpAny (model prog w) A (getAttr (.ref x) name expr) Q E s:=by
 unfold getAttr
 refine wpAny_bind (wpAny_mkText ?_)
 refine exc_by (s:={ s with toks:=s.toks + 1 }) X I k (exc_ga (s:={ s with toks:=s.toks + 1 }) X I k ?_)
 obtain ⟨hh',g,d,t,os⟩:=s
 have L0:=I.type (M:=model prog w)
 have L1:=looks_find (M:=model prog w) X I hf
 unfold Builtin.«object.__getattribute__»
 refine wpAny_bind (wpAny_pure (wpAny_bind (wpAny_pure (wpAny_bind (L0.at (wpAny_bind (L1.at ?_)))))))
 refine wpAny_pure ?_
 show wpAny _ _ (handedOut v) _ _ _
 rw [handedOut_of hh]; exact wpAny_pure h
theorem exc_class {od:Obj} {Q:Option Value→Shared→Prop} (X:K.In s.heap) (I:InstAt s.heap x ox C (some od)) (k:ExcK K C) (h:Q (some (.ref C)) { s with toks:=s.toks + 1 }) :
  wpAny (model prog w) A (getAttr? (.ref x) "__class__") Q E s:=by
 have hf:findObj K C (some od) "__class__" = some (.bind (.builtin "getset_descriptor.__get__") (.builtin "object.__class__")):=findObj_data (by obtain ⟨cd,hc,_⟩:=any_some k.dict; rw [hc]; rfl) k.cl k.cg k.ct
 unfold getAttr? getAttrBy?
 refine wpAny_bind (wpAny_mkText (wpAny_bind (wpAny_attempt ?_)))
 refine exc_by (s:={ s with toks:=s.toks + 1 }) X I k (exc_ga (s:={ s with toks:=s.toks + 1 }) X I k ?_)
 obtain ⟨hh',g,d,t,os⟩:=s
 have L0:=I.type (M:=model prog w)
 have L1:=looks_find (M:=model prog w) X I hf
 unfold Builtin.«object.__getattribute__»
 refine wpAny_bind (wpAny_pure (wpAny_bind (wpAny_pure (wpAny_bind (L0.at (wpAny_bind (L1.at ?_)))))))
 show wpAny _ _ (holding [Value.builtin "object.__class__"] (call (.builtin "getset_descriptor.__get__") [.builtin "object.__class__",.ref x,.ref C]) >>= ret) _ _ _
 refine wpAny_bind (wpAny_holding (wpAny_call (class_get (s:=⟨hh',g,d,t + 1,os⟩) (ox:=ox) (od:=some od) X I k.ob ?_)))
 refine wpAny_pure ?_
 show wpAny _ _ (handedOut (.ref C)) _ _ _
 rw [handedOut_of rfl]; exact wpAny_pure (wpAny_pure h)
end
theorem kitx_exc {K:Frag} {x C:Addr} {ox od:Obj} (k:ExcK K C):KitX K (.ref x) (.ref C) (fun h=>InstAt h x ox C (some od)) where
 ty:=fun _ _ _ I=>I.type
 it:=fun _ _ X _=>by
  obtain ⟨cdD,hcD,_⟩:=any_some k.dict
  unfold clsIn at hcD
  split at hcD
  ·rename_i c' d' cd' sl' ho
   intro A' Q' E' s' k q
   unfold isType loadHead
   exact wpAny_bind (wpAny_loadPart (k _ _ (X _ _ ho)) (wpAny_pure q))
  ·cases hcD
 ne:=fun h tp dd its n sl X htp=>by
  obtain ⟨cdD,hcD,_⟩:=any_some k.dict
  refine Bool.eq_false_iff.mpr fun q=>?_
  have e:C = tp:=Value.ref.inj (beq_iff_eq.mp q)
  subst e
  unfold clsIn at hcD
  split at hcD
  ·rename_i c' d' cd' sl' ho
   have z:=(X _ _ ho).symm.trans htp
   cases z
  ·cases hcD
 ca:=fun X I q=>exc_class X I k q
theorem refuse_tail (self:Value) {h:Heap} {l:List Value} (T:OwnTail h bmVE l):refuseLoop self "__setattr__" l = pure ():=by
 induction T with
 | base=>exact PySem.F.store_ValueError.passes self
 | own _ _ _ _ ih=>rw [refuseLoop_ref]; exact ih
section
variable {prog:Program} {w:World} {A:Around} {E:Value→Shared→Prop} {s:Shared} {K:Frag} {x C:Addr} {ox:Obj} {od:Option Obj} {name:Str} {v:Value} {R:Result→Shared→Prop}
theorem osa_exc {tk:Tok} {r:Option Value} (X:K.In s.heap) (I:InstAt s.heap x ox C od) (k:ExcK K C) (ht:takerIn K C name = some r)
  (h:∀ b,wpAny (model prog w) A.in1 (match r with | some a=>setByDescriptor a (.ref x) v | none=>storeInOwnDict (.ref x) (.ref C) (.str name tk) name v b)
   (fun fin s'=>match fin with | .done f=>R (.ok f) s' | .again c'=>c'.quiet = true∧codeAny (model prog w) A c' R s') (fun e s'=>R (.error e) s') s) :
  codeAny (model prog w) A (.call (.builtin "object.__setattr__") ⟨[.ref x,.str name tk,v],[]⟩) R s:=by
 have SF:=PySem.F.store_object
 obtain ⟨nm,qn,N,bs,bm,sn,sub,ab,col,dd,k0,k1,k2,k3,k5,hK,T⟩:=exc_of X k.ok
 have hc:clsIn K C = some { name:=nm,bases:=bs,mro:=.ref C :: bm,ns:=N,qualname:=qn,hasDict:=true,slotNames:=sn,subclasses:=sub,abstract:=ab,collection:=col,hasDel:=false }:=by unfold clsIn; rw [hK]
 have sub:Looks (model prog w) s.heap (isInstance (.ref x) (.type "object")) true:=I.type.andThen (looks_mroIn X k.ob)
 refine codeAny_call_builtin SF.slot.plain SF.entry (@check_slot (model prog w) _ _ s "object.__setattr__" "object" "__setattr__" (.ref x) [.str name tk,v] [] _ SF.kind SF.split sub (SF.args (.ref x) (.str name tk) v) ?_)
 obtain ⟨attr,ha,hr⟩:=Option.bind_eq_some_iff.mp ht
 have hm:Looks (model prog w) s.heap (mroOf (.ref C)) (.ref C :: bm):=(looks_clsIn X hc).andThen .now
 have L3:Looks (model prog w) s.heap (storeTaker? attr) r:=by
  cases attr with
  | none=>cases hr; exact .now
  | some a=>
   obtain ⟨b,hb,rfl⟩:=Option.map_eq_some_iff.mp hr
   refine (looks_takesIn X hb).andThen ?_
   cases b <;> exact .now
 rw [osa_eq,refuse_eq]
 refine wpAny_bind (wpAny_bind (I.type.here (wpAny_bind (hm.here ?_))))
 rw [refuseLoop_ref,refuse_tail _ T]
 refine wpAny_pure (wpAny_bind (I.type.here (wpAny_bind ((looks_findIn X ha).here (wpAny_bind (L3.here ?_))))))
 exact h _
theorem exc_set0 {Q:Unit→Shared→Prop} (X:K.In s.heap) (hx:s.heap.get? x = some ox) (hcl:ox.cls = .ref C) (hno:∀ c,ox.data ≠ .cls c) (hd:ox.dict = none) (k:ExcK K C) (ht:takerIn K C name = some none)
  (h:∀ h',h'.Ns1 s.heap.objs.size (fun y=>if y = name then some v else none)→h'.get? x = some { ox with dict:=some s.heap.objs.size }→(∀ b o,b ≠ x→s.heap.get? b = some o→h'.get? b = some o)→Q () { s with heap:=h',toks:=s.toks + 2 }) :
  wpAny (model prog w) A (setAttr (.ref x) name v) Q E s:=by
 have I:InstAt s.heap x ox C none:=⟨hx,hcl,by obtain ⟨a,b,c,d⟩:=ox; cases c <;> first | rfl | exact absurd rfl (hno _),by rw [hd]; trivial⟩
 refine set_plain X I k.sa (osa_exc (s:={ s with toks:=s.toks + 1 }) X I k ht fun b=>?_)
 obtain ⟨cd,hc,hd'⟩:=any_some k.dict
 obtain ⟨oc,odd,oda,osl⟩:=ox
 dsimp only at hcl hd hno
 subst hcl hd
 obtain ⟨hp,g,d,t,os⟩:=s
 unfold storeInOwnDict ownDictForStores instanceDict
 refine wpAny_bind (wpAny_pure (wpAny_bind (wpAny_bind (wpAny_loadPart hx (wpAny_bind (Looks.here (s:=⟨hp,g,d,t + 1,os⟩) (looks_clsIn X hc) ?_))))))
 rw [hd']
 simp only [Bool.not_true,Bool.false_eq_true,if_false]
 rw [if_neg (by simp [typeHasDict])]
 have hx₁:(hp.push { cls:=.type "dict",data:=.dict #[] }).get? x = some { cls:=Value.ref C,data:=oda,slots:=osl }:=Heap.get?_push_of_some _ hx
 have hxs:x ≠ hp.objs.size:=Nat.ne_of_lt (Heap.lt_size hx)
 refine wpAny_bind (wpAny_alloc' ?_)
 refine wpAny_bind (wpAny_update' hx₁ ?_)
 refine wpAny_pure ?_
 have hgd:((hp.push { cls:=.type "dict",data:=.dict #[] }).update x fun o=>{ cls:=o.cls,dict:=some hp.objs.size,data:=o.data,slots:=o.slots }).get? hp.objs.size = some { cls:=.type "dict",data:=.dict #[] }:=
  (Heap.get?_update_ne _ _ _ _ hxs.symm).trans (Heap.get?_push_at rfl rfl)
 have hnd:((hp.push { cls:=.type "dict",data:=.dict #[] }).update x fun o=>{ cls:=o.cls,dict:=some hp.objs.size,data:=o.data,slots:=o.slots }).Ns hp.objs.size (fun _=>none):=
  ⟨_,#[],_,hgd,rfl,fun e he=>absurd he (by simp),fun _=>rfl⟩
 show wpAny _ _ (storeInDict hp.objs.size (.str name t) name v) _ _ _
 unfold storeInDict newKeyGuard
 refine wpAny_bind (wpAny_pure (wpAny_bind (wpAny_nsSet1 (Heap.Ns1.of_empty hnd) fun h' hn' hs=>?_)))
 obtain ⟨oD,esD,epD,hoD,hdD,hcD⟩:=hn'.count (Within.cons name v Within.nil)
 refine wpAny_bind (wpAny_lookBehind hoD (by rw [hdD]; exact pastItsLine_dict (Nat.le_trans hcD (by rw [List.length_cons,List.length_nil,sizeLine_eq]; omega))) ?_)
 refine wpAny_pure (h h' hn' ?_ fun b o hb q=>(hs.2 b (Nat.ne_of_lt (Heap.lt_size q))).trans ((Heap.get?_update_ne _ _ _ _ hb).trans (Heap.get?_push_of_some _ q)))
 refine (hs.2 x hxs).trans (Heap.get?_update_self _ hx₁ ?_)
 have hfr:=(Heap.get?_some_iff.mp hx).2
 cases oda <;> first | rfl | exact hfr
end
theorem exc_matches {M:Model} {A:Around} {E:Value→Shared→Prop} {s:Shared} {K:Frag} {x C D:Addr} {ox:Obj} {b:Bool} {Q:Bool→Shared→Prop} (X:K.In s.heap) (hx:s.heap.get? x = some ox) (hcl:ox.cls = .ref C) (hb:mroIn K C (.ref D) = some b)
  (hD:typeIn K (.ref D) = some (.type "type")) (hcD:(clsIn K D).isSome = true) (hbe:mroIn K D (.type "BaseException") = some true) (h:Q b s):wpAny M A (excMatches (.ref x) (.ref D)) Q E s:=by
 obtain ⟨hp,g,d,t,os⟩:=s
 have t1:Looks M hp (typeOf (.ref x)) (.ref C):=by rw [← hcl]; exact (Looks.ld hx).andThen .now
 have t2:Looks M hp (typeOf (.ref D)) (.type "type"):=looks_typeIn X hD
 have t3:Looks M hp (isType (.ref D)) true:=by
  unfold clsIn at hcD
  split at hcD
  ·rename_i c' d' cd' sl' ho
   intro A' Q' E' s' k q
   unfold isType loadHead
   exact wpAny_bind (wpAny_loadPart (k _ _ (X _ _ ho)) (wpAny_pure q))
  ·cases hcD
 have i1:Looks M hp (isInstance (.ref D) (.type "tuple")) false:=t2.andThen (Looks.of_pure tc_notTuple)
 have i2:Looks M hp (isExcClass (.ref D)) true:=by
  unfold isExcClass
  refine t3.andThen ?_
  exact looks_mroIn X hbe
 have i3:Looks M hp (isSubtype (.ref C) (.ref D)) b:=looks_mroIn X hb
 unfold excMatches
 refine wpAny_bind (m:=isInstance (.ref D) (.type "tuple")) (i1.at ?_)
 simp only [Bool.false_eq_true,if_false]
 refine wpAny_bind (wpAny_pure ?_)
 rw [List.forIn_cons]
 refine wpAny_bind (wpAny_bind (wpAny_bind (i2.at ?_)))
 simp only [Bool.not_true,Bool.false_eq_true,if_false]
 refine wpAny_pure (wpAny_pure (wpAny_bind (t1.at ?_)))
 rw [List.forIn_cons]
 refine wpAny_bind (wpAny_bind (wpAny_bind (i3.at ?_)))
 cases b with
 | true=>exact wpAny_pure (wpAny_pure (wpAny_pure h))
 | false=>exact wpAny_pure (wpAny_pure (wpAny_pure h))
end Xc
namespace L2
open PySem PySem.Spec PyProof.Rows Xc
noncomputable def XAt (X:Cx) (pins:List (Addr × Obj)) (H:Hp) (h:Heap) (a C dx:Addr):Prop:=
 ∃ oe vs,Lies h a oe vs∧oe.cls = .ref C∧oe.dict = some dx∧FpOk X pins H a∧∀ T,vs[1]? = some (.ref T)→FpOk X pins H T
noncomputable def XLies (n:Nat) (H:Hp) (h:Heap) (a C dx:Addr):Prop:=
 ∃ oe vs,Lies h a oe vs∧oe.cls = .ref C∧oe.dict = some dx∧H a = none∧n ≤ a∧∀ T,vs[1]? = some (.ref T)→H T = none∧n ≤ T
noncomputable def CX1 (P:Program) (w:World):CXT:=fun outer H s E e s'=>
 ∃ a C dx H',e = .ref a∧s'.os = s.os∧AllBare s'.gens∧Un (frs outer) [] H H' s.heap s'.heap∧HOk P w H' s'.heap∧XLies s.heap.objs.size H' s'.heap a C dx∧E (.ref C) (some dx) H'
section
variable {X:Cx} {pins:List (Addr × Obj)} {σ:St} {H H':Hp} {s s':Shared} {a C dx:Addr}
theorem Inv.noted {oe:Obj} {vs:Array Value} {h':Heap} (I:Inv X pins σ H s) (n:Noted X.stack a oe (oldTb vs) s.heap h') (x:Lies s.heap a oe vs) (hc:oe.cls = .ref C) (hd:oe.dict = some dx) (f:FpOk X pins H a) (fT:∀ T,vs[1]? = some (.ref T)→FpOk X pins H T) :
  Inv X pins σ H { s with heap:=h' }∧XAt X pins H h' a C dx:=by
 have tr:∀ b u,H b = some u→b ≠ a∧¬ oldTb vs b∧b ∉ fas X.stack:=fun b u e=>⟨fun z=>(by rw [z,f.1] at e; cases e),fun z=>(by rw [(fT b z).1] at e; cases e),fun z=>(by rw [I.stkFree b z] at e; cases e)⟩
 have ff:∀ b,(b = a ∨ oldTb vs b)→FpOk X pins H b:=fun b hb=>by
  rcases hb with rfl | hb
  ·exact f
  ·exact fT b hb
 have hok:HOk X.prog X.w H h':=fun b u e=>(I.hok b u e).stay (fun c v hc q=>by
  rcases hc with rfl | hc
  ·obtain ⟨t1,t2,t3⟩:=tr c u e; exact n.keep c v t1 t2 t3 q
  ·obtain ⟨t1,t2,t3⟩:=tr c _ hc; exact n.keep c v t1 t2 t3 q) (fun _ z=>z) fun _ _ z=>z
 have thr:∀ b o,s.heap.get? b = some o→b ≠ a→¬ oldTb vs b→∃ o',h'.get? b = some o':=fun b o e h1 h2=>by
  by_cases hb:b ∈ fas X.stack
  ·obtain ⟨sl,q⟩:=n.slot b o hb e; exact ⟨_,q⟩
  ·exact ⟨o,n.keep b o h1 h2 hb e⟩
 have go:∀ ch:List Addr,(∀ b,b ∈ ch ↔ (b = a ∨ oldTb vs b))→Inv X pins σ H { s with heap:=h' }:=fun ch hch=>by
  refine I.call (g':=s.gens) (t':=s.toks) (d':=s.drawn) (ch:=ch) ⟨fun b o e n1 n2 n3=>?_,fun b o e _ n2 _=>n.slot b o n2 e,fun _ _ _ z _=>z,fun b o e n1=>?_,fun _ _ z=>z,fun _ _ _ z=>z,fun _ ps z=>⟨#[],by rw [z]; simp⟩⟩ hok I.bare fun b hb=>?_
  ·exact n.keep b o (fun z=>n3 ((hch b).mpr (.inl z))) (fun z=>n3 ((hch b).mpr (.inr z))) n2 e
  ·exact thr b o e (fun z=>n1 ((hch b).mpr (.inl z))) (fun z=>n1 ((hch b).mpr (.inr z)))
  ·obtain ⟨f0,f1,f2,f3,f4,f5⟩:=ff b ((hch b).mp hb)
   exact ⟨f3,f1,f4,f5⟩
 refine ⟨?_,?_⟩
 ·rcases x.tb with h1 | ⟨T,oT,ts,h1,_⟩
  ·refine go [a] fun b=>⟨fun z=>.inl (by simpa using z),fun z=>?_⟩
   rcases z with z | z
   ·simp [z]
   ·unfold oldTb at z; rw [h1] at z; cases z
  ·refine go [a,T] fun b=>⟨fun z=>?_,fun z=>?_⟩
   ·simp only [List.mem_cons,List.not_mem_nil,or_false] at z
    rcases z with z | z
    ·exact .inl z
    ·exact .inr (by rw [z]; exact h1)
   ·rcases z with z | z
    ·simp [z]
    ·unfold oldTb at z; rw [h1] at z; cases z; simp
 ·obtain ⟨oe',vs',T,oT,ts,a1,a2,a3,a4,a5,a6,a7,a8,a9,a10⟩:=n.lies
  refine ⟨oe',vs',⟨a1,a4,.inr ⟨T,oT,ts,a5,a7,a8,a9,a10⟩⟩,a2.trans hc,a3.trans hd,f,fun T' hT'=>?_⟩
  rw [a5] at hT'
  cases hT'
  exact I.fpOk a6 (I.hok.fresh a6)
theorem Inv.raised {E:XK} {e:Value} (I:Inv X pins σ H s) (h:CX1 X.prog X.w X.stack H s E e s'):∃ a C dx H',e = .ref a∧Inv X pins σ H' s'∧XAt X pins H' s'.heap a C dx∧E (.ref C) (some dx) H':=by
 obtain ⟨a,C,dx,H',rfl,os,bare,un,hok,⟨oe,vs,x,hc,hd,h0,hn,hT⟩,hE⟩:=h
 refine ⟨a,C,dx,H',rfl,I.call' (ch:=[]) os un hok bare (fun b z=>absurd z (by simp)),⟨oe,vs,x,hc,hd,I.fpOk hn h0,fun T z=>I.fpOk (hT T z).2 (hT T z).1⟩,hE⟩
end
theorem leave_def {P:Program} {w:World} {K:PySem.W.Frag} {mg:Str→Option Value} {base:Heap} {N:List Str} {qual:Str} {scope:Scope} {f:Addr} {cd:Value} {A:Around} {outer:List Env} {s s':Shared} {H H':Hp} {E:XK} {pins:List (Addr × Obj)} {σ:St} {a C dx:Addr}
  (I:Inv (cxOf (CX1 P w) P w K mg base N qual scope f cd A outer s H E) pins σ H' s') (x:XAt (cxOf (CX1 P w) P w K mg base N qual scope f cd A outer s H E) pins H' s'.heap a C dx) (hE:E (.ref C) (some dx) H') :
  (cxOf (CX1 P w) P w K mg base N qual scope f cd A outer s H E).xe (.ref a) s':=by
 obtain ⟨oe,vs,x,hc,hd,fa,fT⟩:=x
 have hfr:(cxOf (CX1 P w) P w K mg base N qual scope f cd A outer s H E).A.frames = some (envOfC qual scope s.heap.objs.size f cd :: outer):=I.ok.frames
 have hl:=I.stack
 refine leave_ok (s:=s') (env:=envOfC qual scope s.heap.objs.size f cd) (outer:=outer) hfr hl rfl x fun h' n=>?_
 obtain ⟨I2,x2⟩:=I.noted (h':=h') n x hc hd fa fT
 obtain ⟨oe2,vs2,x2,hc2,hd2,fa2,fT2⟩:=x2
 have lt:∀ b,FpOk (cxOf (CX1 P w) P w K mg base N qual scope f cd A outer s H E) pins H' b→s.heap.objs.size ≤ b:=fun b q=>by
  rcases q.2.2.2.1 with z | z
  ·exact absurd (show b ∈ ([]:List Addr) from z) (by simp)
  ·exact z
 exact ⟨a,C,dx,H',rfl,I2.os,I2.bare,I2.base,I2.hok,⟨oe2,vs2,x2,hc2,hd2,fa2.1,lt a fa2,fun T z=>⟨(fT2 T z).1,lt T (fT2 T z)⟩⟩,hE⟩
section
variable {X:Cx} {k:Nat} {f C:Addr} {fd:FuncData} {ps:List Str} {sp:Sp} {x m:Str} {p pos apos:Pos} {e o:Expr} {es:List Expr} {ta:TE} {t:TA}
noncomputable def EX (X:Cx) (pins:List (Addr × Obj)) (σ:St):XK:=fun c d H'=>∀ s' a C dx,c = .ref C→d = some dx→Inv X pins σ H' s'→XAt X pins H' s'.heap a C dx→X.xe (.ref a) s'
theorem run_fnX {pins:List (Addr × Obj)} {σ:St} {H:Hp} {s:Shared} {Q:VK} {E:XK} {us:List Value} {vs:List V} (F:FnOk X.prog X.w X.K X.mg X.base (CX1 X.prog X.w) k f fd ps sp) (hr:Room k X.A) (hb:Binds X.K fd ps [])
  (hE:∀ c d H',E c d H'→EX X pins σ c d H') (I:Inv X pins σ H s) (r:Vals vs us) (h:sp vs H Q E):wpAny (model X.prog X.w) X.A (call (.ref f) us) (EP X pins σ Q) X.xe s:=by
 have hl:(us ++ []).length = ps.length:=by rw [List.append_nil,← r.length]; exact F.len _ _ _ _ h
 have hb':=hb s us I.kIn hl
 rw [List.append_nil] at hb'
 refine wpAny_call (codeAny_mono (F.run X.A X.stack s H ⟨us,[]⟩ us vs Q E hr I.env0 hb' r h) fun r s' hq=>?_)
 cases r with
 | error e=>
  obtain ⟨a,C,dx,H',rfl,I',xa,he⟩:=I.raised hq
  exact hE _ _ _ he s' a C dx rfl rfl I' xa
 | ok fl=>
  cases fl with
  | ret u=>exact I.after hq
  | next=>exact False.elim hq
  | brk=>exact False.elim hq
  | cont=>exact False.elim hq
noncomputable def tCallX (X:Cx) (sp:Sp) (t:TA):TE:=fun σ H Q=>t σ H fun vs H1=>∃ E,sp vs H1 Q E∧∀ pins c d H',E c d H'→EX X pins σ c d H'
theorem pe_callX (F:FnOk X.prog X.w X.K X.mg X.base (CX1 X.prog X.w) k f fd ps sp) (hr:Room k X.A) (hg:Gl X x) (hm:X.mg x = some (.ref f)) (hk:PySem.W.keepIn X.K (.ref f) = true) (hb:Binds X.K fd ps [])
  (ha:PA X (e :: es) t) (hdb:(x == ("__debug__":Str)) = false:=by decide) (he:starEach (e :: es) X.env = (false,eval e X.env) :: starEach es X.env:=by rfl) (hpl:(backTo pos (starEach es X.env)).any (·.1) = false:=by rfl) :
  PE X (.Call (.Name x p) (e :: es) [] pos) (tCallX X sp t):=by
 intro pins s σ H Q I h
 refine wpAny_Call_Name_kw (ld_glob I hg hm ?_ hdb)
 refine PySem.W.callWith_K (h₀:=X.base) I.ok.mod.kin hk (thn (ha pos pins s σ H _ I h) fun us s1 ⟨vs,H1,I1,r,E,q,hE⟩=>⟨I1.kIn,?_⟩) he hpl
 exact run_fnX F hr hb (hE pins) I1 r q
end
noncomputable def XO (a C:Addr) (d:Option Addr) (h:Heap):Prop:=∃ oe vs,h.get? a = some oe∧oe.cls = .ref C∧oe.dict = d∧oe.data = .fields vs∧vs[1]? = some .none
noncomputable def XD (dx:Addr) (fs:List (Str × V)) (h:Heap):Prop:=∃ mA,h.Ns1 dx mA∧(∀ f,RelO (fs.lookup f) (mA f))∧PySem.Within mA (fs.map (·.1))
theorem XO.stay {a C:Addr} {d:Option Addr} {h1 h2:Heap} (x:XO a C d h1) (k:∀ o,h1.get? a = some o→h2.get? a = some o):XO a C d h2:=let ⟨oe,vs,e,r⟩:=x; ⟨oe,vs,k oe e,r⟩
theorem XD.stay {dx:Addr} {fs:List (Str × V)} {h1 h2:Heap} (x:XD dx fs h1) (k:∀ o,h1.get? dx = some o→h2.get? dx = some o):XD dx fs h2:=let ⟨mA,⟨o,es,ep,e,r⟩,q⟩:=x; ⟨mA,⟨o,es,ep,k o e,r⟩,q⟩
theorem XO.ok {P:Program} {w:World} {H:Hp} {h:Heap} {a C:Addr} {d:Option Addr} (x:XO a C d h):ObjOk P w H h a (.ext (XO a C d)):=⟨x,let ⟨oe,_,e,_⟩:=x; ⟨oe,e⟩,fun _ _ y k=>y.stay k⟩
theorem XD.ok {P:Program} {w:World} {H:Hp} {h:Heap} {dx:Addr} {fs:List (Str × V)} (x:XD dx fs h):ObjOk P w H h dx (.ext (XD dx fs)):=⟨x,let ⟨_,⟨o,_,_,e,_⟩,_⟩:=x; ⟨o,e⟩,fun _ _ y k=>y.stay k⟩
theorem XO.of {P:Program} {w:World} {H:Hp} {h:Heap} {a C:Addr} {d:Option Addr} (hok:HOk P w H h) (e:H a = some (.ext (XO a C d))):XO a C d h:=(show ObjOk P w H h a (.ext (XO a C d)) from hok a _ e).1
theorem XD.of {P:Program} {w:World} {H:Hp} {h:Heap} {a:Addr} {fs:List (Str × V)} (hok:HOk P w H h) (e:H a = some (.ext (XD a fs))):XD a fs h:=(show ObjOk P w H h a (.ext (XD a fs)) from hok a _ e).1
section
variable {X:Cx} {pins:List (Addr × Obj)} {σ:St} {H:Hp} {s:Shared}
theorem Inv.trackO {D:Addr} {o:HO} (I:Inv X pins σ H s) (f:FpOk X pins H D) (n:ObjOk X.prog X.w (upd H D o) s.heap D o):Inv X pins σ (upd H D o) s:=by
 obtain ⟨f0,f1,f2,f3,f4,f5⟩:=f
 have nD:∀ b u,H b = some u→b ≠ D:=fun b u q=>ne_of_none q f0
 have hok:HOk X.prog X.w (upd H D o) s.heap:=fun b u q=>by
  by_cases hb:b = D
  ·subst hb
   rw [upd_same] at q
   cases q
   exact n
  ·rw [upd_ne hb] at q
   exact (I.hok b u q).stay (fun _ _ _ z=>z) (fun c z=>by rw [upd_ne (nD c _ z)]; exact z) fun c xs z=>by rw [upd_ne (nD c _ z)]; exact z
 exact I.step (H':=upd H D o) (h':=s.heap) (g':=s.gens) (t':=s.toks) (d':=s.drawn) (ch:=[D])
  (fun b hb=>by
   have z:b = D:=by simpa using hb
   subst z
   exact ⟨f3,f1,f4,f5⟩)
  (fun _ _ _ _ _ q _=>q) (fun _ o _ _ _ q _=>⟨o.slots,q⟩)
  (fun b o hb _ n=>by rw [upd_ne (fun z=>hb (by simp [z]))]; exact n)
  (fun _ o _ q=>⟨o,q⟩) (fun b xs q=>by rw [upd_ne (nD b _ q)]; exact q) (fun b o u q=>by rw [upd_ne (nD b _ q)]; exact q)
  (fun b ps q=>⟨#[],by rw [upd_ne (nD b _ q),q]; simp⟩) (fun _ q=>q) hok I.bare
theorem Inv.forget {H':Hp} {D:Addr} {φ:Heap→Prop} (I:Inv X pins σ H s) (e:H D = some (.ext φ)) (h1:H' D = none) (h2:∀ b,b ≠ D→H' b = H b):Inv X pins σ H' s:=by
 have ne:∀ b u,H b = some u→u ≠ .ext φ→b ≠ D:=fun b u q z y=>by rw [y,e] at q; exact z (Option.some.inj q).symm
 refine I.un (h':=s.heap) (t':=s.toks) ⟨fun _ _ q _ _ _=>q,fun _ o q _ _ _=>⟨o.slots,q⟩,fun b o q n _=>?_,fun _ o q _=>⟨o,q⟩,fun b xs q=>?_,fun b o u q=>?_,fun b ps q=>?_⟩ fun b u q=>?_
 ·by_cases z:b = D
  ·rw [z]; exact h1
  ·rw [h2 b z]; exact n
 ·rw [h2 b (ne b _ q fun z=>nomatch z)]; exact q
 ·rw [h2 b (ne b _ q fun z=>nomatch z)]; exact q
 ·exact ⟨#[],by rw [h2 b (ne b _ q fun z=>nomatch z),q]; simp⟩
 ·have hb:b ≠ D:=fun z=>by rw [z,h1] at q; cases q
  rw [h2 b hb] at q
  exact (I.hok b u q).stay (fun _ _ _ z=>z) (fun c z=>by rw [h2 c (ne c _ z fun y=>nomatch y)]; exact z) fun c xs z=>by rw [h2 c (ne c _ z fun y=>nomatch y)]; exact z
end
noncomputable def sXF0 (K:PySem.W.Frag) (ta tv:TE) (f:Str):TS:=fun D σ H=>tv σ H fun y H1=>ta σ H1 fun x H2=>∃ a C,x = .ref a∧H2 a = some (.ext (XO a C none))∧ExcK K C∧NoAttr K C f∧
 ∀ dx,H2 dx = none→dx ≠ a→D.nx σ (upd (upd H2 a (.ext (XO a C (some dx)))) dx (.ext (XD dx [(f,y)])))
section
variable {X:Cx} {o value:Expr} {f:Str} {pos pos':Pos} {ta tv:TE}
theorem ps_xf0 (ha:PE X o ta) (hv:PE X value tv) (hs:swapsWith value (some (.Attribute o f pos')) pos.line X.env = pure false):PS X (.Assign [.Attribute o f pos'] value pos) (sXF0 X.K ta tv f):=by
 intro pins s σ H D I h
 refine plainObj_wpAny_Assign_Attribute (thn (hv pins s σ H _ I h) fun u s1 ⟨y,H1,I1,ry,q⟩=>thn (ha pins s1 σ H1 _ I1 q) fun ov s2 ⟨x,H2,I2,rx,a,C,ex,ea,k,n,q2⟩=>?_) hs
 subst ex
 obtain rfl:ov = Value.ref a:=rx
 obtain ⟨oe,vs,g1,g2,g3,g4,g5⟩:=XO.of I2.hok ea
 have ne:s2.heap.objs.size ≠ a:=Nat.ne_of_gt (Heap.lt_size g1)
 refine exc_set0 I2.kIn g1 g2 (fun c z=>by rw [g4] at z; cases z) g3 k n.taker fun h' n1 n2 n3=>?_
 have J1:Inv X pins σ (upd H2 a (.ext (XO a C (some s2.heap.objs.size)))) { s2 with heap:=h',toks:=s2.toks + 2 }:=
  I2.write (x:=a) (e:=a) (by rw [ea]; exact True.intro) (.inl rfl) (fun b u hb z=>n3 b u hb z) ⟨_,n2⟩ (XO.ok ⟨_,vs,n2,g2,rfl,g4,g5⟩)
 have f0:H2 s2.heap.objs.size = none:=I2.hok.fresh (Nat.le_refl _)
 have f1:FpOk X pins (upd H2 a (.ext (XO a C (some s2.heap.objs.size)))) s2.heap.objs.size:=I2.fpOk (Nat.le_refl _) (by rw [upd_ne ne]; exact f0)
 have xd:XD s2.heap.objs.size [(f,y)] h':=⟨_,n1,fun g=>by
  show RelO (List.lookup g [(f,y)]) (if g = f then some u else none)
  by_cases q:g = f
  ·subst q; rw [if_pos rfl]; simp; exact ry
  ·rw [if_neg q,List.lookup_cons,beq_eq_false_iff_ne.mpr q]; exact True.intro,fun g hg=>by
  by_cases q:g = f
  ·simp [q]
  ·exact absurd (show (if g = f then some u else none) = none by rw [if_neg q]) hg⟩
 exact ⟨σ,_,J1.trackO f1 xd.ok,q2 _ f0 ne⟩
end
noncomputable def spInit (K:PySem.W.Frag) (C:Addr) (ks:List Str):Sp:=fun vs H Q _=>∃ a rest,vs = .ref a :: rest∧rest.length = ks.length∧H a = some (.ext (XO a C none))∧ExcK K C∧(∀ k ∈ ks,NoAttr K C k)∧
 ∀ dx,H dx = none→dx ≠ a→Q .non (upd (upd H a (.ext (XO a C (some dx)))) dx (.ext (XD dx (ks.zip rest))))
section
variable {P:Program} {w:World} {K:PySem.W.Frag} {mg:Str→Option Value} {base:Heap}
theorem init1 {qual:Str} {st:Stmt} {f C:Addr} {fd:FuncData} {N ps:List Str} {k1:Str} (F:Fun K "__init__" qual st f fd) (S:FnScope N ps (defScope st)) (hp:ps.length = 2)
  (hbody:∀ (cdv:Value) (A:Around) (outer:List Env) (s:Shared) (H:Hp) (E:XK),PSs (cxOf CX0 P w K mg base N qual (defScope st) f cdv A outer s H E).nox (defBody st) (sXF0 K (tVar 0) (tVar 1) k1)) :
  FnOk P w K mg base CX0 1 f fd ps (spInit K C [k1]):=
 F.ok S (fun vs H Q E ⟨a,rest,e,l,_⟩=>by rw [e,List.length_cons,l,hp]; rfl) fun cdv A outer s H vs Q E hr ⟨a,rest,e,l,ea,ek,en,q⟩=>by
  obtain ⟨x,rfl⟩:=List.length_eq_one_iff.mp l
  subst e
  refine ⟨_,hbody cdv A outer s H E,?_⟩
  exact ⟨x,rfl,.ref a,rfl,a,C,rfl,ea,ek,en k1 (by simp),fun dx h1 h2=>q dx h1 h2⟩
end
section
variable {X:Cx} {f C:Addr} {fd:FuncData} {ps ks:List Str} {x:Str} {p cpos pos:Pos} {e:Expr} {es:List Expr} {t:TA}
noncomputable def tRaise (X:Cx) (C:Addr) (ks:List Str) (t:TA):TS:=fun D σ H=>t σ H fun vs H1=>vs.length = ks.length∧∀ pins dx od,H1 dx = none→EX X pins σ (.ref C) (some dx) (upd H1 dx (.frz od (.ext (XD dx (ks.zip vs)))))
theorem ps_raise (F:FnOk X.prog X.w X.K X.mg X.base CX0 1 f fd ps (spInit X.K C ks)) (hps:ps.length = ks.length + 1) (hks:ks.length ≤ 1000) (ek:ExcK X.K C) (en:∀ k ∈ ks,NoAttr X.K C k) (hi:PySem.W.findIn X.K (.ref C) "__init__" = some (some (.ref f))) (hf:PySem.W.isFn X.K (.ref f) = true) (hkp:PySem.W.keepIn X.K (.ref C) = true)
  (hr:Room 2 X.A) (hcalm:X.calm = true) (hg:Gl X x) (hm:X.mg x = some (.ref C)) (hb:Binds X.K fd ps []) (ha:PA X (e :: es) t)
  (hdb:(x == ("__debug__":Str)) = false:=by decide) (he:starEach (e :: es) X.env = (false,eval e X.env) :: starEach es X.env:=by rfl) (hpl:(backTo cpos (starEach es X.env)).any (·.1) = false:=by rfl) :
  PS X (.Raise (some (.Call (.Name x p) (e :: es) [] cpos)) none pos) (tRaise X C ks t):=by
 intro pins s σ H D I h
 rw [arm_exec_Raise]
 refine wpAny_bind (wpAny_standAt ?_)
 show wpAny _ _ (raiseStmt X.env (some (do let v ← eval (.Call (.Name x p) (e :: es) [] cpos) X.env; standAt pos; pure v)) none) _ _ _
 refine raise_own (K:=X.K) (C:=C) ek.ok (I.ok.hd hcalm) (wpAny_bind ?_)
 refine wpAny_Call_Name_kw (ld_glob I hg hm ?_ hdb)
 refine PySem.W.callWith_K (h₀:=X.base) I.ok.mod.kin hkp (thn (ha cpos pins s σ H _ I h) fun us s1 ⟨vs,H1,I1,r,hl,q⟩=>⟨I1.kIn,?_⟩) he hpl
 have hul:us.length = ks.length:=by rw [← r.length]; exact hl
 obtain ⟨hp,g,d,tk,os⟩:=s1
 have e1:(hp.push (tupObj us)).objs.size = hp.objs.size + 1:=Heap.size_push _ _
 have I1a:Inv X pins σ H1 ⟨hp.push (tupObj us),g,d,tk,os⟩:=I1.kept (t':=tk) fun b o q=>Heap.get?_push_of_some _ q
 have ex:((hp.push (tupObj us)).push (excObj C hp.objs.size)).get? (hp.objs.size + 1) = some (excObj C hp.objs.size):=by heap_get
 have I2:Inv X pins σ (upd H1 (hp.objs.size + 1) (.ext (XO (hp.objs.size + 1) C none))) ⟨(hp.push (tupObj us)).push (excObj C hp.objs.size),g,d,tk,os⟩:=
  I1a.laid (a:=hp.objs.size + 1) (t':=tk) (fun b o q=>Heap.get?_push_of_some _ q) (Nat.le_of_eq e1) (XO.ok ⟨_,_,ex,rfl,rfl,rfl,rfl⟩)
 have n0:H1 (hp.objs.size + 1) = none:=I1.hok.fresh (Nat.le_succ _)
 have r2:Vals (V.ref (hp.objs.size + 1) :: vs) (Value.ref (hp.objs.size + 1) :: us):=.cons rfl r
 have hbl:(Value.ref (hp.objs.size + 1) :: us ++ []).length = ps.length:=by rw [List.append_nil,List.length_cons,hul,hps]
 have hb':=hb _ (Value.ref (hp.objs.size + 1) :: us) I2.kIn hbl
 rw [List.append_nil] at hb'
 refine wpAny_call (exc_core (f:=f) I1.kIn ek.ok hi (beq_iff_eq.mp hf) (by rw [List.nil_append,hul]; exact Nat.le_of_lt (small1000 hks)) (codeAny_mono (F.run _ X.stack _ _ ⟨Value.ref (hp.objs.size + 1) :: us,[]⟩ (Value.ref (hp.objs.size + 1) :: us) _
  (fun v H2=>v = .non∧∃ dx,H1 dx = none∧dx ≠ hp.objs.size + 1∧H2 = upd (upd (upd H1 (hp.objs.size + 1) (.ext (XO (hp.objs.size + 1) C none))) (hp.objs.size + 1) (.ext (XO (hp.objs.size + 1) C (some dx)))) dx (.ext (XD dx (ks.zip vs)))) (fun _ _ _=>False) (hr.make C us [])
  (I2.env0.make C us []) hb' r2 ⟨_,vs,rfl,hl,upd_same,ek,en,fun dx h1 h2=>⟨rfl,dx,by rw [upd_ne h2] at h1; exact h1,h2,rfl⟩⟩) fun r s' hq'=>?_))
 cases r with
 | error e=>exact hq'.elim
 | ok fl=>
  cases fl with
  | ret u=>
   obtain ⟨v,H',I3,rv,ev,dx,d1,d2,rfl⟩:=I2.after hq'
   subst ev
   refine ⟨rv,wpAny_bind (wpAny_standAt (wpAny_pure ?_))⟩
   obtain ⟨oe,ws,g1,g2,g3,g4,g5⟩:=XO.of (a:=hp.objs.size + 1) (C:=C) (d:=some dx) I3.hok (by rw [upd_ne d2.symm,upd_same])
   have xd:XD dx (ks.zip vs) s'.heap:=XD.of I3.hok upd_same
   obtain ⟨od,hod⟩:∃ o,s'.heap.get? dx = some o:=let ⟨_,⟨o,_,_,e,_⟩,_⟩:=xd; ⟨o,e⟩
   refine ⟨hp.objs.size + 1,oe,ws,rfl,I3.kIn,g1,g2,g4,g5,?_⟩
   have I4:Inv X pins σ (upd (upd (upd (upd H1 (hp.objs.size + 1) (.ext (XO (hp.objs.size + 1) C none))) (hp.objs.size + 1) (.ext (XO (hp.objs.size + 1) C (some dx)))) dx (.ext (XD dx (ks.zip vs)))) dx (.frz od (.ext (XD dx (ks.zip vs))))) s':=by
    have J:=I3.write (x:=dx) (e:=dx) (o:=.frz od (.ext (XD dx (ks.zip vs)))) (h':=s'.heap) (t':=s'.toks) (by rw [upd_same]; exact True.intro) (.inl rfl) (fun _ _ _ z=>z) ⟨od,hod⟩ ⟨hod,xd.ok⟩
    exact J
   have I5:Inv X pins σ (upd H1 dx (.frz od (.ext (XD dx (ks.zip vs))))) s':=I4.forget (D:=hp.objs.size + 1) (φ:=XO (hp.objs.size + 1) C (some dx)) (by rw [upd_upd,upd_ne d2.symm,upd_same]) (by rw [upd_ne d2.symm]; exact n0) fun b hb=>by
    by_cases z:b = dx
    ·rw [z,upd_same,upd_same]
    ·rw [upd_ne z,upd_ne z,upd_ne z,upd_ne hb,upd_ne hb]
   refine q pins dx od d1 s' _ C dx rfl rfl I5 ⟨oe,ws,⟨g1,g4,.inl g5⟩,g2,g3,I1.fpOk (Nat.le_succ _) (by rw [upd_ne d2.symm]; exact n0),fun T z=>?_⟩
   rw [g5] at z
   cases z
  | next=>exact hq'.elim
  | brk=>exact hq'.elim
  | cont=>exact hq'.elim
end
noncomputable abbrev Cx.tr (X:Cx) (E:Value→Shared→Prop) (pins:List (Addr × Obj)):Cx:={ X with xe:=E,pn:=X.pn ++ pins }
noncomputable abbrev Cx.inH (X:Cx) (a:Addr):Cx:={ X with A:=X.A.mark (some (.ref a)),calm:=false,xe:=fun _ _=>False }
section
variable {X:Cx} {pins pins':List (Addr × Obj)} {σ:St} {H H':Hp} {s s':Shared} {E:Value→Shared→Prop}
theorem Cx.Ok.tr (ok:X.Ok):(X.tr E pins).Ok:=⟨ok.mod,ok.kind,ok.glob,ok.blt,ok.above,ok.inj,ok.has,ok.cab,ok.hd,ok.frames,ok.stk,ok.exf,ok.bs,ok.bsz,ok.noex,ok.exfs,ok.funs,ok.frf⟩
theorem Cx.Ok.untr (ok:(X.tr E pins).Ok):X.Ok:=⟨ok.mod,ok.kind,ok.glob,ok.blt,ok.above,ok.inj,ok.has,ok.cab,ok.hd,ok.frames,ok.stk,ok.exf,ok.bs,ok.bsz,ok.noex,ok.exfs,ok.funs,ok.frf⟩
theorem Cx.Ok.inH {a:Addr} (ok:X.Ok):(X.inH a).Ok:=⟨ok.mod,ok.kind,ok.glob,ok.blt,ok.above,ok.inj,ok.has,ok.cab,fun z=>absurd (show false = true from z) (by decide),ok.frames,ok.stk,ok.exf,ok.bs,ok.bsz,ok.noex,ok.exfs,ok.funs,ok.frf⟩
theorem Cx.Ok.outH {a:Addr} (hc:X.calm = true→X.A.handled = none) (ok:(X.inH a).Ok):X.Ok:=⟨ok.mod,ok.kind,ok.glob,ok.blt,ok.above,ok.inj,ok.has,ok.cab,hc,ok.frames,ok.stk,ok.exf,ok.bs,ok.bsz,ok.noex,ok.exfs,ok.funs,ok.frf⟩
theorem Inv.tr (I:Inv X pins σ H s):Inv (X.tr E pins) [] σ H s:=⟨I.ok.tr,I.os,I.bare,I.base,I.loc,I.cell,I.free,I.freeC,fun p hp=>I.pin p (by simpa using hp),I.hok,I.len⟩
theorem Inv.untr (I:Inv (X.tr E pins) pins' σ H s):Inv X pins σ H s:=⟨I.ok.untr,I.os,I.bare,I.base,I.loc,I.cell,I.free,I.freeC,fun p hp=>I.pin p (List.mem_append_left _ hp),I.hok,I.len⟩
theorem Inv.inH {a:Addr} (I:Inv X pins σ H s):Inv (X.inH a) pins σ H s:=⟨I.ok.inH,I.os,I.bare,I.base,I.loc,I.cell,I.free,I.freeC,I.pin,I.hok,I.len⟩
theorem Inv.outH {a:Addr} (hc:X.calm = true→X.A.handled = none) (I:Inv (X.inH a) pins σ H s):Inv X pins σ H s:=⟨I.ok.outH hc,I.os,I.bare,I.base,I.loc,I.cell,I.free,I.freeC,I.pin,I.hok,I.len⟩
theorem FpOk.untr {b:Addr} (f:FpOk (X.tr E pins) pins' H b):FpOk X pins H b:=⟨f.1,f.2.1,f.2.2.1,f.2.2.2.1,f.2.2.2.2.1,fun p hp=>f.2.2.2.2.2 p (List.mem_append_left _ hp)⟩
theorem SP.untr {D:Ends} {f:Flow} (h:SP (X.tr E pins) [] D f s'):SP X pins D f s':=by
 cases f with
 | next=>obtain ⟨a,b,I,q⟩:=h; exact ⟨a,b,I.untr,q⟩
 | brk=>obtain ⟨a,b,I,q⟩:=h; exact ⟨a,b,I.untr,q⟩
 | cont=>obtain ⟨a,b,I,q⟩:=h; exact ⟨a,b,I.untr,q⟩
 | ret v=>obtain ⟨v,a,b,I,r,q⟩:=h; exact ⟨v,a,b,I.untr,r,q⟩
theorem name_goes {A:Around} {E:Value→Shared→Prop} {i:Nat} {n:Str} {pos:Pos} {Q:Unit→Shared→Prop} (I:Inv X pins σ H s) (hN:X.N.Nodup) (hi:X.N[i]? = some n) (hk:X.env.scope.names.lookup n = some .local) (h:∀ s',Inv X pins (σ.set i none) H s'→Q () s') :
  wpAny (model X.prog X.w) A (do bindName X.env n .none; unbindBehindTheSuite X.env n pos) Q E s:=by
 obtain ⟨m,hn,hl⟩:=id I.loc
 have hcls:(X.env.scope.kind == .class || (X.env.scope.kind == .module && X.env.locals != X.env.globals)) = false:=by rw [I.ok.kind]; rfl
 have cne:=I.cne
 refine wpAny_nameGoes_keeps hk hn hcls fun h' v hn' hs=>h _ ?_
 have ne0:∀ b o,X.s₀.heap.get? b = some o→b ≠ X.env.locals:=fun b o e=>Nat.ne_of_lt (Nat.lt_of_lt_of_le (Heap.lt_size e) I.ok.above)
 refine ⟨I.ok,I.os,I.bare,⟨fun b o e n hb hx=>(hs.2 b (ne0 b o e)).trans (I.base.keep b o e n hb hx),fun b o e n hb hx=>?_,I.base.free,fun b o e hx=>?_,I.base.tups,I.base.frzs,I.base.tbls⟩,⟨_,hn',fun j y v' e1 e2 e3=>?_⟩,fun y c e=>?_,I.free,I.freeC,fun p hp=>?_,fun b ob e=>?_,by simpa using I.len⟩
 ·obtain ⟨sl,e1⟩:=I.base.slot b o e n hb hx
  exact ⟨sl,(hs.2 b (ne0 b o e)).trans e1⟩
 ·obtain ⟨o',e1⟩:=I.base.there b o e hx
  exact ⟨o',(hs.2 b (ne0 b o e)).trans e1⟩
 ·by_cases hj:j = i
  ·subst hj
   rw [List.getElem?_set] at e2
   split at e2
   ·split at e2
    ·cases e2
    ·cases e2
   ·rename_i z; exact absurd rfl z
  ·rw [List.getElem?_set_ne (Ne.symm hj)] at e2
   obtain ⟨u',r',q⟩:=hl j y v' e1 e2 e3
   refine ⟨u',r',?_⟩
   rcases q with ⟨k,e⟩ | ⟨k,c,e,z⟩
   ·refine .inl ⟨k,?_⟩
    have:y ≠ n:=fun e=>hj (nodup_ix hN e1 (e ▸ hi))
    simp [this,e]
   ·exact .inr ⟨k,c,e,z.sameBut hs (cne y c e)⟩
 ·obtain ⟨w',z⟩:=I.cell y c e
  exact ⟨w',z.sameBut hs (cne y c e)⟩
 ·obtain ⟨e,n,ne,nf,d⟩:=I.pin p hp
  exact ⟨(hs.2 p.1 ne).trans e,n,ne,nf,d⟩
 ·refine (I.hok b ob e).stay (fun c w' hc q=>(hs.2 c ?_).trans q) (fun _ q=>q) fun _ _ q=>q
  rintro rfl
  rcases hc with rfl | hc
  ·rw [I.free] at e; cases e
  ·rw [I.free] at hc; cases hc
end
structure ExcD (K:PySem.W.Frag) (Dc:Addr):Prop where
 ty:PySem.W.typeIn K (.ref Dc) = some (.type "type")
 cl:(PySem.W.clsIn K Dc).isSome = true
 be:PySem.W.mroIn K Dc (.type "BaseException") = some true
noncomputable abbrev goneAt (D:Ends) (i:Nat):Ends:={ nx:=fun σ H=>D.nx (σ.set i none) H,rt:=D.rt,bk:=fun σ H=>D.bk (σ.set i none) H,ct:=fun σ H=>D.ct (σ.set i none) H }
section
variable {X:Cx} {pins pins':List (Addr × Obj)} {σ:St} {H:Hp} {s':Shared} {E:Value→Shared→Prop} {a C dx Dc:Addr} {i:Nat} {n x:Str} {np hpos:Pos} {b₀:Stmt} {suite:List Stmt} {th:Addr→TS} {D:Ends}
theorem try_xe (hst:X.stack = X.env :: X.outer) (hfrm:X.env.frame = some X.env.locals) (hN:X.N.Nodup) (hi:X.N[i]? = some n) (hk:X.env.scope.names.lookup n = some .local) (hg:Gl X x) (hm:X.mg x = some (.ref Dc)) (hD:ExcD X.K Dc)
  (hs:∀ a,PSs (X.inH a) (b₀ :: suite) (th a)) (I:Inv (X.tr E pins) pins' σ H s') (xa:XAt (X.tr E pins) pins' H s'.heap a C dx) (hb:PySem.W.mroIn X.K C (.ref Dc) = some true)
  (q:∀ oe:Obj,oe.cls = .ref C→oe.dict = some dx→(∀ c,oe.data ≠ .cls c)→th a (goneAt D i) (σ.set i (some (.ref a))) (upd H a (.frz oe (.ext fun _=>True))))
  (hdb:(x == ("__debug__":Str)) = false:=by decide) :
  wpAny (model X.prog X.w) X.A (noteFrame (.ref a) X.env) (fun _ s₂=>wpAny (model X.prog X.w) X.A (setFlight (.ref a) none) (fun _ s₃=>wpAny (model X.prog X.w) X.A (handleBy (.ref a) X.env [.ExceptHandler (some (.Name x np)) (some n) (b₀ :: suite) hpos]) (SP X pins D) X.xe s₃) X.xe s₂) X.xe s':=by
 have I0:Inv X pins σ H s':=I.untr
 obtain ⟨oe,vs,lx,hc,hd,fa,fT⟩:=xa
 have hfr:X.A.frames = some (X.env :: X.outer):=by rw [← hst]; exact I0.ok.frames
 refine note_ok (base:=X.base) hfr (by rw [← hst]; exact I0.stack) hfrm lx fun h' nt=>?_
 obtain ⟨I2,oe2,vs2,lx2,hc2,hd2,fa2,fT2⟩:=I0.noted (h':=h') (by rw [hst]; exact nt) lx hc hd fa.untr fun T z=>(fT T z).untr
 refine PySem.wpAny_handleBy_cons (codeAny_handlers_test ?_) (by intro q; cases q)
 have IH:=I2.inH (a:=a)
 refine ld_glob (X:=X.inH a) IH hg hm ?_ hdb
 refine exc_matches IH.kIn lx2.at_ hc2 hb hD.ty hD.cl hD.be ?_
 refine codeAny_handlers_suite_as ?_
 -- the flight is none already
 have flight:∀ {Q:Unit→Shared→Prop} {E:Value→Shared→Prop},(∀ h3,Inv (X.inH a) pins σ H { s' with heap:=h3 }→h3.get? a = some oe2→Q () { s' with heap:=h3 })→wpAny (model X.prog X.w) (X.inH a).A (setFlight (.ref a) none) Q E { s' with heap:=h' }:=by
  intro Q E hQ
  rcases lx2.tb with t1 | ⟨T,oT,ts,t1,t2,t3,t4,t5⟩
  ·unfold setFlight
   refine wpAny_bind (wpAny_field lx2.at_ lx2.dat t1 ?_)
   rw [if_neg (by decide)]
   exact wpAny_pure (hQ _ IH lx2.at_)
  ·have fT3:=fT2 T t1
   refine wpAny_setFlight_none lx2.at_ lx2.dat t1 t3 t4 (Array.getElem?_eq_some_iff.mp t5).1 (hQ _ ?_ ((Heap.get?_update_other _ _ t2).trans lx2.at_))
   exact Inv.turned (s:={ s' with heap:=h' }) IH (t':=s'.toks) (it:=T) (fun b o hb e=>(Heap.get?_update_other _ _ (Ne.symm hb)).trans e) fT3.1 fT3.2.1 fT3.2.2.2.1 fT3.2.2.2.2.1 fT3.2.2.2.2.2
 refine flight fun h3 I3 ga=>?_
 have f3:FpOk (X.inH a) pins H a:=fa2
 have I4:Inv (X.inH a) pins σ (upd H a (.frz oe2 (.ext fun _=>True))) { s' with heap:=h3 }:=I3.trackO f3 ⟨ga,True.intro,⟨_,ga⟩,fun _ _ _ _=>True.intro⟩
 refine store_ok2 (X:=X.inH a) I4 hN hi (.inl hk) (v:=.ref a) rfl (fun s5 I5 _=>?_) (.inr hk)
 refine wpAny_mono (hs a pins s5 _ _ (goneAt D i) I5 (q oe2 hc2 hd2 fun c z=>by rw [lx2.dat] at z; cases z)) (fun f s6 hf=>?_) fun _ _ z=>False.elim z
 have fin:∀ {σ6:St} {H6:Hp} {Q:Unit→Shared→Prop},Inv (X.inH a) pins σ6 H6 s6→(∀ s7,Inv X pins (σ6.set i none) H6 s7→Q () s7)→wpAny (model X.prog X.w) X.A (do bindName X.env n .none; unbindBehindTheSuite X.env n hpos) Q X.xe s6:=fun I6 hq=>
  name_goes (I6.outH I0.ok.hd) hN hi hk fun s7 I7=>hq s7 I7
 cases f with
 | next=>obtain ⟨σ6,H6,I6,q6⟩:=hf; exact fin I6 fun s7 I7=>⟨_,_,I7,q6⟩
 | brk=>obtain ⟨σ6,H6,I6,q6⟩:=hf; exact fin I6 fun s7 I7=>⟨_,_,I7,q6⟩
 | cont=>obtain ⟨σ6,H6,I6,q6⟩:=hf; exact fin I6 fun s7 I7=>⟨_,_,I7,q6⟩
 | ret u=>obtain ⟨v6,σ6,H6,I6,r6,q6⟩:=hf; exact fin I6 fun s7 I7=>⟨_,_,_,I7,r6,q6⟩
end
noncomputable def tryXe (X:Cx) (pins:List (Addr × Obj)) (D:Ends) (hs:List ExceptHandler):Value→Shared→Prop:=fun e s₁=>
 wpAny (model X.prog X.w) X.A (noteFrame e X.env) (fun _ s₂=>wpAny (model X.prog X.w) X.A (setFlight e none) (fun _ s₃=>wpAny (model X.prog X.w) X.A (handleBy e X.env hs) (SP X pins D) X.xe s₃) X.xe s₂) X.xe s₁
theorem tryXe.passes {X:Cx} {pins:List (Addr × Obj)} {D:Ends} {hs:List ExceptHandler}:PassesOwn (model X.prog X.w) X.A X.env (tryXe X pins D hs):=PassesOwn.looking
theorem ps_try {X:Cx} {h₀:ExceptHandler} {body:List Stmt} {pos:Pos} {tb:(E:Value→Shared→Prop)→List (Addr × Obj)→TS}
  (hb:∀ E pins,PassesOwn (model X.prog X.w) X.A X.env E→PSs (X.tr E pins) body (tb E pins)) :
  PS X (.Try body [h₀] [] [] pos) (fun D σ H=>∀ pins,tb (tryXe X pins D [h₀]) pins D σ H):=by
 intro pins s σ H D I h
 refine wpAny_Try_except ?_
 refine wpAny_mono (hb (tryXe X pins D [h₀]) pins tryXe.passes [] s σ H D I.tr (h pins)) (fun f s1 q=>?_) fun e s1 q=>q
 have q':=SP.untr q
 cases f with
 | next=>exact wpAny_execs_nil q'
 | ret v=>exact q'
 | brk=>exact q'
 | cont=>exact q'
end L2
namespace L3
open PySem L2
inductive PV where
 | non | bl (b:Bool) | int (i:Int) | str (x:Str) | tup (xs:List PV) | cl (xs:List PV) | ref (a:Addr) | ty (n:String) | exc (c:Str) (ks:List Str) (ps:List PV) | cls (c:Str)
noncomputable def SqC (K:PySem.W.Frag) (H:Hp) (a:Addr) (xs:List V):Prop:=
 (∃ o,H a = some (.frz o (.lst xs))) ∨
  ∃ (o:Obj) (its:Array Value) (n:Nat),K.lookup a = some o∧o.cls = .type "list"∧o.dict = none∧o.data = .seq its n∧its.size ≤ sizeLine∧Vals xs its.toList
theorem SqC.sq {K:PySem.W.Frag} {H:Hp} {a:Addr} {xs:List V} (h:SqC K H a xs):SqL K H a xs:=h.elim (fun z=>.inl (.inr z)) .inr
noncomputable def SqX (H:Hp) (a C:Addr) (ks:List Str) (vs:List V):Prop:=
 ∃ oe dx od,H a = some (.frz oe (.ext fun _=>True))∧oe.cls = .ref C∧oe.dict = some dx∧(∀ c,oe.data ≠ .cls c)∧H dx = some (.frz od (.ext (XD dx (ks.zip vs))))
noncomputable def ClsN (K:PySem.W.Frag) (c:Str) (C:Addr):Prop:=PySem.W.nsIn K mainGlobals c = some (some (.ref C))
mutual
inductive Rep (K:PySem.W.Frag) (H:Hp):V→PV→Prop
 | non:Rep K H .non .non
 | bl (b:Bool):Rep K H (.bl b) (.bl b)
 | int (i:Int):Rep K H (.int i) (.int i)
 | str (x:Str):Rep K H (.str x) (.str x)
 | ty (n:String):Rep K H (.ty n) (.ty n)
 | ref (a:Addr):Rep K H (.ref a) (.ref a)
 | tup {a:Addr} {vs:List V} {ps:List PV}:SqT K H a vs→Reps K H vs ps→Rep K H (.ref a) (.tup ps)
 | cl {a:Addr} {vs:List V} {ps:List PV}:SqC K H a vs→Reps K H vs ps→Rep K H (.ref a) (.cl ps)
 | exc {a C:Addr} {c:Str} {ks:List Str} {vs:List V} {ps:List PV}:ClsN K c C→SqX H a C ks vs→Reps K H vs ps→Rep K H (.ref a) (.exc c ks ps)
 | cls {C:Addr} {c:Str}:ClsN K c C→Rep K H (.ref C) (.cls c)
inductive Reps (K:PySem.W.Frag) (H:Hp):List V→List PV→Prop
 | nil:Reps K H [] []
 | cons {v:V} {p:PV} {vs:List V} {ps:List PV}:Rep K H v p→Reps K H vs ps→Reps K H (v :: vs) (p :: ps)
end
structure Grow (K:PySem.W.Frag) (H H':Hp):Prop where
 t:∀ a vs,SqT K H a vs→SqT K H' a vs
 c:∀ a vs,SqC K H a vs→SqC K H' a vs
 x:∀ a o u,H a = some (.frz o u)→H' a = some (.frz o u)
theorem Grow.refl {K:PySem.W.Frag} {H:Hp}:Grow K H H:=⟨fun _ _ h=>h,fun _ _ h=>h,fun _ _ _ h=>h⟩
theorem Grow.trans {K:PySem.W.Frag} {H H1 H2:Hp} (a:Grow K H H1) (b:Grow K H1 H2):Grow K H H2:=⟨fun x vs h=>b.t x vs (a.t x vs h),fun x vs h=>b.c x vs (a.c x vs h),fun x o u h=>b.x x o u (a.x x o u h)⟩
theorem SqX.mono {K:PySem.W.Frag} {H H':Hp} (g:Grow K H H') {a C:Addr} {ks:List Str} {vs:List V} (h:SqX H a C ks vs):SqX H' a C ks vs:=let ⟨oe,dx,od,h1,h2,h3,h4,h5⟩:=h; ⟨oe,dx,od,g.x _ _ _ h1,h2,h3,h4,g.x _ _ _ h5⟩
theorem Grow.of {K:PySem.W.Frag} {H H':Hp} (h:∀ a xs,H a = some (.tup xs)→H' a = some (.tup xs)) (h2:∀ a o u,H a = some (.frz o u)→H' a = some (.frz o u)):Grow K H H':=by
 refine ⟨fun a vs q=>?_,fun a vs q=>?_,h2⟩
 ·rcases q with (q | ⟨o,q⟩) | q
  ·exact .inl (.inl (h a vs q))
  ·exact .inl (.inr ⟨o,h2 a o _ q⟩)
  ·exact .inr q
 ·rcases q with ⟨o,q⟩ | q
  ·exact .inl ⟨o,h2 a o _ q⟩
  ·exact .inr q
theorem Grow.same {K:PySem.W.Frag} {H H':Hp} (h:∀ c o,H c = some o→H' c = some o):Grow K H H':=.of (fun a _ q=>h a _ q) (fun a _ _ q=>h a _ q)
theorem Grow.new {K:PySem.W.Frag} {H:Hp} {p:Addr} {o:HO} (h:H p = none):Grow K H (upd H p o):=.same fun c u q=>by rw [upd_ne (ne_of_none q h)]; exact q
noncomputable def Mu:HO→Prop
 | .tup _=>False
 | .frz _ _=>False
 | _=>True
theorem Grow.mut {K:PySem.W.Frag} {H:Hp} {p:Addr} {o u:HO} (h:H p = some u) (m:Mu u):Grow K H (upd H p o):=
 .of (fun a xs q=>by rw [upd_ne (fun e=>by subst e; rw [h] at q; cases q; exact m)]; exact q) (fun a _ _ q=>by rw [upd_ne (fun e=>by subst e; rw [h] at q; cases q; exact m)]; exact q)
mutual
theorem Rep.mono {K:PySem.W.Frag} {H H':Hp} (g:Grow K H H'):∀ {v:V} {p:PV},Rep K H v p→Rep K H' v p
 | _,_,.non=>.non
 | _,_,.bl b=>.bl b
 | _,_,.int i=>.int i
 | _,_,.str x=>.str x
 | _,_,.ty n=>.ty n
 | _,_,.ref a=>.ref a
 | _,_,.tup h r=>.tup (g.t _ _ h) (Reps.mono g r)
 | _,_,.cl h r=>.cl (g.c _ _ h) (Reps.mono g r)
 | _,_,.exc n h r=>.exc n (h.mono g) (Reps.mono g r)
 | _,_,.cls n=>.cls n
theorem Reps.mono {K:PySem.W.Frag} {H H':Hp} (g:Grow K H H'):∀ {vs:List V} {ps:List PV},Reps K H vs ps→Reps K H' vs ps
 | _,_,.nil=>.nil
 | _,_,.cons a r=>.cons (Rep.mono g a) (Reps.mono g r)
end
theorem Reps.length {K:PySem.W.Frag} {H:Hp}:∀ {vs:List V} {ps:List PV},Reps K H vs ps→vs.length = ps.length
 | _,_,.nil=>rfl
 | _,_,.cons _ r=>by rw [List.length_cons,List.length_cons,Reps.length r]
theorem Reps.append {K:PySem.W.Frag} {H:Hp}:∀ {vs us:List V} {ps qs:List PV},Reps K H vs ps→Reps K H us qs→Reps K H (vs ++ us) (ps ++ qs)
 | _,_,_,_,.nil,s=>s
 | _,_,_,_,.cons a r,s=>.cons a (Reps.append r s)
theorem Reps.get {K:PySem.W.Frag} {H:Hp}:∀ {vs:List V} {ps:List PV} {i:Nat} {p:PV},Reps K H vs ps→ps[i]? = some p→∃ v,vs[i]? = some v∧Rep K H v p
 | _,_,_,_,.nil,e=>by simp at e
 | _,_,0,_,.cons a r,e=>by simp at e; subst e; exact ⟨_,rfl,a⟩
 | _,_,i + 1,p,.cons a r,e=>by
  obtain ⟨v,h1,h2⟩:=Reps.get (i:=i) (p:=p) r (by simpa using e)
  exact ⟨v,by simpa using h1,h2⟩
theorem Reps.take {K:PySem.W.Frag} {H:Hp}:∀ {vs:List V} {ps:List PV} (n:Nat),Reps K H vs ps→Reps K H (vs.take n) (ps.take n)
 | _,_,0,_=>.nil
 | _,_,_ + 1,.nil=>.nil
 | _,_,n + 1,.cons a r=>.cons a (Reps.take n r)
theorem Reps.drop {K:PySem.W.Frag} {H:Hp}:∀ {vs:List V} {ps:List PV} (n:Nat),Reps K H vs ps→Reps K H (vs.drop n) (ps.drop n)
 | _,_,0,r=>r
 | _,_,_ + 1,.nil=>.nil
 | _,_,n + 1,.cons _ r=>Reps.drop n r
theorem Reps.set {K:PySem.W.Frag} {H:Hp} {v:V} {p:PV} (q:Rep K H v p):∀ {vs:List V} {ps:List PV} (n:Nat),Reps K H vs ps→Reps K H (vs.set n v) (ps.set n p)
 | _,_,_,.nil=>.nil
 | _,_,0,.cons _ r=>.cons q r
 | _,_,n + 1,.cons a r=>.cons a (Reps.set q n r)
theorem Reps.eraseIdx {K:PySem.W.Frag} {H:Hp}:∀ {vs:List V} {ps:List PV} (n:Nat),Reps K H vs ps→Reps K H (vs.eraseIdx n) (ps.eraseIdx n)
 | _,_,_,.nil=>.nil
 | _,_,0,.cons _ r=>r
 | _,_,n + 1,.cons a r=>.cons a (Reps.eraseIdx n r)
theorem Reps.reverse {K:PySem.W.Frag} {H:Hp}:∀ {vs:List V} {ps:List PV},Reps K H vs ps→Reps K H vs.reverse ps.reverse
 | _,_,.nil=>.nil
 | _,_,.cons a r=>by rw [List.reverse_cons,List.reverse_cons]; exact (Reps.reverse r).append (.cons a .nil)
theorem Reps.dropLast {K:PySem.W.Frag} {H:Hp} {vs:List V} {ps:List PV} (r:Reps K H vs ps):Reps K H vs.dropLast ps.dropLast:=by
 rw [List.dropLast_eq_take,List.dropLast_eq_take,r.length]
 exact r.take _
inductive SO where
 | lst (xs:List PV)
 | dct (kvs:List (Key × PV))
 | ins (c:Str) (fs:List (Str × PV))
noncomputable abbrev Sto:=Addr→Option SO
noncomputable def upd3 (S:Sto) (a:Addr) (o:SO):Sto:=fun b=>if b = a then some o else S b
theorem upd3_same {S:Sto} {a:Addr} {o:SO}:upd3 S a o a = some o:=by unfold upd3; rw [if_pos rfl]
theorem upd3_ne {S:Sto} {a b:Addr} {o:SO} (h:b ≠ a):upd3 S a o b = S b:=by unfold upd3; rw [if_neg h]
theorem upd3_upd3 {S:Sto} {a:Addr} {o u:SO}:upd3 (upd3 S a o) a u = upd3 S a u:=by
 funext b; unfold upd3; split <;> rfl
inductive RepP (K:PySem.W.Frag) (H:Hp) {κ:Type}:List (κ × V)→List (κ × PV)→Prop
 | nil:RepP K H [] []
 | cons {k:κ} {v:V} {p:PV} {vs:List (κ × V)} {ps:List (κ × PV)}:Rep K H v p→RepP K H vs ps→RepP K H ((k,v) :: vs) ((k,p) :: ps)
theorem RepP.mono {K:PySem.W.Frag} {H H':Hp} (g:Grow K H H') {κ:Type}:∀ {vs:List (κ × V)} {ps:List (κ × PV)},RepP K H vs ps→RepP K H' vs ps
 | _,_,.nil=>.nil
 | _,_,.cons a r=>.cons (a.mono g) (RepP.mono g r)
theorem RepP.length {K:PySem.W.Frag} {H:Hp} {κ:Type}:∀ {vs:List (κ × V)} {ps:List (κ × PV)},RepP K H vs ps→vs.length = ps.length
 | _,_,.nil=>rfl
 | _,_,.cons _ r=>by rw [List.length_cons,List.length_cons,RepP.length r]
noncomputable def RepO (K:PySem.W.Frag) (H:Hp) (a:Addr):SO→Prop
 | .lst xs=>∃ vs,H a = some (.lst vs)∧Reps K H vs xs
 | .dct kvs=>∃ kv,H a = some (.dK kv)∧RepP K H kv kvs
 | .ins c fs=>∃ C dx f',ClsN K c C∧H a = some (.ins C dx f')∧RepP K H f' fs
theorem RepO.stay {K:PySem.W.Frag} {H H':Hp} (g:Grow K H H') {a:Addr} (e:H' a = H a):∀ {o:SO},RepO K H a o→RepO K H' a o
 | .lst _,⟨vs,h,r⟩=>⟨vs,e.trans h,r.mono g⟩
 | .dct _,⟨vs,h,r⟩=>⟨vs,e.trans h,r.mono g⟩
 | .ins _ _,⟨C,dx,vs,n,h,r⟩=>⟨C,dx,vs,n,e.trans h,r.mono g⟩
theorem RepO.some {K:PySem.W.Frag} {H:Hp} {a:Addr}:∀ {o:SO},RepO K H a o→∃ u,H a = Option.some u∧Mu u
 | .lst _,⟨_,h,_⟩=>⟨_,h,trivial⟩
 | .dct _,⟨_,h,_⟩=>⟨_,h,trivial⟩
 | .ins _ _,⟨_,_,_,_,h,_⟩=>⟨_,h,trivial⟩
noncomputable def RepS (K:PySem.W.Frag) (H:Hp) (S:Sto):Prop:=∀ a o,S a = some o→RepO K H a o
theorem RepS.free {K:PySem.W.Frag} {H:Hp} {S:Sto} (r:RepS K H S) {p:Addr} (h:H p = none):S p = none:=by
 cases e:S p with
 | none=>rfl
 | some o=>
  obtain ⟨u,q,_⟩:=(r p o e).some
  rw [h] at q; cases q
theorem RepS.grow {K:PySem.W.Frag} {H H':Hp} {S:Sto} (r:RepS K H S) (h:∀ c o,H c = some o→H' c = some o):RepS K H' S:=fun a o e=>by
 obtain ⟨u,q,_⟩:=(r a o e).some
 exact (r a o e).stay (.same h) ((h a u q).trans q.symm)
theorem RepS.other {K:PySem.W.Frag} {H:Hp} {S:Sto} (r:RepS K H S) {p:Addr} {o:HO} (h:H p = none):RepS K (upd H p o) S:=r.grow fun c u q=>by rw [upd_ne (ne_of_none q h)]; exact q
theorem RepS.new {K:PySem.W.Frag} {H:Hp} {S:Sto} (r:RepS K H S) {p:Addr} {u:HO} {o:SO} (h:H p = none) (q:RepO K (upd H p u) p o):RepS K (upd H p u) (upd3 S p o):=fun a x e=>by
 by_cases z:a = p
 ·subst z; rw [upd3_same] at e; cases e; exact q
 ·rw [upd3_ne z] at e; exact (r a x e).stay (.new h) (upd_ne z)
theorem RepS.put {K:PySem.W.Frag} {H:Hp} {S:Sto} (r:RepS K H S) {p:Addr} {u0 u:HO} {o:SO} (h:H p = some u0) (m:Mu u0) (q:RepO K (upd H p u) p o):RepS K (upd H p u) (upd3 S p o):=fun a x e=>by
 by_cases z:a = p
 ·subst z; rw [upd3_same] at e; cases e; exact q
 ·rw [upd3_ne z] at e; exact (r a x e).stay (.mut h m) (upd_ne z)
noncomputable abbrev St3:=List (Option PV)
noncomputable def lk:St3→Nat→Option PV
 | [],_=>none
 | x :: _,0=>x
 | _ :: r,i + 1=>lk r i
theorem lk_get {σ:St3} {i:Nat} {p:PV} (h:lk σ i = some p):σ[i]? = some (some p):=by
 induction σ generalizing i with
 | nil=>cases h
 | cons x r ih=>
  cases i with
  | zero=>exact congrArg some h
  | succ i=>exact ih h
structure RepSt (K:PySem.W.Frag) (H:Hp) (σ:St) (σ3:St3):Prop where
 len:σ.length = σ3.length
 at':∀ (i:Nat) (p:PV),σ3[i]? = some (some p)→∃ v,σ[i]? = some (some v)∧Rep K H v p
theorem RepSt.mono {K:PySem.W.Frag} {H H':Hp} {σ:St} {σ3:St3} (r:RepSt K H σ σ3) (g:Grow K H H'):RepSt K H' σ σ3:=⟨r.len,fun i p e=>let ⟨v,h,q⟩:=r.at' i p e; ⟨v,h,q.mono g⟩⟩
theorem RepSt.set {K:PySem.W.Frag} {H:Hp} {σ:St} {σ3:St3} (r:RepSt K H σ σ3) {v:V} {p:PV} (q:Rep K H v p) (i:Nat):RepSt K H (σ.set i (some v)) (σ3.set i (some p)):=by
 refine ⟨by rw [List.length_set,List.length_set,r.len],fun j x e=>?_⟩
 rw [List.getElem?_set] at e ⊢
 split at e
 ·rename_i hij
  rw [if_pos hij]
  subst hij
  split at e
  ·rename_i hl
   cases e
   rw [if_pos (by rw [r.len]; exact hl)]
   exact ⟨v,rfl,q⟩
  ·cases e
 ·rename_i hij
  rw [if_neg hij]
  exact r.at' j x e
noncomputable abbrev VK3:=PV→Sto→Prop
noncomputable abbrev XK3:=PV→St3→Sto→Prop
noncomputable abbrev TE3:=St3→Sto→VK3→XK3→Prop
noncomputable abbrev TT3:=St3→Sto→(Bool→Sto→Prop)→XK3→Prop
noncomputable abbrev TA3:=St3→Sto→(List PV→Sto→Prop)→XK3→Prop
noncomputable abbrev TG3:=PV→St3→Sto→(St3→Sto→Prop)→XK3→Prop
structure Ends3 where
 nx:St3→Sto→Prop
 rt:VK3
 ex:XK3
 bk:St3→Sto→Prop:=fun _ _=>False
 ct:St3→Sto→Prop:=fun _ _=>False
noncomputable abbrev TS3:=Ends3→St3→Sto→Prop
noncomputable def XOk (X:Cx) (H:Hp) (E:XK3):Prop:=∀ (c:Str) (ks:List Str) (ps:List PV) (σ3:St3) (S':Sto) (H':Hp) (pins:List (Addr × Obj)) (σ:St) (s':Shared) (a C dx:Addr) (od:Obj) (vs:List V),E (.exc c ks ps) σ3 S'→ClsN X.K c C→vs.length = ks.length→
 H' dx = some (.frz od (.ext (XD dx (ks.zip vs))))→Reps X.K H' vs ps→RepS X.K H' S'→RepSt X.K H' σ σ3→Grow X.K H H'→Inv X pins σ H' s'→XAt X pins H' s'.heap a C dx→X.xe (.ref a) s'
theorem XOk.mono {X:Cx} {H H':Hp} {E:XK3} (x:XOk X H E) (g:Grow X.K H H'):XOk X H' E:=fun c ks ps σ3 S' H2 pins σ s' a C dx od vs h1 h2 h3 h4 h5 h6 h7 h8 h9 h10=>x c ks ps σ3 S' H2 pins σ s' a C dx od vs h1 h2 h3 h4 h5 h6 h7 (g.trans h8) h9 h10
noncomputable def Ret (K:PySem.W.Frag) (H:Hp) (Q3:VK3) (Q:VK):Prop:=∀ p S' v H',Q3 p S'→Rep K H' v p→RepS K H' S'→Grow K H H'→Q v H'
theorem Ret.mono {K:PySem.W.Frag} {H H':Hp} {Q3:VK3} {Q:VK} (r:Ret K H Q3 Q) (g:Grow K H H'):Ret K H' Q3 Q:=fun p S' v H2 h1 h2 h3 h4=>r p S' v H2 h1 h2 h3 (g.trans h4)
noncomputable def Nxt (K:PySem.W.Frag) (H:Hp) (N3:St3→Sto→Prop) (N:St→Hp→Prop):Prop:=∀ σ3 S' σ H',N3 σ3 S'→RepSt K H' σ σ3→RepS K H' S'→Grow K H H'→N σ H'
theorem Nxt.mono {K:PySem.W.Frag} {H H':Hp} {Q3:St3→Sto→Prop} {Q:St→Hp→Prop} (r:Nxt K H Q3 Q) (g:Grow K H H'):Nxt K H' Q3 Q:=fun p S' v H2 h1 h2 h3 h4=>r p S' v H2 h1 h2 h3 (g.trans h4)
noncomputable def LE (X:Cx) (t:TE3):TE:=fun σ H Q=>∃ σ3 S Q3 E3,RepSt X.K H σ σ3∧RepS X.K H S∧t σ3 S Q3 E3∧XOk X H E3∧Ret X.K H Q3 Q
noncomputable def LT (X:Cx) (t:TT3):TT:=fun σ H Q=>∃ σ3 S Q3 E3,RepSt X.K H σ σ3∧RepS X.K H S∧t σ3 S Q3 E3∧XOk X H E3∧∀ b S' H',Q3 b S'→RepS X.K H' S'→Grow X.K H H'→Q b H'
noncomputable def LA (X:Cx) (t:TA3):TA:=fun σ H Q=>∃ σ3 S Q3 E3,RepSt X.K H σ σ3∧RepS X.K H S∧t σ3 S Q3 E3∧XOk X H E3∧∀ ps S' vs H',Q3 ps S'→Reps X.K H' vs ps→RepS X.K H' S'→Grow X.K H H'→Q vs H'
noncomputable def LG (X:Cx) (t:TG3):TG:=fun v σ H Q=>∃ p σ3 S Q3 E3,Rep X.K H v p∧RepSt X.K H σ σ3∧RepS X.K H S∧t p σ3 S Q3 E3∧XOk X H E3∧Nxt X.K H Q3 Q
noncomputable def LS (X:Cx) (t:TS3):TS:=fun D σ H=>∃ σ3 S D3,RepSt X.K H σ σ3∧RepS X.K H S∧t D3 σ3 S∧XOk X H D3.ex∧Nxt X.K H D3.nx D.nx∧Ret X.K H D3.rt D.rt∧Nxt X.K H D3.bk D.bk∧Nxt X.K H D3.ct D.ct
structure PE3 (X:Cx) (e:Expr) (t:TE3):Prop where
 ok:PE X e (LE X t)
structure PT3 (X:Cx) (e:Expr) (t:TT3):Prop where
 ok:PT X e (LT X t)
structure PW3 (X:Cx) (e:Expr) (t:TT3):Prop where
 ok:PW X e (LT X t)
structure PA3 (X:Cx) (es:List Expr) (t:TA3):Prop where
 ok:PA X es (LA X t)
structure PG3 (X:Cx) (e:Expr) (t:TG3):Prop where
 ok:PG X e (LG X t)
structure PS3 (X:Cx) (st:Stmt) (t:TS3):Prop where
 ok:PS X st (LS X t)
structure PSs3 (X:Cx) (st:List Stmt) (t:TS3):Prop where
 ok:PSs X st (LS X t)
theorem PE_imp {X:Cx} {e:Expr} {t t':TE} (h:PE X e t) (k:∀ σ H Q,t' σ H Q→t σ H Q):PE X e t':=fun pins s σ H Q I q=>h pins s σ H Q I (k σ H Q q)
theorem PT_imp {X:Cx} {e:Expr} {t t':TT} (h:PT X e t) (k:∀ σ H Q,t' σ H Q→t σ H Q):PT X e t':=fun pins s σ H Q I q=>h pins s σ H Q I (k σ H Q q)
theorem PW_imp {X:Cx} {e:Expr} {t t':TT} (h:PW X e t) (k:∀ σ H Q,t' σ H Q→t σ H Q):PW X e t':=fun wh pins s σ H Q I q=>h wh pins s σ H Q I (k σ H Q q)
theorem PS_imp {X:Cx} {e:Stmt} {t t':TS} (h:PS X e t) (k:∀ D σ H,t' D σ H→t D σ H):PS X e t':=fun pins s σ H D I q=>h pins s σ H D I (k D σ H q)
theorem PSs_imp {X:Cx} {e:List Stmt} {t t':TS} (h:PSs X e t) (k:∀ D σ H,t' D σ H→t D σ H):PSs X e t':=fun pins s σ H D I q=>h pins s σ H D I (k D σ H q)
section
variable {X:Cx} {a b c e o:Expr} {es:List Expr} {ta tb tc te:TE3} {pos:Pos}
noncomputable def v3 (i:Nat):TE3:=fun σ S Q _=>match lk σ i with | some p=>Q p S | none=>False
theorem e3v (i:Nat) {x:Str} (hN:X.N[i]? = some x:=by rfl) (hv:Vis X.env.scope x:=by first | exact Or.inl rfl | exact Or.inr (Or.inl rfl) | exact Or.inr (Or.inr rfl)) (hd:(x == ("__debug__":Str)) = false:=by decide)
  (hcd:(x == ("__classdict__":Str)) = false:=by decide):PE3 X (.Name x pos) (v3 i):=
 ⟨PE_imp (pe_var hN hv hd hcd) fun σ H Q ⟨σ3,S,Q3,E3,rσ,rS,h,xo,k⟩=>by
  unfold v3 at h
  split at h
  ·rename_i p e
   obtain ⟨v,ev,rv⟩:=rσ.at' i p (lk_get e)
   exact ⟨v,ev,k p S v H h rv rS .refl⟩
  ·exact h.elim⟩
noncomputable def c3 (p:PV):TE3:=fun _ S Q _=>Q p S
theorem e3int {i:Int} {j:Nat}:PE3 X (.Constant (.int i) j pos) (c3 (.int i)):=⟨PE_imp pe_int fun σ H Q ⟨σ3,S,Q3,E3,rσ,rS,h,xo,k⟩=>k _ S _ H h (.int i) rS .refl⟩
theorem e3bl {i:Bool} {j:Nat}:PE3 X (.Constant (.bool i) j pos) (c3 (.bl i)):=⟨PE_imp pe_bl fun σ H Q ⟨σ3,S,Q3,E3,rσ,rS,h,xo,k⟩=>k _ S _ H h (.bl i) rS .refl⟩
theorem e3str {i:Str} {j:Nat}:PE3 X (.Constant (.str i) j pos) (c3 (.str i)):=⟨PE_imp pe_str fun σ H Q ⟨σ3,S,Q3,E3,rσ,rS,h,xo,k⟩=>k _ S _ H h (.str i) rS .refl⟩
theorem e3non {j:Nat}:PE3 X (.Constant .none j pos) (c3 .non):=⟨PE_imp pe_non fun σ H Q ⟨σ3,S,Q3,E3,rσ,rS,h,xo,k⟩=>k _ S _ H h .non rS .refl⟩
theorem e3ty {x:Str} {n:String} (hg:Gl X x) (hm:X.mg x = none) (hv:bootBuiltins x = some (.type n)) (hn:x ≠ "__name__":=by decide) (hd:(x == ("__debug__":Str)) = false:=by decide):PE3 X (.Name x pos) (c3 (.ty n)):=
 ⟨PE_imp (pe_bltn (v:=.ty n) hg hm hv rfl hn hd) fun σ H Q ⟨σ3,S,Q3,E3,rσ,rS,h,xo,k⟩=>k _ S _ H h (.ty n) rS .refl⟩
noncomputable def args3:List TE3→TA3
 | [],_,S,Q,_=>Q [] S
 | t :: ts,σ,S,Q,E=>t σ S (fun x S1=>args3 ts σ S1 (fun xs S2=>Q (x :: xs) S2) E) E
noncomputable def tl2:List TE→TA
 | []=>tNil
 | t :: ts=>tCons t (tl2 ts)
structure PL3 (X:Cx) (es:List Expr) (ts:List TE3):Prop where
 ok:PA X es (tl2 (ts.map (LE X)))
theorem l3nil:PL3 X [] []:=⟨pa_nil⟩
theorem l3cons {ts:List TE3} (hs:starEach (e :: es) X.env = (false,eval e X.env) :: starEach es X.env) (ha:PE3 X e te) (hr:PL3 X es ts):PL3 X (e :: es) (te :: ts):=⟨pa_cons ha.ok hr.ok hs⟩
theorem lift_args:∀ {ts:List TE3} {σ:L2.St} {H:Hp} {Q:List V→Hp→Prop} {σ3:St3} {S:Sto} {Q3:List PV→Sto→Prop} {E3:XK3},RepSt X.K H σ σ3→RepS X.K H S→args3 ts σ3 S Q3 E3→XOk X H E3→
  (∀ ps S' vs H',ps.length = ts.length→Q3 ps S'→Reps X.K H' vs ps→RepS X.K H' S'→Grow X.K H H'→Q vs H')→tl2 (ts.map (LE X)) σ H Q
 | [],σ,H,Q,σ3,S,Q3,E3,rσ,rS,h,xo,k=>k [] S [] H rfl h .nil rS .refl
 | t :: ts,σ,H,Q,σ3,S,Q3,E3,rσ,rS,h,xo,k=>
  ⟨σ3,S,_,E3,rσ,rS,h,xo,fun p S1 v H1 h1 rv rS1 g1=>lift_args (rσ.mono g1) rS1 h1 (xo.mono g1) fun ps S2 vs H2 hl h2 rvs rS2 g2=>k (p :: ps) S2 (v :: vs) H2 (by rw [List.length_cons,List.length_cons,hl]) h2 (.cons (rv.mono g2) rvs) rS2 (g1.trans g2)⟩
noncomputable def tup3 (ts:List TE3):TE3:=fun σ S Q E=>args3 ts σ S (fun xs S1=>Q (.tup xs) S1) E
theorem e3tup {ts:List TE3} {x1:Nat} (h:PL3 X es ts) (hn:ts.length ≤ 1000:=by exact Nat.le_of_ble_eq_true rfl):PE3 X (.Tuple es x1 pos) (tup3 ts):=
 ⟨PE_imp (pe_tup h.ok) fun σ H Q ⟨σ3,S,Q3,E3,rσ,rS,hq,xo,k⟩=>lift_args rσ rS hq xo fun ps S' vs H' hl q rv rS' g=>
  ⟨Nat.le_of_lt (small1000 (by rw [rv.length,hl]; exact hn)),fun p hp=>k _ S' _ _ q (.tup (SqT.of upd_same) (rv.mono (.new hp))) (rS'.other hp) (g.trans (.new hp))⟩⟩
noncomputable def lst3 (ts:List TE3):TE3:=fun σ S Q E=>args3 ts σ S (fun xs S1=>∀ p,S1 p = none→Q (.ref p) (upd3 S1 p (.lst xs))) E
theorem e3lst {ts:List TE3} (h:PL3 X es ts) (hn:ts.length ≤ 1000:=by exact Nat.le_of_ble_eq_true rfl):PE3 X (.List es pos) (lst3 ts):=
 ⟨PE_imp (pe_lst h.ok) fun σ H Q ⟨σ3,S,Q3,E3,rσ,rS,hq,xo,k⟩=>lift_args rσ rS hq xo fun ps S' vs H' hl q rv rS' g=>
  ⟨Nat.le_of_lt (small1000 (by rw [rv.length,hl]; exact hn)),fun p hp=>k _ _ _ _ (q p (rS'.free hp)) (.ref p) (rS'.new hp ⟨vs,upd_same,rv.mono (.new hp)⟩) (g.trans (.new hp))⟩⟩
noncomputable abbrev R3:=PV→PV→Sto→VK3→Prop
noncomputable def LR (X:Cx) (r:R3):R2:=fun x y H Q=>∃ px py S Q3,Rep X.K H x px∧Rep X.K H y py∧RepS X.K H S∧r px py S Q3∧Ret X.K H Q3 Q
structure Op3 (X:Cx) (f:Value→Value→Sem Value) (r:R3):Prop where
 ok:OpR X f (LR X r)
noncomputable def op3 (r:R3) (ta tb:TE3):TE3:=fun σ S Q E=>ta σ S (fun x S1=>tb σ S1 (fun y S2=>r x y S2 Q) E) E
theorem lift_op {r:R3} {σ:L2.St} {H:Hp} {Q:VK}:LE X (op3 r ta tb) σ H Q→tOp (LR X r) (LE X ta) (LE X tb) σ H Q:=fun ⟨σ3,S,Q3,E3,rσ,rS,h,xo,k⟩=>
 ⟨σ3,S,_,E3,rσ,rS,h,xo,fun x S1 v H1 h1 rx rS1 g1=>⟨σ3,S1,_,E3,rσ.mono g1,rS1,h1,xo.mono g1,fun y S2 u H2 h2 ry rS2 g2=>⟨x,y,S2,Q3,rx.mono g2,ry,rS2,h2,k.mono (g1.trans g2)⟩⟩⟩
theorem e3op {op:Operator} {r:R3} (ho:Op3 X (binaryOp op) r) (ha:PE3 X a ta) (hb:PE3 X b tb):PE3 X (.BinOp a op b pos) (op3 r ta tb):=⟨PE_imp (pe_op ho.ok ha.ok hb.ok) fun _ _ _=>lift_op⟩
theorem e3cmp {op:CmpOp} {r:R3} (ho:Op3 X (compareOp op) r) (ha:PE3 X a ta) (hb:PE3 X b tb) (hm:behindInMarks op b = false):PE3 X (.Compare a [op] [b] pos) (op3 r ta tb):=⟨PE_imp (pe_cmpR ho.ok ha.ok hb.ok hm) fun _ _ _=>lift_op⟩
noncomputable def tst (t:TE3):TT3:=fun σ S Q E=>t σ S (fun v S'=>match v with | .bl k=>Q k S' | _=>False) E
theorem lift_tst {σ:L2.St} {H:Hp} {Q:Bool→Hp→Prop}:LT X (tst te) σ H Q→LE X te σ H (fun x H'=>∃ k,x = .bl k∧Q k H'):=fun ⟨σ3,S,Q3,E3,rσ,rS,h,xo,k⟩=>
 ⟨σ3,S,_,E3,rσ,rS,h,xo,fun p S' v H' h1 rv rS' g=>by
  cases p with
  | bl z=>cases rv; exact ⟨z,rfl,k z S' H' h1 rS' g⟩
  | _=>exact h1.elim⟩
theorem t3cmp {op:CmpOp} {r:R3} (ho:Op3 X (compareOp op) r) (ha:PE3 X a ta) (hb:PE3 X b tb) (hm:behindInMarks op b = false):PT3 X (.Compare a [op] [b] pos) (tst (op3 r ta tb)):=
 ⟨PT_imp (pt_cmpR ho.ok ha.ok hb.ok hm) fun σ H Q ⟨σ3,S,Q3,E3,rσ,rS,h,xo,k⟩=>lift_op ⟨σ3,S,_,E3,rσ,rS,h,xo,fun p S' v H' h1 rv rS' g=>by
  cases p with
  | bl z=>cases rv; exact ⟨z,rfl,k z S' H' h1 rS' g⟩
  | _=>exact h1.elim⟩⟩
theorem t3val (h:PE3 X e te) (he:∀ whole,isTrue e X.env whole = (do let v ← whole; standAt e.pos; holding [v] (truthy v)):=by intro _; rfl):PT3 X e (tst te):=
 ⟨PT_imp (pt_val h.ok he) fun σ H Q q=>lift_tst q⟩
end
section
variable {X:Cx} {a b c:Expr} {rest:List Expr} {ta tb te:TE3} {tA tB:TT3} {pos:Pos}
noncomputable def and3 (t u:TT3):TT3:=fun σ S Q E=>t σ S (fun c S1=>if c = true then u σ S1 Q E else Q false S1) E
noncomputable def or3 (t u:TT3):TT3:=fun σ S Q E=>t σ S (fun c S1=>if c = true then Q true S1 else u σ S1 Q E) E
noncomputable def not3 (t:TT3):TT3:=fun σ S Q E=>t σ S (fun c S1=>Q (!c) S1) E
theorem w3and1 (ha:PT3 X a tA):PW3 X (.BoolOp .And [a] pos) tA:=⟨pw_and1 ha.ok⟩
theorem w3or1 (ha:PT3 X a tA):PW3 X (.BoolOp .Or [a] pos) tA:=⟨pw_or1 ha.ok⟩
theorem w3and (ha:PT3 X a tA) (hb:PW3 X (.BoolOp .And (b :: rest) pos) tB):PW3 X (.BoolOp .And (a :: b :: rest) pos) (and3 tA tB):=
 ⟨PW_imp (pw_and ha.ok hb.ok) fun σ H Q ⟨σ3,S,Q3,E3,rσ,rS,h,xo,k⟩=>⟨σ3,S,_,E3,rσ,rS,h,xo,fun c S1 H1 h1 rS1 g1=>by
  cases c with
  | true=>rw [if_pos rfl] at h1 ⊢; exact ⟨σ3,S1,Q3,E3,rσ.mono g1,rS1,h1,xo.mono g1,fun b S2 H2 h2 rS2 g2=>k b S2 H2 h2 rS2 (g1.trans g2)⟩
  | false=>rw [if_neg (by decide)] at h1 ⊢; exact k false S1 H1 h1 rS1 g1⟩⟩
theorem w3or (ha:PT3 X a tA) (hb:PW3 X (.BoolOp .Or (b :: rest) pos) tB):PW3 X (.BoolOp .Or (a :: b :: rest) pos) (or3 tA tB):=
 ⟨PW_imp (pw_or ha.ok hb.ok) fun σ H Q ⟨σ3,S,Q3,E3,rσ,rS,h,xo,k⟩=>⟨σ3,S,_,E3,rσ,rS,h,xo,fun c S1 H1 h1 rS1 g1=>by
  cases c with
  | true=>rw [if_pos rfl] at h1 ⊢; exact k true S1 H1 h1 rS1 g1
  | false=>rw [if_neg (by decide)] at h1 ⊢; exact ⟨σ3,S1,Q3,E3,rσ.mono g1,rS1,h1,xo.mono g1,fun b S2 H2 h2 rS2 g2=>k b S2 H2 h2 rS2 (g1.trans g2)⟩⟩⟩
theorem t3w (h:PW3 X a tA):PT3 X a tA:=⟨h.ok.pt⟩
theorem t3not (ha:PT3 X a tA):PT3 X (.UnaryOp .Not a pos) (not3 tA):=
 ⟨PT_imp (pt_not ha.ok) fun σ H Q ⟨σ3,S,Q3,E3,rσ,rS,h,xo,k⟩=>⟨σ3,S,_,E3,rσ,rS,h,xo,fun c S1 H1 h1 rS1 g1=>k (!c) S1 H1 h1 rS1 g1⟩⟩
noncomputable def andv3 (t u:TE3):TE3:=fun σ S Q E=>t σ S (fun v S1=>match v with | .bl c=>if c = true then u σ S1 Q E else Q (.bl false) S1 | _=>False) E
noncomputable def orv3 (t u:TE3):TE3:=fun σ S Q E=>t σ S (fun v S1=>match v with | .bl c=>if c = true then Q (.bl true) S1 else u σ S1 Q E | _=>False) E
noncomputable def notv3 (t:TE3):TE3:=fun σ S Q E=>t σ S (fun v S1=>match v with | .bl c=>Q (.bl (!c)) S1 | _=>False) E
theorem e3not (ha:PE3 X a ta):PE3 X (.UnaryOp .Not a pos) (notv3 ta):=
 ⟨PE_imp (pe_not ha.ok) fun σ H Q ⟨σ3,S,Q3,E3,rσ,rS,h,xo,k⟩=>⟨σ3,S,_,E3,rσ,rS,h,xo,fun p S1 v H1 h1 rv rS1 g1=>by
  cases p with
  | bl z=>cases rv; exact ⟨z,rfl,k _ S1 _ H1 h1 (.bl _) rS1 g1⟩
  | _=>exact h1.elim⟩⟩
noncomputable def ife3 (t:TT3) (ta tb:TE3):TE3:=fun σ S Q E=>t σ S (fun c S1=>if c = true then ta σ S1 Q E else tb σ S1 Q E) E
theorem e3ife (hc:PT3 X c tA) (ha:PE3 X a ta) (hb:PE3 X b tb):PE3 X (.IfExp c a b pos) (ife3 tA ta tb):=
 ⟨PE_imp (pe_ifExp hc.ok ha.ok hb.ok) fun σ H Q ⟨σ3,S,Q3,E3,rσ,rS,h,xo,k⟩=>⟨σ3,S,_,E3,rσ,rS,h,xo,fun c S1 H1 h1 rS1 g1=>by
  cases c with
  | true=>rw [if_pos rfl] at h1 ⊢; exact ⟨σ3,S1,Q3,E3,rσ.mono g1,rS1,h1,xo.mono g1,k.mono g1⟩
  | false=>rw [if_neg (by decide)] at h1 ⊢; exact ⟨σ3,S1,Q3,E3,rσ.mono g1,rS1,h1,xo.mono g1,k.mono g1⟩⟩⟩
noncomputable abbrev R13:=PV→Sto→VK3→Prop
noncomputable def LR1 (X:Cx) (r:R13):V→Hp→VK→Prop:=fun x H Q=>∃ px S Q3,Rep X.K H x px∧RepS X.K H S∧r px S Q3∧Ret X.K H Q3 Q
structure Un3 (X:Cx) (f:Value→Sem Value) (r:R13):Prop where
 ok:UnR X f (LR1 X r)
noncomputable def un3 (r:R13) (ta:TE3):TE3:=fun σ S Q E=>ta σ S (fun x S1=>r x S1 Q) E
theorem e3un {op:UnaryOp} {r:R13} (ho:Un3 X (unaryOp op) r) (ha:PE3 X a ta):PE3 X (.UnaryOp op a pos) (un3 r ta):=
 ⟨PE_imp (pe_un ho.ok ha.ok) fun σ H Q ⟨σ3,S,Q3,E3,rσ,rS,h,xo,k⟩=>⟨σ3,S,_,E3,rσ,rS,h,xo,fun p S1 v H1 h1 rv rS1 g1=>⟨p,S1,Q3,rv,rS1,h1,k.mono g1⟩⟩⟩
noncomputable def neg3:R13:=fun x S Q=>match x with | .int i=>Q (.int (-i)) S | _=>False
theorem un3neg:Un3 X (unaryOp .USub) neg3:=⟨fun pins s σ H x v Q I rx ⟨px,S,Q3,r1,rS,h,k⟩=>by
 cases px with
 | int i=>cases r1; exact un_neg pins s σ H _ v Q I rx ⟨i,rfl,k _ S _ H h (.int _) rS .refl⟩
 | _=>exact h.elim⟩
end
section
variable {X:Cx}
noncomputable def int3 (g:Int→Int→PV):R3:=fun x y S Q=>match x,y with | .int i,.int j=>Q (g i j) S | _,_=>False
noncomputable def intc3 (C:Int→Int→Prop) (g:Int→Int→PV):R3:=fun x y S Q=>match x,y with | .int i,.int j=>C i j∧Q (g i j) S | _,_=>False
theorem op3int {f:Value→Value→Sem Value} {g:Int→Int→Int} (h:OpR X f (rI0 fun i j=>.int (g i j))):Op3 X f (int3 fun i j=>.int (g i j)):=⟨fun pins s σ H x y v u Q I rx ry ⟨px,py,S,Q3,r1,r2,rS,q,k⟩=>by
 cases px with
 | int i=>
  cases py with
  | int j=>cases r1; cases r2; exact h pins s σ H _ _ v u Q I rx ry ⟨i,j,rfl,rfl,k _ S _ H q (.int _) rS .refl⟩
  | _=>exact q.elim
 | _=>exact q.elim⟩
theorem op3intb {f:Value→Value→Sem Value} {g:Int→Int→Bool} (h:OpR X f (rI0 fun i j=>.bl (g i j))):Op3 X f (int3 fun i j=>.bl (g i j)):=⟨fun pins s σ H x y v u Q I rx ry ⟨px,py,S,Q3,r1,r2,rS,q,k⟩=>by
 cases px with
 | int i=>
  cases py with
  | int j=>cases r1; cases r2; exact h pins s σ H _ _ v u Q I rx ry ⟨i,j,rfl,rfl,k _ S _ H q (.bl _) rS .refl⟩
  | _=>exact q.elim
 | _=>exact q.elim⟩
theorem op3intc {f:Value→Value→Sem Value} {C:Int→Int→Prop} {g:Int→Int→Int} (h:OpR X f (rI C fun i j=>.int (g i j))):Op3 X f (intc3 C fun i j=>.int (g i j)):=⟨fun pins s σ H x y v u Q I rx ry ⟨px,py,S,Q3,r1,r2,rS,q,k⟩=>by
 cases px with
 | int i=>
  cases py with
  | int j=>cases r1; cases r2; exact h pins s σ H _ _ v u Q I rx ry ⟨i,j,rfl,rfl,q.1,k _ S _ H q.2 (.int _) rS .refl⟩
  | _=>exact q.elim
 | _=>exact q.elim⟩
noncomputable def CDiv3 (i j:Int):Prop:=j ≠ 0∧j.natAbs < 2 ^ 8000
theorem log_small' {n:Nat} (h:n < 2 ^ 8000):n.log2 < 9000:=by
 by_cases z:n = 0
 ·rw [z]; decide +kernel
 ·exact Nat.lt_trans ((Nat.log2_lt z).mpr h) (by decide)
theorem op3sub:Op3 X (binaryOp .Sub) (int3 fun i j=>.int (i - j)):=op3int op_sub
theorem op3mod:Op3 X (binaryOp .Mod) (intc3 (fun _ j=>j ≠ 0) fun i j=>.int (i.fmod j)):=op3intc op_modN
theorem op3fdiv:Op3 X (binaryOp .FloorDiv) (intc3 CDiv3 fun i j=>.int (i.fdiv j)):=op3intc (opI fun _ _ _ _ _ _ _ hc q=>PyProof.Rows.floordiv_int hc.1 q (.inl (PyProof.noPylong_of_log2 (log_small' hc.2))))
theorem op3pow:Op3 X (binaryOp .Pow) (intc3 CPow fun i j=>.int (i ^ j.toNat)):=op3intc op_pow
theorem op3lt:Op3 X (compareOp .Lt) (int3 fun i j=>.bl (decide (i < j))):=op3intb op_lt
theorem op3le:Op3 X (compareOp .LtE) (int3 fun i j=>.bl (decide (i ≤ j))):=op3intb op_le
theorem op3gt:Op3 X (compareOp .Gt) (int3 fun i j=>.bl (decide (j < i))):=op3intb op_gt
theorem op3ge:Op3 X (compareOp .GtE) (int3 fun i j=>.bl (decide (j ≤ i))):=op3intb op_ge
end
end L3
namespace L2
open PySem PySem.Spec PyProof.Rows
section
variable {X:Cx}
noncomputable def rCatB (K:PySem.W.Frag):R2:=fun x y H Q=>∃ a b xs ys,x = .ref a∧y = .ref b∧SqT K H a xs∧SqT K H b ys∧xs.length + ys.length ≤ sizeLine∧∀ r H',(∀ c o,H c = some o→H' c = some o)→SqT K H' r (xs ++ ys)→Q (.ref r) H'
theorem op_catB:OpR X (binaryOp .Add) (rCatB X.K):=by
 intro pins s σ H x y v u Q I rx ry h
 obtain ⟨a,b,xs,ys,rfl,rfl,ha,hb,hz,q⟩:=h
 by_cases hx:xs = []
 ·subst hx
  cases rx
  cases ry
  obtain ⟨its,r1,p1,_⟩:=I.tuple ha
  obtain ⟨its2,r2,p2,_⟩:=I.tuple hb
  cases r1
  obtain ⟨⟨cls,dd,data,sl⟩,ho,hc,n,hd⟩:=id p1
  obtain ⟨⟨cls2,dd2,data2,sl2⟩,ho2,hc2,n2,hd2⟩:=id p2
  simp only at hc hd hc2 hd2
  subst hc hd hc2 hd2
  exact concat_meets ⟨_,ho,rfl⟩ ⟨_,ho2,rfl⟩ noFill_tuple_add seq_tuple_add PySem.F.slot_tuple_add PySem.F.entry_tuple_add (PySem.F.args_tuple_add_2 _ _)
   (tuple_addW0 a b _ its2.toArray n n2 dd dd2 sl sl2 rfl) ⟨ho,ho2,⟨.ref b,H,I,rfl,q b H (fun _ _ e=>e) hb⟩⟩
 ·exact op_catT pins s σ H _ _ v u Q I rx ry ⟨a,b,xs,ys,rfl,rfl,ha,hb,hx,hz,fun e=>q a H (fun _ _ e=>e) (by rw [e,List.append_nil]; exact ha),
   fun _ p hp=>q p _ (fun c o e=>by rw [upd_ne (ne_of_none e hp)]; exact e) (SqT.of upd_same)⟩
end
end L2
namespace L3
open PySem L2
section
variable {X:Cx}
noncomputable def add3:R3:=fun x y S Q=>match x,y with
 | .int i,.int j=>Q (.int (i + j)) S
 | .str i,.str j=>i.length + j.length ≤ sizeLine∧Q (.str (i ++ j)) S
 | .tup i,.tup j=>i.length + j.length ≤ sizeLine∧Q (.tup (i ++ j)) S
 | .ref i,.ref j=>match S i,S j with
  | some (.lst xs),some (.lst ys)=>xs.length + ys.length ≤ sizeLine∧∀ p,S p = none→Q (.ref p) (upd3 S p (.lst (xs ++ ys)))
  | _,_=>False
 | _,_=>False
theorem op3add:Op3 X (binaryOp .Add) add3:=⟨fun pins s σ H x y v u Q I rx ry ⟨px,py,S,Q3,r1,r2,rS,q,k⟩=>by
 unfold add3 at q
 split at q
 ·cases r1; cases r2
  exact op_add pins s σ H _ _ v u Q I rx ry ⟨_,_,rfl,rfl,k _ S _ H q (.int _) rS .refl⟩
 ·cases r1; cases r2
  exact op_add_str pins s σ H _ _ v u Q I rx ry ⟨_,_,rfl,rfl,q.1,k _ S _ H q.2 (.str _) rS .refl⟩
 ·cases r1 with
  | tup h1 s1=>
   cases r2 with
   | tup h2 s2=>
    refine op_catB pins s σ H _ _ v u Q I rx ry ⟨_,_,_,_,rfl,rfl,h1,h2,by rw [s1.length,s2.length]; exact q.1,fun r H' hs hr=>?_⟩
    exact k _ S _ H' q.2 (.tup hr ((s1.mono (.same hs)).append (s2.mono (.same hs)))) (rS.grow hs) (.same hs)
 ·cases r1; cases r2
  split at q
  ·rename_i i j xs ys e1 e2
   obtain ⟨vs,h1,s1⟩:=rS _ _ e1
   obtain ⟨us,h2,s2⟩:=rS _ _ e2
   exact op_cat pins s σ H _ _ v u Q I rx ry ⟨_,_,_,_,rfl,rfl,h1,h2,by rw [s1.length,s2.length]; exact q.1,fun p hp=>k _ _ _ _ (q.2 p (rS.free hp)) (.ref p) (rS.new hp ⟨_,upd_same,(s1.append s2).mono (.new hp)⟩) (.new hp)⟩
  ·exact q.elim
 ·exact q.elim⟩
end
mutual
inductive Dat (S:Sto):PV→PyData→Prop
 | non:Dat S .non .none
 | bl (b:Bool):Dat S (.bl b) (.bool b)
 | int (i:Int):Dat S (.int i) (.int i)
 | str (x:Str):Dat S (.str x) (.str x)
 | tup {ps:List PV} {ds:List PyData}:Dats S ps ds→Dat S (.tup ps) (.tuple ds)
 | cl {ps:List PV} {ds:List PyData}:Dats S ps ds→Dat S (.cl ps) (.list ds)
 | ref {a:Addr} {ps:List PV} {ds:List PyData}:S a = some (.lst ps)→Dats S ps ds→Dat S (.ref a) (.list ds)
inductive Dats (S:Sto):List PV→List PyData→Prop
 | nil:Dats S [] []
 | cons {p:PV} {d:PyData} {ps:List PV} {ds:List PyData}:Dat S p d→Dats S ps ds→Dats S (p :: ps) (d :: ds)
end
section
variable {X:Cx} {pins:List (Addr × Obj)} {σ:L2.St} {H:Hp} {s:Shared} {S:Sto}
theorem reads_both (I:Inv X pins σ H s) (rS:RepS X.K H S):(∀ {p:PV} {d:PyData},Dat S p d→∀ {v:V} {u:Value},Rep X.K H v p→RelV v u→∃ as,Reads s.heap u d as)∧∀ {ps:List PV} {ds:List PyData},Dats S ps ds→∀ {vs:List V} {us:List Value},Reps X.K H vs ps→Vals vs us→∃ as,ReadsAll s.heap us ds as:=by
 have one:=@Dat.rec S (motive_1:=fun p d _=>∀ {v:V} {u:Value},Rep X.K H v p→RelV v u→∃ as,Reads s.heap u d as) (motive_2:=fun ps ds _=>∀ {vs:List V} {us:List Value},Reps X.K H vs ps→Vals vs us→∃ as,ReadsAll s.heap us ds as)
 have two:=@Dats.rec S (motive_1:=fun p d _=>∀ {v:V} {u:Value},Rep X.K H v p→RelV v u→∃ as,Reads s.heap u d as) (motive_2:=fun ps ds _=>∀ {vs:List V} {us:List Value},Reps X.K H vs ps→Vals vs us→∃ as,ReadsAll s.heap us ds as)
 have c1:∀ {v:V} {u:Value},Rep X.K H v .non→RelV v u→∃ as,Reads s.heap u .none as:=fun h r=>by cases h; cases r; exact ⟨_,.none⟩
 have c2:∀ (b:Bool) {v:V} {u:Value},Rep X.K H v (.bl b)→RelV v u→∃ as,Reads s.heap u (.bool b) as:=fun b _ _ h r=>by cases h; cases r; exact ⟨_,.bool b⟩
 have c3:∀ (i:Int) {v:V} {u:Value},Rep X.K H v (.int i)→RelV v u→∃ as,Reads s.heap u (.int i) as:=fun i _ _ h r=>by cases h; obtain ⟨t,rfl⟩:=r; exact ⟨_,.int i t⟩
 have c4:∀ (x:Str) {v:V} {u:Value},Rep X.K H v (.str x)→RelV v u→∃ as,Reads s.heap u (.str x) as:=fun x _ _ h r=>by cases h; obtain ⟨t,rfl⟩:=r; exact ⟨_,.str x t⟩
 have c5:∀ {ps:List PV} {ds:List PyData},Dats S ps ds→(∀ {vs:List V} {us:List Value},Reps X.K H vs ps→Vals vs us→∃ as,ReadsAll s.heap us ds as)→∀ {v:V} {u:Value},Rep X.K H v (.tup ps)→RelV v u→∃ as,Reads s.heap u (.tuple ds) as:=fun _ ih _ _ h r=>by
  cases h with
  | tup h rs=>
   cases r
   obtain ⟨its,rv,⟨o,ho,hc,n,hd⟩,hz⟩:=I.tuple h
   obtain ⟨as,q⟩:=ih rs rv
   exact ⟨as,.tuple ho hc hd (by simpa using q)⟩
 have c6:∀ {ps:List PV} {ds:List PyData},Dats S ps ds→(∀ {vs:List V} {us:List Value},Reps X.K H vs ps→Vals vs us→∃ as,ReadsAll s.heap us ds as)→∀ {v:V} {u:Value},Rep X.K H v (.cl ps)→RelV v u→∃ as,Reads s.heap u (.list ds) as:=fun _ ih _ _ h r=>by
  cases h with
  | cl h rs=>
   cases r
   obtain ⟨its,rv,⟨o,n,ho,hc,_,hd⟩,hz⟩:=I.list h.sq
   obtain ⟨as,q⟩:=ih rs rv
   exact ⟨_,.list ho hc hd (by simpa using q)⟩
 have c7:∀ {a:Addr} {ps:List PV} {ds:List PyData},S a = some (.lst ps)→Dats S ps ds→(∀ {vs:List V} {us:List Value},Reps X.K H vs ps→Vals vs us→∃ as,ReadsAll s.heap us ds as)→∀ {v:V} {u:Value},Rep X.K H v (.ref a)→RelV v u→∃ as,Reads s.heap u (.list ds) as:=fun e _ ih _ _ h r=>by
  cases h
  cases r
  obtain ⟨vs,hv,rs⟩:=rS _ _ e
  obtain ⟨its,rv,⟨o,n,ho,hc,_,hd⟩,hz⟩:=I.list (SqL.of hv)
  obtain ⟨as,q⟩:=ih rs rv
  exact ⟨_,.list ho hc hd (by simpa using q)⟩
 have c8:∀ {vs:List V} {us:List Value},Reps X.K H vs []→Vals vs us→∃ as,ReadsAll s.heap us [] as:=fun h r=>by cases h; cases r; exact ⟨_,.nil⟩
 have c9:∀ {p:PV} {d:PyData} {ps:List PV} {ds:List PyData},Dat S p d→Dats S ps ds→(∀ {v:V} {u:Value},Rep X.K H v p→RelV v u→∃ as,Reads s.heap u d as)→(∀ {vs:List V} {us:List Value},Reps X.K H vs ps→Vals vs us→∃ as,ReadsAll s.heap us ds as)→∀ {vs:List V} {us:List Value},Reps X.K H vs (p :: ps)→Vals vs us→∃ as,ReadsAll s.heap us (d :: ds) as:=fun _ _ i1 i2 _ _ h r=>by
  cases h with
  | cons a rs=>
   cases r with
   | cons r1 r2=>
    obtain ⟨as,q⟩:=i1 a r1
    obtain ⟨bs,q2⟩:=i2 rs r2
    exact ⟨_,.cons q q2⟩
 exact ⟨fun h=>one c1 c2 c3 c4 c5 c6 c7 c8 c9 h,fun h=>two c1 c2 c3 c4 c5 c6 c7 c8 c9 h⟩
theorem Dat.reads (I:Inv X pins σ H s) (rS:RepS X.K H S) {p:PV} {d:PyData} {v:V} {u:Value} (h:Dat S p d) (r:Rep X.K H v p) (r2:RelV v u):∃ as,Reads s.heap u d as:=(reads_both I rS).1 h r r2
end
section
variable {X:Cx}
noncomputable def eq3 (neg:Bool):R3:=fun x y S Q=>match x,y with
 | .int i,.int j=>Q (.bl (neg != decide (i = j))) S
 | .str i,.str j=>Q (.bl (neg != decide (i = j))) S
 | .bl i,.bl j=>Q (.bl (neg != decide (i = j))) S
 | x,y=>∃ d d',Dat S x d∧Dat S y d'∧d.canLay0 = true∧d'.canLay0 = true∧min d.depth d'.depth ≤ 150∧Q (.bl (neg != PyData.eqv d d')) S
theorem op3eq (hu:X.A.units + 150 < cLine):Op3 X (compareOp .Eq) (eq3 false):=⟨fun pins s σ H x y v u Q I rx ry ⟨px,py,S,Q3,r1,r2,rS,q,k⟩=>by
 unfold eq3 at q
 split at q
 ·cases r1; cases r2
  exact op_eq pins s σ H _ _ v u Q I rx ry ⟨rfl,k _ S _ H (by simpa using q) (.bl _) rS .refl⟩
 ·cases r1; cases r2
  exact op_eq pins s σ H _ _ v u Q I rx ry ⟨rfl,k _ S _ H (by simpa using q) (.bl _) rS .refl⟩
 ·cases r1; cases r2
  exact op_eq pins s σ H _ _ v u Q I rx ry ⟨rfl,k _ S _ H (by simpa using q) (.bl _) rS .refl⟩
 ·obtain ⟨d,d',h1,h2,c1,c2,hd,q⟩:=q
  obtain ⟨as,a1⟩:=h1.reads I rS r1 rx
  obtain ⟨bs,a2⟩:=h2.reads I rS r2 ry
  exact SeqAt.compareEq_reads a1 a2 c1 c2 (by omega) ⟨.bl _,H,I,rfl,k _ S _ H (by simpa using q) (.bl _) rS .refl⟩⟩
theorem op3ne (hu:X.A.units + 150 < cLine):Op3 X (compareOp .NotEq) (eq3 true):=⟨fun pins s σ H x y v u Q I rx ry ⟨px,py,S,Q3,r1,r2,rS,q,k⟩=>by
 unfold eq3 at q
 split at q
 ·cases r1; cases r2
  exact op_ne pins s σ H _ _ v u Q I rx ry ⟨rfl,k _ S _ H (by simpa using q) (.bl _) rS .refl⟩
 ·cases r1; cases r2
  exact op_ne pins s σ H _ _ v u Q I rx ry ⟨rfl,k _ S _ H (by simpa using q) (.bl _) rS .refl⟩
 ·cases r1; cases r2
  exact op_ne pins s σ H _ _ v u Q I rx ry ⟨rfl,k _ S _ H (by simpa using q) (.bl _) rS .refl⟩
 ·obtain ⟨d,d',h1,h2,c1,c2,hd,q⟩:=q
  obtain ⟨as,a1⟩:=h1.reads I rS r1 rx
  obtain ⟨bs,a2⟩:=h2.reads I rS r2 ry
  exact SeqAt.compareNe_reads a1 a2 c1 c2 (by omega) ⟨.bl _,H,I,rfl,k _ S _ H (by simpa using q) (.bl _) rS .refl⟩⟩
noncomputable def is3 (neg:Bool):R3:=fun x y S Q=>match y with
 | .non=>Q (.bl (neg != match x with | .non=>true | _=>false)) S
 | .bl true=>match x with | .bl true=>Q (.bl (neg != true)) S | _=>False
 | _=>False
theorem op3is:Op3 X (compareOp .Is) (is3 false):=⟨fun pins s σ H x y v u Q I rx ry ⟨px,py,S,Q3,r1,r2,rS,q,k⟩=>by
 unfold is3 at q
 split at q
 ·cases r2
  refine op_isN pins s σ H _ _ v u Q I rx ry ⟨rfl,?_⟩
  cases r1 <;> exact k _ S _ H (by simpa using q) (.bl _) rS .refl
 ·cases r2
  split at q
  ·cases r1
   exact op_isT pins s σ H _ _ v u Q I rx ry ⟨rfl,rfl,k _ S _ H (by simpa using q) (.bl _) rS .refl⟩
  ·exact q.elim
 ·exact q.elim⟩
theorem op3isnot:Op3 X (compareOp .IsNot) (is3 true):=⟨fun pins s σ H x y v u Q I rx ry ⟨px,py,S,Q3,r1,r2,rS,q,k⟩=>by
 unfold is3 at q
 split at q
 ·cases r2
  refine op_notN pins s σ H _ _ v u Q I rx ry ⟨rfl,?_⟩
  cases r1 <;> exact k _ S _ H (by simpa using q) (.bl _) rS .refl
 ·cases r2
  split at q
  ·cases r1
   exact op_isNotT pins s σ H _ _ v u Q I rx ry ⟨rfl,rfl,k _ S _ H (by simpa using q) (.bl _) rS .refl⟩
  ·exact q.elim
 ·exact q.elim⟩
noncomputable def seq3 (S:Sto):PV→Option (List PV)
 | .tup xs=>some xs
 | .cl xs=>some xs
 | .ref a=>match S a with | some (.lst xs)=>some xs | _=>none
 | _=>none
theorem seq_of {H:Hp} {S:Sto} {v:V} {p:PV} {xs:List PV} (rS:RepS X.K H S) (r:Rep X.K H v p) (h:seq3 S p = some xs):∃ a vs,v = .ref a∧(SqL X.K H a vs ∨ SqT X.K H a vs)∧Reps X.K H vs xs:=by
 unfold seq3 at h
 split at h
 ·cases h; cases r with | tup h1 rs=>exact ⟨_,_,rfl,.inr h1,rs⟩
 ·cases h; cases r with | cl h1 rs=>exact ⟨_,_,rfl,.inl h1.sq,rs⟩
 ·cases r
  split at h
  ·rename_i e
   cases h
   obtain ⟨vs,hv,rs⟩:=rS _ _ e
   exact ⟨_,vs,rfl,.inl (SqL.of hv),rs⟩
  ·cases h
 ·cases h
noncomputable def inAny (x:PyData) (xs:List PyData):Bool:=xs.any fun y=>PyData.eqv y x
noncomputable def in3 (neg:Bool):R3:=fun x y S Q=>match x,y with
 | .str i,.str j=>Q (.bl (neg != !(Builtin.Str.occurrences j i 0 j.length 1).isEmpty)) S
 | x,y=>match y with
  | .ref a=>match S a with
   | some (.lst xs)=>∃ d ds,Dat S x d∧Dats S xs ds∧d.canLay0 = true∧PyData.canLayAll0 ds = true∧d.depth ≤ 150∧Q (.bl (neg != inAny d ds)) S
   | some (.dct kvs)=>match x with
    | .str z=>Q (.bl (neg != (kvs.any fun kv=>decide (kv.1 = Sum.inr z)))) S
    | .int z=>Q (.bl (neg != (kvs.any fun kv=>decide (kv.1 = Sum.inl z)))) S
    | _=>False
   | _=>False
  | .tup xs=>∃ d ds,Dat S x d∧Dats S xs ds∧d.canLay0 = true∧PyData.canLayAll0 ds = true∧d.depth ≤ 150∧Q (.bl (neg != inAny d ds)) S
  | _=>False
theorem RepP.any {K:PySem.W.Frag} {H:Hp} {κ:Type} [DecidableEq κ] (k:κ):∀ {vs:List (κ × V)} {ps:List (κ × PV)},RepP K H vs ps→(valV vs k).isSome = ps.any fun kv=>decide (kv.1 = k)
 | _,_,.nil=>rfl
 | _,_,.cons (k:=k') a r=>by
  rw [List.any_cons,← RepP.any k r]
  by_cases e:k' = k
  ·rw [valV_pos e]; simp [e]
  ·rw [valV_neg e]; simp [e]
theorem op3in (hu:X.A.units + 160 < cLine):Op3 X (compareOp .In) (in3 false):=⟨fun pins s σ H x y v u Q I rx ry ⟨px,py,S,Q3,r1,r2,rS,q,k⟩=>by
 unfold in3 at q
 split at q
 ·cases r1; cases r2
  exact op_in_str pins s σ H _ _ v u Q I rx ry ⟨_,_,rfl,rfl,k _ S _ H (by simpa using q) (.bl _) rS .refl⟩
 ·split at q
  ·cases r2
   cases ry
   split at q
   ·rename_i xs e
    obtain ⟨d,ds,h1,h2,c1,c2,hd,q⟩:=q
    obtain ⟨as,a1⟩:=h1.reads I rS r1 rx
    obtain ⟨bs,a2⟩:=(Dat.ref e h2).reads I rS (.ref _) (rfl:RelV (.ref _) (.ref _))
    exact SeqAt.in_list_reads a2 a1 c2 c1 (by omega) ⟨.bl _,H,I,rfl,k _ S _ H (by simpa [inAny] using q) (.bl _) rS .refl⟩
   ·rename_i kvs e
    obtain ⟨kv,hv,rk⟩:=rS _ _ e
    split at q
    ·cases r1
     exact d_in (by omega) I (DGet.k (k:=Sum.inr _) hv) rx fun s3 I3=>⟨.bl _,H,I3,rfl,k _ S _ H (by rw [rk.any]; simpa using q) (.bl _) rS .refl⟩
    ·cases r1
     exact d_in (by omega) I (DGet.k (k:=Sum.inl _) hv) rx fun s3 I3=>⟨.bl _,H,I3,rfl,k _ S _ H (by rw [rk.any]; simpa using q) (.bl _) rS .refl⟩
    ·exact q.elim
   ·exact q.elim
  ·rename_i xs
   obtain ⟨d,ds,h1,h2,c1,c2,hd,q⟩:=q
   obtain ⟨as,a1⟩:=h1.reads I rS r1 rx
   obtain ⟨bs,a2⟩:=(Dat.tup h2).reads I rS r2 ry
   exact SeqAt.in_tuple_reads a2 a1 c2 c1 (by omega) ⟨.bl _,H,I,rfl,k _ S _ H (by simpa [inAny] using q) (.bl _) rS .refl⟩
  ·exact q.elim⟩
theorem op3notin (hu:X.A.units + 160 < cLine):Op3 X (compareOp .NotIn) (in3 true):=⟨fun pins s σ H x y v u Q I rx ry ⟨px,py,S,Q3,r1,r2,rS,q,k⟩=>by
 unfold in3 at q
 split at q
 ·cases r1; cases r2
  exact op_notIn_str pins s σ H _ _ v u Q I rx ry ⟨_,_,rfl,rfl,k _ S _ H (by simpa using q) (.bl _) rS .refl⟩
 ·split at q
  ·cases r2
   cases ry
   split at q
   ·rename_i xs e
    obtain ⟨d,ds,h1,h2,c1,c2,hd,q⟩:=q
    obtain ⟨as,a1⟩:=h1.reads I rS r1 rx
    obtain ⟨bs,a2⟩:=(Dat.ref e h2).reads I rS (.ref _) (rfl:RelV (.ref _) (.ref _))
    exact SeqAt.notIn_list_reads a2 a1 c2 c1 (by omega) ⟨.bl _,H,I,rfl,k _ S _ H (by simpa [inAny] using q) (.bl _) rS .refl⟩
   ·rename_i kvs e
    obtain ⟨kv,hv,rk⟩:=rS _ _ e
    split at q
    ·cases r1
     exact d_notIn (by omega) I (DGet.k (k:=Sum.inr _) hv) rx fun s3 I3=>⟨.bl _,H,I3,rfl,k _ S _ H (by rw [rk.any]; simpa using q) (.bl _) rS .refl⟩
    ·cases r1
     exact d_notIn (by omega) I (DGet.k (k:=Sum.inl _) hv) rx fun s3 I3=>⟨.bl _,H,I3,rfl,k _ S _ H (by rw [rk.any]; simpa using q) (.bl _) rS .refl⟩
    ·exact q.elim
   ·exact q.elim
  ·rename_i xs
   obtain ⟨d,ds,h1,h2,c1,c2,hd,q⟩:=q
   obtain ⟨as,a1⟩:=h1.reads I rS r1 rx
   obtain ⟨bs,a2⟩:=(Dat.tup h2).reads I rS r2 ry
   exact SeqAt.notIn_tuple_reads a2 a1 c2 c1 (by omega) ⟨.bl _,H,I,rfl,k _ S _ H (by simpa [inAny] using q) (.bl _) rS .refl⟩
  ·exact q.elim⟩
end
end L3
namespace HT
open PySem PySem.Spec PyProof.Rows
section
variable {prog:Program} {w:World} {A:Around} {E:Value→Shared→Prop} {s:Shared}
theorem getItem_tuple_all {t sl:Addr} {items:Array Value} {vl vu:Value} {lo hi:Option Int} {Q:Value→Shared→Prop} (ht:IsTup s.heap t items) (hs:s.heap.IsSliceOf sl vl vu .none) (pl:IsPart vl lo) (pu:IsPart vu hi)
  (hw:sIx items.size 0 lo = 0∧sIx items.size items.size hi = items.size)
  (h:Q (.ref t) s):wpAny (model prog w) A (getItem (.ref t) (.ref sl)) Q E s:=by
 obtain ⟨os,hos,hcs,hds⟩:=id hs
 have hTs:s.TypeIs (.ref sl) "slice":=⟨os,hos,hcs⟩
 unfold getItem
 try with_reducible refine wpAny_holding ?_
 first | refine wpAny_bind (wpAny_pure ?_) | skip
 refine wpAny_bind (wpAny_sequenceKey ht.typeIs (by decide) ?_)
 refine wpAny_bind (wpAny_callSpecial?_slot (name:=Str.ofString "__getitem__") ht.typeIs PyProof.Rows.slot_tuple_getitem
  (wpAny_call_entry PyProof.Rows.slot_tuple_getitem ht.typeIs entry_tuple_getitem ?_ (args_tuple_getitem _ _)))
 show wpAny _ _ (Builtin.Tuple.tupleItemsOf (.ref t) >>= _) _ _ s
 refine wpAny_bind (tupleItemsOf_ ht ?_)
 refine wpAny_bind (wpAny_typeOf hTs ?_)
 rw [if_pos (by decide)]
 refine wpAny_bind (sliceApplied_gen hs pl pu ?_)
 have hyes:(((sIx items.size 0 lo:Nat):Int) == 0 && (1:Int) == 1 && (sIx items.size items.size hi - sIx items.size 0 lo) == items.size) = true:=by
  rw [hw.1,hw.2]; simp
 show wpAny _ _ (if (((sIx items.size 0 lo:Nat):Int) == 0 && (1:Int) == 1 && (sIx items.size items.size hi - sIx items.size 0 lo) == items.size) = true then _ else _) _ _ s
 rw [if_pos hyes]
 unfold Builtin.Tuple.tupleIsExact
 refine wpAny_bind (wpAny_bind (wpAny_typeOf ht.typeIs (wpAny_pure ?_)))
 rw [if_pos (by decide)]
 first
  | exact wpAny_bind (wpAny_rule (wpAny_pure ⟨_,rfl,wpAny_pure h⟩))
  | exact wpAny_bind (wpAny_rule (wpAny_bind (wpAny_pure (wpAny_pure ⟨_,rfl,wpAny_pure h⟩))))
  | exact wpAny_bind (wpAny_rule (wpAny_bind (wpAny_pure ⟨_,rfl,wpAny_pure h⟩)))
end
end HT
namespace L2
open PySem PySem.Spec PyProof.Rows
section
variable {X:Cx}
noncomputable def rSlTA (K:PySem.W.Frag):V→Option Int→Option Int→Hp→VK→Prop:=fun x lo hi H Q=>∃ a xs,x = .ref a∧SqT K H a xs∧∀ r H',(∀ c o,H c = some o→H' c = some o)→SqT K H' r (cutV xs lo hi)→Q (.ref r) H'
theorem sl_tupA:SlR X (rSlTA X.K):=by
 intro pins s σ H x v vl vu lo hi sl Q I rx hs pl pu h
 obtain ⟨a,xs,rfl,hx,q⟩:=h
 by_cases hw:HT.sIx xs.length 0 lo = 0∧HT.sIx xs.length xs.length hi = xs.length
 ·cases rx
  obtain ⟨its,r,ht,hz⟩:=I.tuple hx
  have hlen:its.toArray.size = xs.length:=by rw [List.size_toArray]; exact r.length.symm
  refine ⟨"tuple",_,PyProof.Rows.slot_tuple_getitem.lookup,ht.typeIs,HT.getItem_tuple_all ht hs pl pu (by rw [hlen]; exact hw) ⟨.ref a,H,I,rfl,q a H (fun _ _ e=>e) ?_⟩⟩
  have e:cutV xs lo hi = xs:=by unfold cutV; rw [hw.1,hw.2]; simp
  rw [e]; exact hx
 ·exact sl_tup pins s σ H _ v vl vu lo hi sl Q I rx hs pl pu ⟨a,xs,rfl,hx,hw,fun p hp=>q p _ (fun c o e=>by rw [upd_ne (ne_of_none e hp)]; exact e) (SqT.of upd_same)⟩
theorem ix_dict (hu:X.A.units + 1 < cLine):IxR X (fun x y H Q=>∃ a v,x = .ref a∧DGet H a y (some v)∧Q v H):=by
 intro value slice pins s σ H x y v u Q I rx ry h hs
 obtain ⟨a,z,rfl,g,q⟩:=h
 cases rx
 exact tail_any (dict_typeIs I g) PySem.F.slot_dict_getitem.lookup (d_getItem hu I g ry fun w' s3 I3 rw'=>⟨z,H,I3,rw',q⟩) hs
theorem set_dict (hu:X.A.units + 1 < cLine):PSet X (fun o i v H Q=>∃ a H',o = .ref a∧DPut H a i v H'∧Q H'):=by
 intro pins s σ H o i v ov iv u Q I ro ri rv h
 obtain ⟨a,H',rfl,g,q⟩:=h
 cases ro
 exact d_setItem hu I g ri rv fun s' I'=>⟨H',I',q⟩
end
end L2
namespace L3
open PySem L2
theorem Reps.atI {K:PySem.W.Frag} {H:Hp} {vs:List V} {ps:List PV} {i:Int} {p:PV} (r:Reps K H vs ps) (h:L2.atI ps i = some p):∃ v,L2.atI vs i = some v∧Rep K H v p:=by
 unfold L2.atI at h ⊢
 rw [r.length]
 cases e:ixN ps.length i with
 | none=>rw [e] at h; cases h
 | some j=>
  rw [e] at h
  obtain ⟨v,h1,h2⟩:=r.get h
  exact ⟨v,h1,h2⟩
noncomputable def key3:PV→Option Key
 | .int i=>some (.inl i)
 | .str x=>some (.inr x)
 | _=>none
theorem key_of {K:PySem.W.Frag} {H:Hp} {v:V} {p:PV} {k:Key} (r:Rep K H v p) (h:key3 p = some k):v = kV k:=by
 cases p with
 | int i=>cases h; cases r; rfl
 | str i=>cases h; cases r; rfl
 | _=>cases h
noncomputable def val3 {κ:Type} [DecidableEq κ]:List (κ × PV)→κ→Option PV
 | [],_=>none
 | (k',v) :: r,k=>if k' = k then some v else val3 r k
theorem RepP.val {K:PySem.W.Frag} {H:Hp} {κ:Type} [DecidableEq κ] {k:κ} {p:PV}:∀ {vs:List (κ × V)} {ps:List (κ × PV)},RepP K H vs ps→val3 ps k = some p→∃ v,valV vs k = some v∧Rep K H v p
 | _,_,.nil,h=>by cases h
 | _,_,.cons (k:=k') a r,h=>by
  unfold val3 at h
  split at h
  ·rename_i e; cases h; exact ⟨_,valV_pos e,a⟩
  ·rename_i e; rw [valV_neg e]; exact RepP.val r h
section
variable {X:Cx} {a b e lo hi:Expr} {ta tb te:TE3} {pos p2:Pos}
structure Ix3 (X:Cx) (r:R3):Prop where
 ok:IxR X (LR X r)
theorem e3ix {r:R3} (hr:Ix3 X r) (ha:PE3 X a ta) (hb:PE3 X b tb) (hs:PlainIx b):PE3 X (.Subscript a b pos) (op3 r ta tb):=⟨PE_imp (pe_ix hr.ok ha.ok hb.ok hs) fun _ _ _=>lift_op⟩
noncomputable def idx3:R3:=fun x y S Q=>match x with
 | .tup xs=>match y with | .int i=>(match atI xs i with | some v=>Q v S | none=>False) | _=>False
 | .cl xs=>match y with | .int i=>(match atI xs i with | some v=>Q v S | none=>False) | _=>False
 | .str z=>match y with | .int i=>z.length ≤ sizeLine∧(match atI z.cps.toList i with | some c=>Q (.str ⟨#[c]⟩) S | none=>False) | _=>False
 | .ref a=>match S a with
  | some (.lst xs)=>(match y with | .int i=>(match atI xs i with | some v=>Q v S | none=>False) | _=>False)
  | some (.dct kvs)=>(match key3 y with | some k=>(match val3 kvs k with | some v=>Q v S | none=>False) | none=>False)
  | _=>False
 | _=>False
theorem ix3 (hu:X.A.units + 1 < cLine):Ix3 X idx3:=⟨fun value slice pins s σ H x y v u Q I rx ry ⟨px,py,S,Q3,r1,r2,rS,q,k⟩ hs=>by
 unfold idx3 at q
 split at q
 ·split at q
  ·split at q
   ·rename_i e
    cases r2
    cases r1 with
    | tup h1 rs=>
     obtain ⟨w,hw,rw'⟩:=rs.atI e
     exact ix_tup value slice pins s σ H _ _ v u Q I rx ry ⟨_,_,_,w,rfl,rfl,h1,hw,k _ S _ H q rw' rS .refl⟩ hs
   ·exact q.elim
  ·exact q.elim
 ·split at q
  ·split at q
   ·rename_i e
    cases r2
    cases r1 with
    | cl h1 rs=>
     obtain ⟨w,hw,rw'⟩:=rs.atI e
     exact ix_list value slice pins s σ H _ _ v u Q I rx ry ⟨_,_,_,w,rfl,rfl,h1.sq,hw,k _ S _ H q rw' rS .refl⟩ hs
   ·exact q.elim
  ·exact q.elim
 ·split at q
  ·obtain ⟨hz,q⟩:=q
   split at q
   ·rename_i e
    cases r1; cases r2
    exact ix_str value slice pins s σ H _ _ v u Q I rx ry ⟨_,_,_,rfl,rfl,hz,e,k _ S _ H q (.str _) rS .refl⟩ hs
   ·exact q.elim
  ·exact q.elim
 ·split at q
  ·rename_i e0
   split at q
   ·split at q
    ·rename_i e
     cases r1; cases r2
     obtain ⟨vs,hv,rs⟩:=rS _ _ e0
     obtain ⟨w,hw,rw'⟩:=rs.atI e
     exact ix_list value slice pins s σ H _ _ v u Q I rx ry ⟨_,_,_,w,rfl,rfl,SqL.of hv,hw,k _ S _ H q rw' rS .refl⟩ hs
    ·exact q.elim
   ·exact q.elim
  ·rename_i e0
   split at q
   ·rename_i ek
    split at q
    ·rename_i ev
     cases r1
     have e1:=key_of r2 ek
     subst e1
     obtain ⟨kv,hv,rk⟩:=rS _ _ e0
     obtain ⟨w,hw,rw'⟩:=rk.val ev
     refine ix_dict hu value slice pins s σ H _ _ v u Q I rx ry ⟨_,w,rfl,?_,k _ S _ H q rw' rS .refl⟩ hs
     rw [← hw]
     exact DGet.k hv
    ·exact q.elim
   ·exact q.elim
  ·exact q.elim
 ·exact q.elim⟩
noncomputable abbrev TO3:=St3→Sto→(Option Int→Sto→Prop)→XK3→Prop
noncomputable def LO (X:Cx) (t:TO3):TO:=fun σ H Q=>∃ σ3 S Q3 E3,RepSt X.K H σ σ3∧RepS X.K H S∧t σ3 S Q3 E3∧XOk X H E3∧∀ o S' H',Q3 o S'→RepS X.K H' S'→Grow X.K H H'→Q o H'
structure PO3 (X:Cx) (e:Option Expr) (t:TO3):Prop where
 ok:PO X e (LO X t)
noncomputable def on3:TO3:=fun _ S Q _=>Q none S
noncomputable def os3 (t:TE3):TO3:=fun σ S Q E=>t σ S (fun v S'=>match v with | .int i=>Q (some i) S' | _=>False) E
theorem PO_imp {e:Option Expr} {t t':TO} (h:PO X e t) (k:∀ σ H Q,t' σ H Q→t σ H Q):PO X e t':=fun pins s σ H Q I q=>h pins s σ H Q I (k σ H Q q)
theorem o3none:PO3 X none on3:=⟨PO_imp po_none fun σ H Q ⟨σ3,S,Q3,E3,rσ,rS,h,xo,k⟩=>k none S H h rS .refl⟩
theorem o3some (h:PE3 X e te):PO3 X (some e) (os3 te):=⟨PO_imp (po_some h.ok) fun σ H Q ⟨σ3,S,Q3,E3,rσ,rS,h,xo,k⟩=>⟨σ3,S,_,E3,rσ,rS,h,xo,fun p S' v H' h1 rv rS' g=>by
 cases p with
 | int i=>cases rv; exact ⟨i,rfl,k _ S' H' h1 rS' g⟩
 | _=>exact h1.elim⟩⟩
noncomputable def cut3 {α:Type} (xs:List α) (lo hi:Option Int):List α:=(xs.drop (HT.sIx xs.length 0 lo)).take (HT.sIx xs.length xs.length hi - HT.sIx xs.length 0 lo)
theorem Reps.cut {K:PySem.W.Frag} {H:Hp} {vs:List V} {ps:List PV} (r:Reps K H vs ps) (lo hi:Option Int):Reps K H (cutV vs lo hi) (cut3 ps lo hi):=by
 unfold cutV cut3
 rw [r.length]
 exact (r.drop _).take _
noncomputable def slr3 (x:PV) (lo hi:Option Int) (S:Sto) (Q:VK3):Prop:=match x with
 | .tup xs=>Q (.tup (cut3 xs lo hi)) S
 | .cl xs=>∀ p,S p = none→Q (.ref p) (upd3 S p (.lst (cut3 xs lo hi)))
 | .str z=>z.length ≤ sizeLine∧Q (.str (Txt.slice z lo hi)) S
 | .ref a=>match S a with | some (.lst xs)=>∀ p,S p = none→Q (.ref p) (upd3 S p (.lst (cut3 xs lo hi))) | _=>False
 | _=>False
noncomputable def LSl (X:Cx):V→Option Int→Option Int→Hp→VK→Prop:=fun x lo hi H Q=>∃ px S Q3,Rep X.K H x px∧RepS X.K H S∧slr3 px lo hi S Q3∧Ret X.K H Q3 Q
theorem sl3:SlR X (LSl X):=by
 intro pins s σ H x v vl vu lo hi sl Q I rx hs pl pu ⟨px,S,Q3,r1,rS,q,k⟩
 unfold slr3 at q
 split at q
 ·cases r1 with
  | tup h1 rs=>exact sl_tupA pins s σ H _ v vl vu lo hi sl Q I rx hs pl pu ⟨_,_,rfl,h1,fun r H' hh hr=>k _ S _ H' q (.tup hr ((rs.cut lo hi).mono (.same hh))) (rS.grow hh) (.same hh)⟩
 ·cases r1 with
  | cl h1 rs=>exact sl_list pins s σ H _ v vl vu lo hi sl Q I rx hs pl pu ⟨_,_,rfl,h1.sq,fun p hp=>k _ _ _ _ (q p (rS.free hp)) (.ref p) (rS.new hp ⟨_,upd_same,(rs.cut lo hi).mono (.new hp)⟩) (.new hp)⟩
 ·cases r1
  exact sl_str pins s σ H _ v vl vu lo hi sl Q I rx hs pl pu ⟨_,rfl,q.1,k _ S _ H q.2 (.str _) rS .refl⟩
 ·split at q
  ·rename_i e
   cases r1
   obtain ⟨vs,hv,rs⟩:=rS _ _ e
   exact sl_list pins s σ H _ v vl vu lo hi sl Q I rx hs pl pu ⟨_,_,rfl,SqL.of hv,fun p hp=>k _ _ _ _ (q p (rS.free hp)) (.ref p) (rS.new hp ⟨_,upd_same,(rs.cut lo hi).mono (.new hp)⟩) (.new hp)⟩
  ·exact q.elim
 ·exact q.elim
noncomputable def slice3 (te:TE3) (tl th:TO3):TE3:=fun σ S Q E=>te σ S (fun x S1=>tl σ S1 (fun l S2=>th σ S2 (fun u S3=>slr3 x l u S3 Q) E) E) E
theorem e3slice {lo hi:Option Expr} {tl th:TO3} (he:PE3 X e te) (hl:PO3 X lo tl) (hu:PO3 X hi th):PE3 X (.Subscript e (.Slice lo hi none p2) pos) (slice3 te tl th):=
 ⟨PE_imp (pe_slice sl3 he.ok hl.ok hu.ok) fun σ H Q ⟨σ3,S,Q3,E3,rσ,rS,h,xo,k⟩=>⟨σ3,S,_,E3,rσ,rS,h,xo,fun x S1 v H1 h1 rx rS1 g1=>⟨σ3,S1,_,E3,rσ.mono g1,rS1,h1,xo.mono g1,fun l S2 H2 h2 rS2 g2=>
  ⟨σ3,S2,_,E3,rσ.mono (g1.trans g2),rS2,h2,xo.mono (g1.trans g2),fun u S3 H3 h3 rS3 g3=>⟨x,S3,Q3,rx.mono (g2.trans g3),rS3,h3,k.mono (g1.trans (g2.trans g3))⟩⟩⟩⟩⟩
theorem op_mulG:OpR X (binaryOp .Mult) (rI IntMulOk fun i j=>.int (i * j)):=opI fun _ _ _ _ _ _ _ hc q=>PyProof.Rows.mul_int q hc
noncomputable def mul3:R3:=fun x y S Q=>match x,y with
 | .int i,.int j=>IntMulOk i j∧Q (.int (i * j)) S
 | .ref a,.int j=>(match S a with | some (.lst xs)=>-(2 ^ 63) ≤ j∧j < 2 ^ 63∧xs.length * j.toNat ≤ sizeLine∧∀ p,S p = none→Q (.ref p) (upd3 S p (.lst (List.replicate j.toNat xs).flatten)) | _=>False)
 | _,_=>False
theorem Reps.rep {K:PySem.W.Frag} {H:Hp} {vs:List V} {ps:List PV} (r:Reps K H vs ps):∀ n:Nat,Reps K H (List.replicate n vs).flatten (List.replicate n ps).flatten
 | 0=>.nil
 | n + 1=>by
  rw [List.replicate_succ,List.replicate_succ,List.flatten_cons,List.flatten_cons]
  exact r.append (Reps.rep r n)
theorem op3mul:Op3 X (binaryOp .Mult) mul3:=⟨fun pins s σ H x y v u Q I rx ry ⟨px,py,S,Q3,r1,r2,rS,q,k⟩=>by
 unfold mul3 at q
 split at q
 ·cases r1; cases r2
  exact op_mulG pins s σ H _ _ v u Q I rx ry ⟨_,_,rfl,rfl,q.1,k _ S _ H q.2 (.int _) rS .refl⟩
 ·split at q
  ·rename_i e
   cases r1; cases r2
   obtain ⟨vs,hv,rs⟩:=rS _ _ e
   exact op_rep pins s σ H _ _ v u Q I rx ry ⟨_,_,_,rfl,rfl,hv,q.1,q.2.1,by rw [rs.length]; exact q.2.2.1,fun p hp=>k _ _ _ _ (q.2.2.2 p (rS.free hp)) (.ref p) (rS.new hp ⟨_,upd_same,(rs.rep _).mono (.new hp)⟩) (.new hp)⟩
  ·exact q.elim
 ·exact q.elim⟩
end
end L3
namespace L2
open PySem PySem.Spec PyProof.Rows
section
variable {X:Cx}
end
end L2
namespace L3
open PySem L2
noncomputable abbrev RC3:=List PV→Sto→VK3→Prop
section
variable {X:Cx} {e o:Expr} {es:List Expr} {te to:TE3} {ts:List TE3} {x:Str} {p pos apos cpos:Pos}
noncomputable def LC (X:Cx) (r:RC3):List V→Hp→VK→Prop:=fun xs H Q=>∃ ps S Q3,Reps X.K H xs ps∧RepS X.K H S∧r ps S Q3∧Ret X.K H Q3 Q
structure Call3 (X:Cx) (f:Value) (r:RC3):Prop where
 ok:CallR X f (LC X r)
noncomputable def callB3 (r:RC3) (ts:List TE3):TE3:=fun σ S Q E=>args3 ts σ S (fun ps S1=>r ps S1 Q) E
theorem lift_cb {r:RC3} {σ:L2.St} {H:Hp} {Q:VK}:LE X (callB3 r ts) σ H Q→tl2 (ts.map (LE X)) σ H fun vs H1=>LC X r vs H1 Q:=fun ⟨σ3,S,Q3,E3,rσ,rS,h,xo,k⟩=>
 lift_args rσ rS h xo fun ps S' vs H' hl q rv rS' g=>⟨ps,S',Q3,rv,rS',q,k.mono g⟩
theorem e3callB {id:String} {r:RC3} (hc:Call3 X (.builtin id) r) (hg:Gl X x) (hm:X.mg x = none) (hv:bootBuiltins x = some (.builtin id)) (he:starEach (e :: es) X.env = (false,eval e X.env) :: starEach es X.env) (ha:PL3 X (e :: es) ts)
  (hn:x ≠ "__name__":=by decide) (hdb:(x == ("__debug__":Str)) = false:=by decide) (hpl:(backTo pos (starEach es X.env)).any (·.1) = false:=by rfl):PE3 X (.Call (.Name x p) (e :: es) [] pos) (callB3 r ts):=
 ⟨PE_imp (pe_callB hc.ok hg hm hv ha.ok hn hdb he hpl) fun _ _ _=>lift_cb⟩
theorem e3callT {id:String} {r:RC3} (hc:Call3 X (.type id) r) (hg:Gl X x) (hm:X.mg x = none) (hv:bootBuiltins x = some (.type id)) (he:starEach (e :: es) X.env = (false,eval e X.env) :: starEach es X.env) (ha:PL3 X (e :: es) ts)
  (hn:x ≠ "__name__":=by decide) (hdb:(x == ("__debug__":Str)) = false:=by decide) (hpl:(backTo pos (starEach es X.env)).any (·.1) = false:=by rfl):PE3 X (.Call (.Name x p) (e :: es) [] pos) (callB3 r ts):=
 ⟨PE_imp (pe_callTy hc.ok hg hm hv ha.ok hn hdb he hpl) fun _ _ _=>lift_cb⟩
noncomputable def len3:RC3:=fun ps S Q=>match ps with
 | [.tup xs]=>Q (.int xs.length) S
 | [.cl xs]=>Q (.int xs.length) S
 | [.str z]=>z.length ≤ sizeLine∧Q (.int z.length) S
 | [.ref a]=>(match S a with | some (.lst xs)=>Q (.int xs.length) S | some (.dct kvs)=>Q (.int kvs.length) S | _=>False)
 | _=>False
theorem b3len:Call3 X (.builtin "len") len3:=⟨fun pins s σ H xs us Q I r ⟨ps,S,Q3,rp,rS,q,k⟩=>by
 unfold len3 at q
 split at q
 ·cases rp with | cons a rr=>cases rr; cases a with | tup h rs=>exact call_len_seq pins s σ H _ us Q I r ⟨_,_,rfl,.inr h,by rw [rs.length]; exact k _ S _ H q (.int _) rS .refl⟩
 ·cases rp with | cons a rr=>cases rr; cases a with | cl h rs=>exact call_len_seq pins s σ H _ us Q I r ⟨_,_,rfl,.inl h.sq,by rw [rs.length]; exact k _ S _ H q (.int _) rS .refl⟩
 ·cases rp with | cons a rr=>cases rr; cases a; exact call_len_str pins s σ H _ us Q I r ⟨_,rfl,q.1,k _ S _ H q.2 (.int _) rS .refl⟩
 ·cases rp with
  | cons a rr=>
   cases rr; cases a
   split at q
   ·rename_i e
    obtain ⟨vs,hv,rs⟩:=rS _ _ e
    exact call_len_seq pins s σ H _ us Q I r ⟨_,_,rfl,.inl (SqL.of hv),by rw [rs.length]; exact k _ S _ H q (.int _) rS .refl⟩
   ·rename_i e
    obtain ⟨vs,hv,rs⟩:=rS _ _ e
    exact call_lenD pins s σ H _ us Q I r ⟨_,_,rfl,hv,by rw [rs.length]; exact k _ S _ H q (.int _) rS .refl⟩
   ·exact q.elim
 ·exact q.elim⟩
noncomputable def abs3:RC3:=fun ps S Q=>match ps with | [.int i]=>Q (.int (if i < 0 then -i else i)) S | _=>False
theorem b3abs:Call3 X (.builtin "abs") abs3:=⟨fun pins s σ H xs us Q I r ⟨ps,S,Q3,rp,rS,q,k⟩=>by
 unfold abs3 at q
 split at q
 ·cases rp with | cons a rr=>cases rr; cases a; exact call_abs pins s σ H _ us Q I r ⟨_,rfl,k _ S _ H q (.int _) rS .refl⟩
 ·exact q.elim⟩
noncomputable def max23:RC3:=fun ps S Q=>match ps with | [.int i,.int j]=>Q (.int (if j > i then j else i)) S | _=>False
theorem b3max2 (hc:X.calm = true):Call3 X (.builtin "max") max23:=⟨fun pins s σ H xs us Q I r ⟨ps,S,Q3,rp,rS,q,k⟩=>by
 unfold max23 at q
 split at q
 ·cases rp with | cons a rr=>cases rr with | cons b r3=>cases r3; cases a; cases b; exact call_max2 hc pins s σ H _ us Q I r ⟨_,_,rfl,k _ S _ H q (.int _) rS .refl⟩
 ·exact q.elim⟩
noncomputable def min23:RC3:=fun ps S Q=>match ps with | [.int i,.int j]=>Q (.int (if j < i then j else i)) S | _=>False
noncomputable def tint3:RC3:=fun ps S Q=>match ps with | [.int i]=>Q (.int i) S | [.bl b]=>Q (.int (if b then 1 else 0)) S | _=>False
theorem b3int:Call3 X (.type "int") tint3:=⟨fun pins s σ H xs us Q I r ⟨ps,S,Q3,rp,rS,q,k⟩=>by
 unfold tint3 at q
 split at q
 ·cases rp with | cons a rr=>cases rr; cases a; exact call_int1 pins s σ H _ us Q I r (.inl ⟨_,rfl,k _ S _ H q (.int _) rS .refl⟩)
 ·cases rp with | cons a rr=>cases rr; cases a; exact call_int1 pins s σ H _ us Q I r (.inr ⟨_,rfl,k _ S _ H q (.int _) rS .refl⟩)
 ·exact q.elim⟩
noncomputable def tlist3:RC3:=fun ps S Q=>match ps with
 | [.str z]=>z.length ≤ sizeLine∧∀ p,S p = none→Q (.ref p) (upd3 S p (.lst (z.cps.toList.map fun c=>.str (sgn c))))
 | [v]=>(match seq3 S v with | some xs=>∀ p,S p = none→Q (.ref p) (upd3 S p (.lst xs)) | none=>False)
 | _=>False
theorem reps_chars {K:PySem.W.Frag} {H:Hp}:∀ cs:List Nat,Reps K H (cs.map fun c=>V.str (sgn c)) (cs.map fun c=>PV.str (sgn c))
 | []=>.nil
 | c :: r=>.cons (.str _) (reps_chars r)
theorem b3list (hc:X.calm = true):Call3 X (.type "list") tlist3:=⟨fun pins s σ H xs us Q I r ⟨ps,S,Q3,rp,rS,q,k⟩=>by
 unfold tlist3 at q
 split at q
 ·cases rp with | cons a rr=>cases rr; cases a; exact call_list_of_str hc pins s σ H _ us Q I r ⟨_,rfl,q.1,fun p hp=>k _ _ _ _ (q.2 p (rS.free hp)) (.ref p) (rS.new hp ⟨_,upd_same,(reps_chars _)⟩) (.new hp)⟩
 ·cases rp with
  | cons a rr=>
   cases rr
   split at q
   ·rename_i e
    obtain ⟨b,vs,rfl,hs,rs⟩:=seq_of rS a e
    exact call_list_of pins s σ H _ us Q I r ⟨_,_,rfl,hs,fun p hp=>k _ _ _ _ (q p (rS.free hp)) (.ref p) (rS.new hp ⟨_,upd_same,rs.mono (.new hp)⟩) (.new hp)⟩
   ·exact q.elim
 ·exact q.elim⟩
noncomputable def ttuple3:RC3:=fun ps S Q=>match ps with
 | [v]=>(match seq3 S v with | some xs=>Q (.tup xs) S | none=>False)
 | _=>False
theorem b3tuple:Call3 X (.type "tuple") ttuple3:=⟨fun pins s σ H xs us Q I r ⟨ps,S,Q3,rp,rS,q,k⟩=>by
 unfold ttuple3 at q
 split at q
 ·cases rp with
  | cons a rr=>
   cases rr
   split at q
   ·rename_i e
    obtain ⟨b,vs,rfl,hs,rs⟩:=seq_of rS a e
    rcases hs with hs | hs
    ·exact call_tuple_of pins s σ H _ us Q I r ⟨_,_,rfl,.inl ⟨hs,fun p hp=>k _ S _ _ q (.tup (SqT.of upd_same) (rs.mono (.new hp))) (rS.other hp) (.new hp)⟩⟩
    ·exact call_tuple_of pins s σ H _ us Q I r ⟨_,_,rfl,.inr ⟨hs,k _ S _ _ q (.tup hs rs) rS .refl⟩⟩
   ·exact q.elim
 ·exact q.elim⟩
noncomputable def repr3:RC3:=fun ps S Q=>match ps with
 | [.int _]=>False
 | [.str _]=>False
 | [.bl _]=>False
 | [.non]=>False
 | [.ty _]=>False
 | [v]=>∃ d,Dat S v d∧d.showable = true∧d.hasDict = false∧d.depth ≤ 100∧d.shown.length ≤ sizeLine∧Q (.str d.shown) S
 | _=>False
theorem b3repr (hu:X.A.units + 150 < cLine) (hg:X.A.guards = some []):Call3 X (.builtin "repr") repr3:=⟨fun pins s σ H xs us Q I r ⟨ps,S,Q3,rp,rS,q,k⟩=>by
 unfold repr3 at q
 have main:∀ {v:PV} {x:V} {u:Value} {a:Addr},u = .ref a→Rep X.K H x v→RelV x u→(∃ d,Dat S v d∧d.showable = true∧d.hasDict = false∧d.depth ≤ 100∧d.shown.length ≤ sizeLine∧Q3 (.str d.shown) S)→wpAny (model X.prog X.w) X.A (call (.builtin "repr") [u]) (EP X pins σ Q) X.xe s:=by
  rintro v x u a rfl rv rx ⟨d,hd,h1,h2,h3,h4,q⟩
  obtain ⟨as,R⟩:=hd.reads I rS rv rx
  exact repr_of_reads' R h1 (PyData.noDict_hsm h2) hg (by omega) (fun _ _ e=>e) (fun h' u tk hk=>⟨.str _,H,I.kept hk,⟨u,rfl⟩,k _ S _ H q (.str _) rS .refl⟩) h4
 split at q
 ·exact q.elim
 ·exact q.elim
 ·exact q.elim
 ·exact q.elim
 ·exact q.elim
 ·rename_i n1 n2 n3 n4 n5
  cases rp with
  | cons a rr=>
   cases rr
   cases r with
   | cons r1 r2=>
    cases r2
    cases a with
    | non=>exact absurd rfl n4
    | bl b=>exact absurd rfl (n3 b)
    | int i=>exact absurd rfl (n1 i)
    | str i=>exact absurd rfl (n2 i)
    | ty i=>exact absurd rfl (n5 i)
    | ref b=>cases r1; exact main rfl (.ref b) rfl q
    | tup h rs=>cases r1; exact main rfl (.tup h rs) rfl q
    | cl h rs=>cases r1; exact main rfl (.cl h rs) rfl q
    | exc h1 h2 rs=>cases r1; exact main rfl (.exc h1 h2 rs) rfl q
    | cls h=>cases r1; exact main rfl (.cls h) rfl q
 ·exact q.elim⟩
end
section
variable {X:Cx}
end
noncomputable abbrev RM3:=PV→List PV→Sto→VK3→Prop
section
variable {X:Cx} {e o:Expr} {es:List Expr} {te to:TE3} {ts:List TE3} {name:Str} {p pos apos cpos:Pos} {T id:String}
noncomputable def LM (X:Cx) (r:RM3):V→List V→Hp→VK→Prop:=fun x xs H Q=>∃ px ps S Q3,Rep X.K H x px∧Reps X.K H xs ps∧RepS X.K H S∧r px ps S Q3∧Ret X.K H Q3 Q
structure Mt3 (X:Cx) (id:String) (r:RM3):Prop where
 ok:MtR X id (LM X r)
noncomputable def ty3 (T:String) (x:PV) (S:Sto):Prop:=match x with
 | .str _=>T = "str"
 | .ref a=>(match S a with | some (.lst _)=>T = "list" | some (.dct _)=>T = "dict" | _=>False)
 | .cl _=>T = "list"
 | _=>False
theorem ty3_ok {H:Hp} {S:Sto} {v:V} {p:PV} (rS:RepS X.K H S) (r:Rep X.K H v p) (h:ty3 T p S):tyV X.K T v H:=by
 cases r with
 | str x=>exact h
 | ref a=>
  unfold ty3 at h
  simp only at h
  split at h
  ·rename_i e
   obtain ⟨vs,hv,_⟩:=rS _ _ e
   exact .inl ⟨h,_,SqL.of hv⟩
  ·rename_i e
   obtain ⟨vs,hv,_⟩:=rS _ _ e
   exact .inr (.inr (.inl ⟨h,.inl ⟨_,hv⟩⟩))
  ·exact h.elim
 | cl h1 _=>exact .inl ⟨h,_,h1.sq⟩
 | _=>exact h.elim
noncomputable def bm3 (T:String) (r:RM3) (to:TE3) (ts:List TE3):TE3:=fun σ S Q E=>to σ S (fun x S1=>ty3 T x S1∧args3 ts σ S1 (fun ps S2=>r x ps S2 Q) E) E
theorem e3bm {r:RM3} (pa:PlainAttrs T) (slot:Slot T name id) (hty:typeOf (.builtin id) = pure (.type "method_descriptor")) (hm:Mt3 X id r) (hs:starEach (e :: es) X.env = (false,eval e X.env) :: starEach es X.env) (ho:PE3 X o to) (ha:PL3 X (e :: es) ts)
  (hbase:attributeBase o name X.env (eval o X.env) = eval o X.env:=by rfl)
  (hfew:((backTo cpos (starEach (e :: es) X.env)).all (fun x=>!x.1) && (backToKw cpos (keywordEach [] X.env)).all (fun x=>x.1.isSome)
   && decide ((e :: es).length + ([]:List Keyword).length + (if ([]:List Keyword).isEmpty then 0 else 1) < 30)) = true:=by rfl)
  (hline:(apos.endLine == cpos.line) = true:=by rfl) (hplain:(backTo cpos (starEach es X.env)).any (·.1) = false:=by rfl):PE3 X (.Call (.Attribute o name apos) (e :: es) [] cpos) (bm3 T r to ts):=
 ⟨PE_imp (pe_bm pa slot hty hm.ok ho.ok ha.ok hbase hfew hline hs hplain) fun σ H Q ⟨σ3,S,Q3,E3,rσ,rS,h,xo,k⟩=>⟨σ3,S,_,E3,rσ,rS,h,xo,fun x S1 v H1 h1 rx rS1 g1=>
  ⟨ty3_ok rS1 rx h1.1,lift_args (rσ.mono g1) rS1 h1.2 (xo.mono g1) fun ps S2 vs H2 hl q rv rS2 g2=>⟨x,ps,S2,Q3,rx.mono g2,rv,rS2,q,k.mono (g1.trans g2)⟩⟩⟩⟩
theorem e3bm0 {r:RM3} (pa:PlainAttrs T) (slot:Slot T name id) (hty:typeOf (.builtin id) = pure (.type "method_descriptor")) (hm:Mt3 X id r) (ho:PE3 X o to)
  (hbase:attributeBase o name X.env (eval o X.env) = eval o X.env:=by rfl) (hline:(apos.endLine == cpos.line) = true:=by rfl):PE3 X (.Call (.Attribute o name apos) [] [] cpos) (bm3 T r to []):=
 ⟨PE_imp (pe_bm0 pa slot hty hm.ok ho.ok hbase hline) fun σ H Q ⟨σ3,S,Q3,E3,rσ,rS,h,xo,k⟩=>⟨σ3,S,_,E3,rσ,rS,h,xo,fun x S1 v H1 h1 rx rS1 g1=>
  ⟨ty3_ok rS1 rx h1.1,⟨x,[],S1,Q3,rx,.nil,rS1,h1.2,k.mono g1⟩⟩⟩⟩
noncomputable def append3:RM3:=fun x ps S Q=>match x,ps with
 | .ref a,[y]=>(match S a with | some (.lst xs)=>xs.length < sizeLine∧Q .non (upd3 S a (.lst (xs ++ [y]))) | _=>False)
 | _,_=>False
theorem m3append:Mt3 X "list.append" append3:=⟨fun pins s σ H x xs v us Q I rx rs ⟨px,ps,S,Q3,r1,rp,rS,q,k⟩=>by
 unfold append3 at q
 split at q
 ·split at q
  ·rename_i e
   cases r1
   cases rp with
   | cons b rr=>
    cases rr
    obtain ⟨vs,hv,rl⟩:=rS _ _ e
    exact mt_append pins s σ H _ _ v us Q I rx rs ⟨_,_,_,rfl,rfl,hv,by rw [rl.length]; exact q.1,k _ _ _ _ q.2 .non (rS.put hv trivial ⟨_,upd_same,(rl.append (.cons b .nil)).mono (.mut hv trivial)⟩) (.mut hv trivial)⟩
  ·exact q.elim
 ·exact q.elim⟩
noncomputable def extend3:RM3:=fun x ps S Q=>match x,ps with
 | .ref a,[.ref b]=>(match S a,S b with | some (.lst xs),some (.lst ys)=>xs.length + ys.length ≤ sizeLine∧Q .non (upd3 S a (.lst (xs ++ ys))) | _,_=>False)
 | _,_=>False
theorem m3extend:Mt3 X "list.extend" extend3:=⟨fun pins s σ H x xs v us Q I rx rs ⟨px,ps,S,Q3,r1,rp,rS,q,k⟩=>by
 unfold extend3 at q
 split at q
 ·split at q
  ·rename_i e e2
   cases r1
   cases rp with
   | cons b rr=>
    cases rr
    cases b
    obtain ⟨vs,hv,rl⟩:=rS _ _ e
    obtain ⟨us',hu,ru⟩:=rS _ _ e2
    exact mt_extend pins s σ H _ _ v us Q I rx rs ⟨_,_,_,_,rfl,rfl,hv,hu,by rw [rl.length,ru.length]; exact q.1,k _ _ _ _ q.2 .non (rS.put hv trivial ⟨_,upd_same,(rl.append ru).mono (.mut hv trivial)⟩) (.mut hv trivial)⟩
  ·exact q.elim
 ·exact q.elim⟩
noncomputable def pop3:RM3:=fun x ps S Q=>match x,ps with
 | .ref a,[]=>(match S a with | some (.lst xs)=>(match xs[xs.length - 1]? with | some y=>Q y (upd3 S a (.lst xs.dropLast)) | none=>False) | _=>False)
 | .ref a,[.int i]=>(match S a with | some (.lst xs)=>-(2 ^ 63) ≤ i∧i < 2 ^ 63∧(match seqIndex? i xs.length with | some j=>(match xs[j]? with | some y=>Q y (upd3 S a (.lst (xs.eraseIdx j))) | none=>False) | none=>False) | _=>False)
 | _,_=>False
theorem m3pop:Mt3 X "list.pop" pop3:=⟨fun pins s σ H x xs v us Q I rx rs ⟨px,ps,S,Q3,r1,rp,rS,q,k⟩=>by
 unfold pop3 at q
 split at q
 ·split at q
  ·rename_i e
   split at q
   ·rename_i ey
    cases r1
    cases rp
    obtain ⟨vs,hv,rl⟩:=rS _ _ e
    rw [← rl.length] at ey
    obtain ⟨y',ey',ry⟩:=rl.get ey
    exact mt_pop pins s σ H _ _ v us Q I rx rs ⟨_,_,_,rfl,rfl,hv,ey',k _ _ _ _ q (ry.mono (.mut hv trivial)) (rS.put hv trivial ⟨_,upd_same,rl.dropLast.mono (.mut hv trivial)⟩) (.mut hv trivial)⟩
   ·exact q.elim
  ·exact q.elim
 ·split at q
  ·rename_i e
   obtain ⟨h1,h2,q⟩:=q
   split at q
   ·rename_i ej
    split at q
    ·rename_i ey
     cases r1
     cases rp with
     | cons b rr=>
      cases rr; cases b
      obtain ⟨vs,hv,rl⟩:=rS _ _ e
      obtain ⟨y',ey',ry⟩:=rl.get ey
      rw [← rl.length] at ej
      exact mt_popAt pins s σ H _ _ v us Q I rx rs ⟨_,_,_,_,_,rfl,rfl,hv,h1,h2,ej,ey',k _ _ _ _ q (ry.mono (.mut hv trivial)) (rS.put hv trivial ⟨_,upd_same,(rl.eraseIdx _).mono (.mut hv trivial)⟩) (.mut hv trivial)⟩
    ·exact q.elim
   ·exact q.elim
  ·exact q.elim
 ·exact q.elim⟩
noncomputable def texts:List PV→Option (List Str)
 | []=>some []
 | .str b :: r=>(texts r).map (b :: ·)
 | _ :: _=>none
theorem reps_texts {K:PySem.W.Frag} {H:Hp}:∀ {vs:List V} {ps:List PV} {bs:List Str},Reps K H vs ps→texts ps = some bs→vs = bs.map V.str
 | _,_,_,.nil,h=>by cases h; rfl
 | _,_,bs,.cons (p:=p) a r,h=>by
  cases p with
  | str b=>
   cases a
   unfold texts at h
   cases e:texts _ with
   | none=>rw [e] at h; cases h
   | some l=>rw [e] at h; cases h; rw [reps_texts r e]; rfl
  | _=>cases h
noncomputable def join3:RM3:=fun x ps S Q=>match x,ps with
 | .str z,[.ref a]=>(match S a with | some (.lst xs)=>(match texts xs with | some ys=>(ys.map (·.length)).sum + ys.length * z.length ≤ 1000000∧Q (.str (Txt.join z ys)) S | none=>False) | _=>False)
 | _,_=>False
theorem m3join:Mt3 X "str.join" join3:=⟨fun pins s σ H x xs v us Q I rx rs ⟨px,ps,S,Q3,r1,rp,rS,q,k⟩=>by
 unfold join3 at q
 split at q
 ·split at q
  ·rename_i e
   split at q
   ·rename_i et
    cases r1
    cases rp with
    | cons b rr=>
     cases rr; cases b
     obtain ⟨vs,hv,rl⟩:=rS _ _ e
     have e2:=reps_texts rl et
     subst e2
     exact mt_join pins s σ H _ _ v us Q I rx rs ⟨_,_,_,rfl,rfl,SqL.of hv,q.1,k _ S _ H q.2 (.str _) rS .refl⟩
   ·exact q.elim
  ·exact q.elim
 ·exact q.elim⟩
noncomputable def index3:RM3:=fun x ps S Q=>match x,ps with
 | .str a,[.str b]=>(match Builtin.Str.occurrences a b 0 a.length 1 with | i :: _=>Q (.int i) S | []=>False)
 | _,_=>False
theorem m3index:Mt3 X "str.index" index3:=⟨fun pins s σ H x xs v us Q I rx rs ⟨px,ps,S,Q3,r1,rp,rS,q,k⟩=>by
 unfold index3 at q
 split at q
 ·split at q
  ·rename_i e
   cases r1
   cases rp with
   | cons b rr=>
    cases rr; cases b
    exact mt_index pins s σ H _ _ v us Q I rx rs ⟨_,_,_,_,rfl,rfl,e,k _ S _ H q (.int _) rS .refl⟩
  ·exact q.elim
 ·exact q.elim⟩
end
section
variable {X:Cx} {e c:Expr} {te:TE3} {st:Stmt} {rest a b:List Stmt} {t u:TS3} {tc:TT3} {pos:Pos}
noncomputable def nil3:TS3:=fun D σ S=>D.nx σ S
noncomputable def cons3 (t u:TS3):TS3:=fun D σ S=>t { D with nx:=u D } σ S
theorem s3nil:PSs3 X [] nil3:=⟨PSs_imp pss_nil fun D σ H ⟨σ3,S,D3,rσ,rS,h,xo,n,r,bk,ct⟩=>n σ3 S σ H h rσ rS .refl⟩
theorem s3cons (h1:PS3 X st t) (h2:PSs3 X rest u):PSs3 X (st :: rest) (cons3 t u):=
 ⟨PSs_imp (pss_cons h1.ok h2.ok) fun D σ H ⟨σ3,S,D3,rσ,rS,h,xo,n,r,bk,ct⟩=>⟨σ3,S,{ D3 with nx:=u D3 },rσ,rS,h,xo,fun σ4 S' σ' H' h' rσ' rS' g=>⟨σ4,S',D3,rσ',rS',h',xo.mono g,n.mono g,r.mono g,bk.mono g,ct.mono g⟩,r,bk,ct⟩⟩
theorem s3one (h1:PS3 X st t):PSs3 X [st] t:=⟨pss_one h1.ok⟩
noncomputable def expr3 (te:TE3):TS3:=fun D σ S=>te σ S (fun _ S1=>D.nx σ S1) D.ex
theorem s3expr (he:PE3 X e te) (hs:swapsWith e none pos.line X.env = pure false:=by rfl):PS3 X (.Expr e pos) (expr3 te):=
 ⟨PS_imp (ps_expr he.ok hs) fun D σ H ⟨σ3,S,D3,rσ,rS,h,xo,n,r,bk,ct⟩=>⟨σ3,S,_,D3.ex,rσ,rS,h,xo,fun p S1 v H1 h1 rv rS1 g1=>n σ3 S1 σ H1 h1 (rσ.mono g1) rS1 g1⟩⟩
noncomputable def ret3 (te:TE3):TS3:=fun D σ S=>te σ S D.rt D.ex
theorem s3ret (he:PE3 X e te):PS3 X (.Return (some e) pos) (ret3 te):=
 ⟨PS_imp (ps_ret he.ok) fun D σ H ⟨σ3,S,D3,rσ,rS,h,xo,n,r,bk,ct⟩=>⟨σ3,S,D3.rt,D3.ex,rσ,rS,h,xo,r⟩⟩
noncomputable def if3 (c:TT3) (t u:TS3):TS3:=fun D σ S=>c σ S (fun b S1=>if b = true then t D σ S1 else u D σ S1) D.ex
theorem s3if (hc:PT3 X c tc) (ha:PSs3 X a t) (hb:PSs3 X b u):PS3 X (.If c a b pos) (if3 tc t u):=
 ⟨PS_imp (ps_if hc.ok ha.ok hb.ok) fun D σ H ⟨σ3,S,D3,rσ,rS,h,xo,n,r,bk,ct⟩=>⟨σ3,S,_,D3.ex,rσ,rS,h,xo,fun z S1 H1 h1 rS1 g1=>by
  cases z with
  | true=>rw [if_pos rfl] at h1 ⊢; exact ⟨σ3,S1,D3,rσ.mono g1,rS1,h1,xo.mono g1,n.mono g1,r.mono g1,bk.mono g1,ct.mono g1⟩
  | false=>rw [if_neg (by decide)] at h1 ⊢; exact ⟨σ3,S1,D3,rσ.mono g1,rS1,h1,xo.mono g1,n.mono g1,r.mono g1,bk.mono g1,ct.mono g1⟩⟩⟩
noncomputable def set3 (i:Nat) (te:TE3):TS3:=fun D σ S=>te σ S (fun v S1=>D.nx (σ.set i (some v)) S1) D.ex
theorem lift_set {i:Nat} {D:Ends} {σ:L2.St} {H:Hp}:LS X (set3 i te) D σ H→tAsg (LE X te) (gName i) D σ H:=fun ⟨σ3,S,D3,rσ,rS,h,xo,n,r,bk,ct⟩=>
 ⟨σ3,S,_,D3.ex,rσ,rS,h,xo,fun p S1 v H1 h1 rv rS1 g1=>n _ S1 _ H1 h1 ((rσ.mono g1).set rv i) rS1 g1⟩
theorem s3set {i:Nat} {x:Str} {pos':Pos} (hN:X.N.Nodup) (hi:X.N[i]? = some x) (hx:Loc X.env.scope x) (he:PE3 X e te) (hs:swapsWith e (some (.Name x pos')) pos.line X.env = pure false:=by rfl)
  (hf:X.fn x = true ∨ X.env.scope.names.lookup x = some .local:=by first | exact .inl rfl | exact .inr rfl | assumption):PS3 X (.Assign [.Name x pos'] e pos) (set3 i te):=⟨PS_imp (ps_set hN hi hx he.ok hs hf) fun _ _ _=>lift_set⟩
noncomputable def par3 (i j:Nat) (ta tb:TE3):TS3:=fun D σ S=>ta σ S (fun v S1=>tb σ S1 (fun w S2=>D.nx ((σ.set i (some v)).set j (some w)) S2) D.ex) D.ex
theorem s3par {i j:Nat} {x y:Str} {a b:Expr} {ta tb:TE3} {px py pt:Pos} {kt k2 pt2} (hc:X.calm = true) (hN:X.N.Nodup) (hi:X.N[i]? = some x) (hj:X.N[j]? = some y) (hij:i ≠ j)
  (hx:X.env.scope.names.lookup x = some .local) (hy:X.env.scope.names.lookup y = some .local) (ha:PL3 X [a,b] [ta,tb])
  (hw:swappedStores [.Tuple [.Name x px,.Name y py] kt pt] (.Tuple [a,b] k2 pt2) X.env = pure (some [x,y]):=by rfl)
  (hs:swapsWithSole [.Tuple [.Name x px,.Name y py] kt pt] (.Tuple [a,b] k2 pt2) pos.line X.env = pure false:=by rfl) :
  PS3 X (.Assign [.Tuple [.Name x px,.Name y py] kt pt] (.Tuple [a,b] k2 pt2) pos) (par3 i j ta tb):=
 ⟨PS_imp (ps_par hc hN hi hj hij hx hy ha.ok hw hs) fun D σ H ⟨σ3,S,D3,rσ,rS,h,xo,n,r,bk,ct⟩=>
  ⟨σ3,S,_,D3.ex,rσ,rS,h,xo,fun v S1 v' H1 h1 rv rS1 g1=>⟨σ3,S1,_,D3.ex,rσ.mono g1,rS1,h1,xo.mono g1,fun w S2 w' H2 h2 rw' rS2 g2=>
   ⟨v',w',rfl,n _ S2 _ H2 h2 (((rσ.mono (g1.trans g2)).set (rv.mono g2) i).set rw' j) rS2 (g1.trans g2)⟩⟩⟩⟩
noncomputable def three3 (i j k:Nat) (te:TE3):TS3:=fun D σ S=>te σ S (fun p S1=>match p with | .tup [v,w,u]=>D.nx (((σ.set k (some u)).set j (some w)).set i (some v)) S1 | _=>False) D.ex
theorem s3three {i j k:Nat} {x y z:Str} {px py pz pt:Pos} {kt:Nat} (hc:X.calm = true) (hN:X.N.Nodup) (hi:X.N[i]? = some x) (hj:X.N[j]? = some y) (hk:X.N[k]? = some z)
  (hx:X.env.scope.names.lookup x = some .local) (hy:X.env.scope.names.lookup y = some .local) (hz:X.env.scope.names.lookup z = some .local) (he:PE3 X e te)
  (hw:swappedStores [.Tuple [.Name x px,.Name y py,.Name z pz] kt pt] e X.env = pure (some [x,y,z]):=by rfl)
  (hs:swapsWithSole [.Tuple [.Name x px,.Name y py,.Name z pz] kt pt] e pos.line X.env = pure false:=by rfl):PS3 X (.Assign [.Tuple [.Name x px,.Name y py,.Name z pz] kt pt] e pos) (three3 i j k te):=
 ⟨PS_imp (ps_three hc hN hi hj hk hx hy hz he.ok hw hs) fun D σ H ⟨σ3,S,D3,rσ,rS,h,xo,n,r,bk,ct⟩=>⟨σ3,S,_,D3.ex,rσ,rS,h,xo,fun p S1 v H1 h1 rv rS1 g1=>by
  dsimp only at h1
  split at h1
  ·cases rv with
   | tup hq rs=>
    cases rs with
    | cons r1 rs=>
     cases rs with
     | cons r2 rs=>
      cases rs with
      | cons r3 rs=>
       cases rs
       exact ⟨_,_,_,_,rfl,hq,n _ S1 _ H1 h1 ((((rσ.mono g1).set r3 k).set r2 j).set r1 i) rS1 g1⟩
  ·exact h1.elim⟩⟩
inductive Tg where
 | n (i:Nat) | tp (l:Tg) | nil | cons (a r:Tg)
mutual
noncomputable def Tg.put:Tg→PV→St3→Option St3
 | .n i,p,σ=>some (σ.set i (some p))
 | .tp l,.tup xs,σ=>l.puts xs σ
 | _,_,_=>none
noncomputable def Tg.puts:Tg→List PV→St3→Option St3
 | .nil,[],σ=>some σ
 | .cons a r,x :: xs,σ=>(match a.put x σ with | some σ'=>r.puts xs σ' | none=>none)
 | _,_,_=>none
end
noncomputable def Tg.len:Tg→Nat
 | .cons _ r=>r.len + 1
 | _=>0
mutual
noncomputable def Tg.g2 (K:PySem.W.Frag):Tg→TG
 | .n i=>gName i
 | .tp l=>gTup K l.len (l.gs2 K)
 | _=>fun _ _ _ _=>False
noncomputable def Tg.gs2 (K:PySem.W.Frag):Tg→TGs
 | .nil=>gNil
 | .cons a r=>gCons (a.g2 K) (r.gs2 K)
 | _=>fun _ _ _ _=>False
end
noncomputable def Tg.under (own:Nat):Tg→Bool
 | .n i=>decide (i < own)
 | .tp l=>l.under own
 | .nil=>true
 | .cons a r=>a.under own && r.under own
theorem Tg.puts_len:∀ (g:Tg) {ps:List PV} {σ3 σ4:St3},g.puts ps σ3 = some σ4→ps.length = g.len
 | .nil,ps,σ3,σ4,h=>by
  cases ps with
  | nil=>rfl
  | cons _ _=>unfold Tg.puts at h; cases h
 | .cons a r,ps,σ3,σ4,h=>by
  cases ps with
  | nil=>unfold Tg.puts at h; cases h
  | cons x xs=>
   unfold Tg.puts at h
   split at h
   ·rw [List.length_cons,Tg.puts_len r h]; rfl
   ·cases h
 | .n _,ps,σ3,σ4,h=>by unfold Tg.puts at h; cases h
 | .tp _,ps,σ3,σ4,h=>by unfold Tg.puts at h; cases h
mutual
theorem Tg.put_ok {K:PySem.W.Frag} {H:Hp} {own:Nat}:∀ (g:Tg) {v:V} {p:PV} {σ:L2.St} {σ3 σ4:St3} {Q:L2.St→Hp→Prop},Rep K H v p→RepSt K H σ σ3→g.put p σ3 = some σ4→(∀ σ',RepSt K H σ' σ4→(g.under own = true→σ'.drop own = σ.drop own)→Q σ' H)→g.g2 K v σ H Q
 | .n i,v,p,σ,σ3,σ4,Q,r,rσ,h,k=>by
  unfold Tg.put at h
  cases h
  unfold Tg.g2
  refine k _ (rσ.set r i) fun hb=>?_
  have hi:i < own:=of_decide_eq_true hb
  rw [List.drop_set]
  rw [if_pos hi]
 | .tp l,v,p,σ,σ3,σ4,Q,r,rσ,h,k=>by
  cases p with
  | tup xs=>
   unfold Tg.put at h
   cases r with
   | tup hq rs=>
    have hg:=Tg.puts_ok (own:=own) l rs rσ h k
    unfold Tg.g2
    exact ⟨_,_,rfl,hq,rs.length.trans (Tg.puts_len l h),hg⟩
  | _=>unfold Tg.put at h; cases h
 | .nil,v,p,σ,σ3,σ4,Q,r,rσ,h,k=>by unfold Tg.put at h; cases h
 | .cons _ _,v,p,σ,σ3,σ4,Q,r,rσ,h,k=>by unfold Tg.put at h; cases h
theorem Tg.puts_ok {K:PySem.W.Frag} {H:Hp} {own:Nat}:∀ (g:Tg) {vs:List V} {ps:List PV} {σ:L2.St} {σ3 σ4:St3} {Q:L2.St→Hp→Prop},Reps K H vs ps→RepSt K H σ σ3→g.puts ps σ3 = some σ4→(∀ σ',RepSt K H σ' σ4→(g.under own = true→σ'.drop own = σ.drop own)→Q σ' H)→g.gs2 K vs σ H Q
 | .nil,vs,ps,σ,σ3,σ4,Q,r,rσ,h,k=>by
  cases ps with
  | nil=>
   unfold Tg.puts at h
   cases h
   cases r
   unfold Tg.gs2
   exact ⟨rfl,k _ rσ fun _=>rfl⟩
  | cons _ _=>unfold Tg.puts at h; cases h
 | .cons a r',vs,ps,σ,σ3,σ4,Q,r,rσ,h,k=>by
  cases ps with
  | nil=>unfold Tg.puts at h; cases h
  | cons x xs=>
   unfold Tg.puts at h
   split at h
   ·rename_i σ5 e5
    cases r with
    | cons r1 r2=>
     unfold Tg.gs2
     refine ⟨_,_,rfl,Tg.put_ok (own:=own) a r1 rσ e5 fun σ' rσ' d1=>Tg.puts_ok (own:=own) r' r2 rσ' h fun σ'' rσ'' d2=>k σ'' rσ'' fun hb=>?_⟩
     have hb':a.under own = true∧r'.under own = true:=by simpa [Tg.under] using hb
     rw [d2 hb'.2,d1 hb'.1]
   ·cases h
 | .n _,vs,ps,σ,σ3,σ4,Q,r,rσ,h,k=>by unfold Tg.puts at h; cases h
 | .tp _,vs,ps,σ,σ3,σ4,Q,r,rσ,h,k=>by unfold Tg.puts at h; cases h
end
structure PGt (X:Cx) (e:Expr) (g:Tg):Prop where
 ok:PG X e (g.g2 X.K)
structure PGts (X:Cx) (es:List Expr) (g:Tg):Prop where
 ok:PGs X es (g.gs2 X.K)
 len:(assignEach es X.env).length = g.len
theorem g3n (i:Nat) {x:Str} (hN:X.N.Nodup) (hi:X.N[i]? = some x) (hx:Loc X.env.scope x) (hf:X.fn x = true ∨ X.env.scope.names.lookup x = some .local:=by first | exact .inl rfl | exact .inr rfl | assumption):PGt X (.Name x pos) (.n i):=⟨by
 have h:=pg_name (pos:=pos) hN hi hx hf
 unfold Tg.g2
 exact h⟩
theorem g3nil:PGts X [] .nil:=⟨by unfold Tg.gs2; exact pgs_nil,rfl⟩
theorem g3cons {es:List Expr} {a r:Tg} (h1:PGt X e a) (h2:PGts X es r) (hs:(assignEach (e :: es) X.env).map (·.2) = assign e X.env :: (assignEach es X.env).map (·.2):=by rfl) (hl:(assignEach (e :: es) X.env).length = (assignEach es X.env).length + 1:=by rfl):PGts X (e :: es) (.cons a r):=
 ⟨by unfold Tg.gs2; exact pgs_cons h1.ok h2.ok hs,by rw [hl,h2.len]; rfl⟩
theorem g3t {es:List Expr} {k:Nat} {l:Tg} (hc:X.calm = true) (h:PGts X es l) (hst:(assignEach es X.env).findIdx? (·.1) = none:=by rfl):PGt X (.Tuple es k pos) (.tp l):=⟨by
 have h:=pg_tup (pos:=pos) (k:=k) hc h.ok h.len hst
 unfold Tg.g2
 exact h⟩
noncomputable def asg3 (te:TE3) (g:Tg):TS3:=fun D σ S=>te σ S (fun v S1=>match g.put v σ with | some σ'=>D.nx σ' S1 | none=>False) D.ex
theorem s3asg {tg:Expr} {g:Tg} (he:PE3 X e te) (hg:PGt X tg g) (hs:swapsWithSole [tg] e pos.line X.env = pure false:=by rfl) (hw:swappedStores [tg] e X.env = pure none:=by rfl)
  (h1:(assignEach [tg] X.env).map (·.2) = [assign tg X.env]:=by rfl):PS3 X (.Assign [tg] e pos) (asg3 te g):=
 ⟨PS_imp (ps_asg he.ok hg.ok hs hw h1) fun D σ H ⟨σ3,S,D3,rσ,rS,h,xo,n,r,bk,ct⟩=>⟨σ3,S,_,D3.ex,rσ,rS,h,xo,fun p S1 v H1 h1 rv rS1 g1=>by
  dsimp only at h1
  split at h1
  ·rename_i σ' e'
   exact Tg.put_ok (own:=0) g rv (rσ.mono g1) e' fun σ2 rσ2 _=>n _ S1 _ H1 h1 rσ2 rS1 g1
  ·exact h1.elim⟩⟩
end
noncomputable def put3 {κ:Type} [DecidableEq κ] (kvs:List (κ × PV)) (k:κ) (v:PV):List (κ × PV):=
 if (kvs.any fun kv=>decide (kv.1 = k)) = true then kvs.map (fun kv=>if kv.1 = k then (kv.1,v) else kv) else kvs ++ [(k,v)]
theorem RepP.append {K:PySem.W.Frag} {H:Hp} {κ:Type}:∀ {vs us:List (κ × V)} {ps qs:List (κ × PV)},RepP K H vs ps→RepP K H us qs→RepP K H (vs ++ us) (ps ++ qs)
 | _,_,_,_,.nil,s=>s
 | _,_,_,_,.cons a r,s=>.cons a (RepP.append r s)
theorem RepP.put {K:PySem.W.Frag} {H:Hp} {κ:Type} [DecidableEq κ] {k:κ} {v:V} {p:PV} (q:Rep K H v p) {vs:List (κ × V)} {ps:List (κ × PV)} (r:RepP K H vs ps):RepP K H (putK vs k v) (put3 ps k p):=by
 have e:(vs.any fun kv=>decide (kv.1 = k)) = (ps.any fun kv=>decide (kv.1 = k)):=by rw [valV_any,r.any]
 unfold putK put3
 rw [e]
 split
 ·clear e
  rename_i h
  clear h
  induction r with
  | nil=>exact .nil
  | @cons k' v' p' vs' ps' a r ih=>
   rw [List.map_cons,List.map_cons]
   by_cases z:k' = k
   ·rw [if_pos z,if_pos z]; exact .cons q ih
   ·rw [if_neg z,if_neg z]; exact .cons a ih
 ·exact r.append (.cons q .nil)
noncomputable def setIt3 (o i v:PV) (S:Sto) (Q:Sto→Prop):Prop:=match o with
 | .ref a=>(match S a with
  | some (.lst xs)=>(match i with | .int k=>(match ixN xs.length k with | some j=>Q (upd3 S a (.lst (xs.set j v))) | none=>False) | _=>False)
  | some (.dct kvs)=>(match key3 i with | some k=>kvs.length < sizeLine∧Q (upd3 S a (.dct (put3 kvs k v))) | none=>False)
  | _=>False)
 | _=>False
section
variable {X:Cx} {e o i:Expr} {te to ti:TE3} {pos pos':Pos}
noncomputable def LSet (X:Cx):V→V→V→Hp→(Hp→Prop)→Prop:=fun o i v H Q=>∃ po pi pv S Q3,Rep X.K H o po∧Rep X.K H i pi∧Rep X.K H v pv∧RepS X.K H S∧setIt3 po pi pv S Q3∧∀ S' H',Q3 S'→RepS X.K H' S'→Grow X.K H H'→Q H'
theorem set3ok (hu:X.A.units + 1 < cLine):PSet X (LSet X):=by
 intro pins s σ H o i v ov iv u Q I ro ri rv ⟨po,pi,pv,S,Q3,r1,r2,r3,rS,q,k⟩
 unfold setIt3 at q
 split at q
 ·split at q
  ·rename_i e
   split at q
   ·split at q
    ·rename_i ej
     cases r1; cases r2
     obtain ⟨vs,hv,rl⟩:=rS _ _ e
     rw [← rl.length] at ej
     exact set_list pins s σ H _ _ _ ov iv u Q I ro ri rv ⟨_,_,_,_,rfl,rfl,hv,ej,k _ _ q (rS.put hv trivial ⟨_,upd_same,((rl.set r3 _).mono (.mut hv trivial))⟩) (.mut hv trivial)⟩
    ·exact q.elim
   ·exact q.elim
  ·rename_i e
   split at q
   ·rename_i ek
    cases r1
    have e1:=key_of r2 ek
    subst e1
    obtain ⟨kv,hv,rk⟩:=rS _ _ e
    exact set_dict hu pins s σ H _ _ _ ov iv u Q I ro ri rv ⟨_,_,rfl,DPut.k hv (by rw [rk.length]; exact q.1),k _ _ q.2 (rS.put hv trivial ⟨_,upd_same,(rk.put r3).mono (.mut hv trivial)⟩) (.mut hv trivial)⟩
   ·exact q.elim
  ·exact q.elim
 ·exact q.elim
noncomputable def sub3 (te to ti:TE3):TS3:=fun D σ S=>te σ S (fun v S1=>to σ S1 (fun o S2=>ti σ S2 (fun i S3=>setIt3 o i v S3 (fun S4=>D.nx σ S4)) D.ex) D.ex) D.ex
theorem s3sub (hu:X.A.units + 1 < cLine) (he:PE3 X e te) (ho:PE3 X o to) (hi:PE3 X i ti)
  (ha:∀ v,assign (.Subscript o i pos') X.env v = (do
   let ov ← holding [v] (eval o X.env)
   let iv ← holding [v,ov] (eval i X.env)
   standAt pos'
   holding [v,ov,iv] (setItem ov iv v)
   release [v,ov,iv] []):=by intro _; rfl)
  (hs:swapsWithSole [.Subscript o i pos'] e pos.line X.env = pure false:=by rfl) (hw:swappedStores [.Subscript o i pos'] e X.env = pure none:=by rfl)
  (h1:(assignEach [.Subscript o i pos'] X.env).map (·.2) = [assign (.Subscript o i pos') X.env]:=by rfl):PS3 X (.Assign [.Subscript o i pos'] e pos) (sub3 te to ti):=
 ⟨PS_imp (ps_asg he.ok (pg_sub ho.ok hi.ok (set3ok hu) ha) hs hw h1) fun D σ H ⟨σ3,S,D3,rσ,rS,h,xo,n,r,bk,ct⟩=>⟨σ3,S,_,D3.ex,rσ,rS,h,xo,fun v S1 v' H1 h1 rv rS1 g1=>
  ⟨σ3,S1,_,D3.ex,rσ.mono g1,rS1,h1,xo.mono g1,fun o S2 o' H2 h2 ro rS2 g2=>⟨σ3,S2,_,D3.ex,rσ.mono (g1.trans g2),rS2,h2,xo.mono (g1.trans g2),fun i S3 i' H3 h3 ri rS3 g3=>
   ⟨o,i,v,S3,_,ro.mono g3,ri,rv.mono (g2.trans g3),rS3,h3,fun S4 H4 h4 rS4 g4=>n _ S4 _ H4 h4 (rσ.mono (g1.trans (g2.trans (g3.trans g4)))) rS4 (g1.trans (g2.trans (g3.trans g4)))⟩⟩⟩⟩⟩
end
end L3
namespace L2
open PySem PySem.Spec PyProof.Rows
section
variable {X:Cx} {tg:Expr}
noncomputable def iAny (K:PySem.W.Frag) (tl:TE):TI:=fun σ H R=>tl σ H fun x H1=>(∃ a,x = .ref a∧(∃ xs,SqL K H1 a xs)∧R (Itl K a) H1) ∨ (∃ a,x = .ref a∧(∃ xs,SqT K H1 a xs)∧R (Itt K a) H1) ∨ ∃ z,x = .str z∧R (Its z) H1
theorem pi_any {l:Expr} {tl:TE} (hl:PE X l tl):PI X tg l (iAny X.K tl):=by
 intro pins s σ H R I h
 refine thn (hl pins s σ H _ I h) fun v s1 ⟨x,H1,I1,r1,q1⟩=>?_
 rcases q1 with ⟨a,e,⟨xs,hq⟩,q⟩ | ⟨a,e,⟨xs,hq⟩,q⟩ | ⟨z,e,q⟩
 ·subst e
  cases r1
  obtain ⟨its,rv,p,hz⟩:=I1.list hq
  refine wpAny_pyIter_list p.isList ?_
  refine ⟨s1.heap.objs.size,[s1.heap.objs.size],_,_,H1,rfl,I1.kept (t':=s1.toks) fun b o e=>Heap.get?_push_of_some _ e,turn_list a _,⟨_,Heap.get?_push_size _ rfl,rfl,rfl⟩,fun b hb=>?_,q⟩
  have e:b = s1.heap.objs.size:=by simpa using hb
  subst e
  exact I1.fpOk (Nat.le_refl _) (I1.hok.fresh (Nat.le_refl _))
 ·subst e
  cases r1
  obtain ⟨its,rv,p,hz⟩:=I1.tuple hq
  refine wpAny_pyIter_tuple (show s1.heap.IsTuple a its.toArray from p) ?_
  refine ⟨s1.heap.objs.size,[s1.heap.objs.size],_,_,H1,rfl,I1.kept (t':=s1.toks) fun b o e=>Heap.get?_push_of_some _ e,turn_tuple a _,⟨_,Heap.get?_push_size _ rfl,rfl,rfl⟩,fun b hb=>?_,q⟩
  have e:b = s1.heap.objs.size:=by simpa using hb
  subst e
  exact I1.fpOk (Nat.le_refl _) (I1.hok.fresh (Nat.le_refl _))
 ·subst e
  obtain ⟨t,rfl⟩:=r1
  have fin:∀ ty,(ty = "str_ascii_iterator" ∨ ty = "str_iterator")→PIE X pins σ tg R (.ref s1.heap.objs.size) { s1 with heap:=s1.heap.push { cls:=.type ty,data:=.fields #[.str z t,.int 0 0] } }:=fun ty hty=>by
   refine ⟨s1.heap.objs.size,[s1.heap.objs.size],_,_,H1,rfl,I1.kept (t':=s1.toks) fun b o e=>Heap.get?_push_of_some _ e,turn_str hty _ z t,⟨Nat.zero_le _,_,Heap.get?_push_size _ rfl,rfl,rfl⟩,fun b hb=>?_,q⟩
   have e:b = s1.heap.objs.size:=by simpa using hb
   subst e
   exact I1.fpOk (Nat.le_refl _) (I1.hok.fresh (Nat.le_refl _))
  cases ha:z.cps.all (· < 128)
  ·exact wpAny_pyIter_wide ha (fin _ (.inr rfl))
  ·exact wpAny_pyIter_ascii ha (fin _ (.inl rfl))
end
end L2
namespace L3
open PySem L2
structure Src where
 items:List PV
 keep:Sto→Prop
noncomputable def ItSim (K:PySem.W.Frag) (H0:Hp) (J:It) (src:Src):Prop:=∀ (i:Nat) (S:Sto) (H:Hp),Grow K H0 H→RepS K H S→src.keep S→
 (∀ p,src.items[i]? = some p→J.go i H∧∀ x H',J.yld i H x H'→Rep K H' x p∧RepS K H' S∧Grow K H H')∧(i = src.items.length→J.stop i H)
noncomputable abbrev TI3:=St3→Sto→(Src→Sto→Prop)→XK3→Prop
noncomputable def LI (X:Cx) (t:TI3):TI:=fun σ H R=>∃ σ3 S R3 E3,RepSt X.K H σ σ3∧RepS X.K H S∧t σ3 S R3 E3∧XOk X H E3∧∀ src S' J H',R3 src S'→ItSim X.K H' J src→RepS X.K H' S'→Grow X.K H H'→R J H'
structure PI3 (X:Cx) (tg iter:Expr) (t:TI3):Prop where
 ok:PI X tg iter (LI X t)
theorem PI_imp {X:Cx} {tg iter:Expr} {t t':TI} (h:PI X tg iter t) (k:∀ σ H R,t' σ H R→t σ H R):PI X tg iter t':=fun pins s σ H R I q=>h pins s σ H R I (k σ H R q)
section
variable {X:Cx} {e tg:Expr} {es:List Expr} {te:TE3} {ts:List TE3} {p pos:Pos}
noncomputable def srcOf (S:Sto):PV→Option Src
 | .tup xs=>some ⟨xs,fun _=>True⟩
 | .cl xs=>some ⟨xs,fun _=>True⟩
 | .str z=>some ⟨z.cps.toList.map fun c=>.str (sgn c),fun _=>True⟩
 | .ref a=>(match S a with | some (.lst xs)=>some ⟨xs,fun S'=>S' a = some (.lst xs)⟩ | _=>none)
 | _=>none
noncomputable def iter3 (te:TE3):TI3:=fun σ S R E=>te σ S (fun v S1=>match srcOf S1 v with | some src=>R src S1 | none=>False) E
end
section
variable {X:Cx} {e tg a b:Expr} {es:List Expr} {te ta tb:TE3} {ts:List TE3} {p pos:Pos}
theorem sim_list {K:PySem.W.Frag} {H0:Hp} {a:Addr} {xs:List PV}:ItSim K H0 (Itl K a) ⟨xs,fun S'=>S' a = some (.lst xs)⟩:=by
 intro i S H g rS hk
 obtain ⟨vs,hv,rs⟩:=rS a _ hk
 refine ⟨fun p hp=>?_,fun hi=>⟨vs,SqL.of hv,by rw [rs.length,hi]; exact Nat.le_refl _⟩⟩
 obtain ⟨v,hx,rv⟩:=rs.get hp
 refine ⟨⟨vs,v,SqL.of hv,hx⟩,fun x H' ⟨e,h⟩=>?_⟩
 subst e
 have:=h vs (SqL.of hv)
 rw [hx] at this
 cases this
 exact ⟨rv,rS,.refl⟩
theorem sim_tup {K:PySem.W.Frag} {H0:Hp} {a:Addr} {vs:List V} {xs:List PV} (h:SqT K H0 a vs) (rs:Reps K H0 vs xs):ItSim K H0 (Itt K a) ⟨xs,fun _=>True⟩:=by
 intro i S H g rS _
 have hv:=g.t _ _ h
 refine ⟨fun p hp=>?_,fun hi=>⟨vs,hv,by rw [rs.length,hi]; exact Nat.le_refl _⟩⟩
 obtain ⟨v,hx,rv⟩:=rs.get hp
 refine ⟨⟨vs,v,hv,hx⟩,fun x H' ⟨e,h⟩=>?_⟩
 subst e
 have:=h vs hv
 rw [hx] at this
 cases this
 exact ⟨rv.mono g,rS,.refl⟩
theorem sim_cl {K:PySem.W.Frag} {H0:Hp} {a:Addr} {vs:List V} {xs:List PV} (h:SqC K H0 a vs) (rs:Reps K H0 vs xs):ItSim K H0 (Itl K a) ⟨xs,fun _=>True⟩:=by
 intro i S H g rS _
 have hv:=(g.c _ _ h).sq
 refine ⟨fun p hp=>?_,fun hi=>⟨vs,hv,by rw [rs.length,hi]; exact Nat.le_refl _⟩⟩
 obtain ⟨v,hx,rv⟩:=rs.get hp
 refine ⟨⟨vs,v,hv,hx⟩,fun x H' ⟨e,h⟩=>?_⟩
 subst e
 have:=h vs hv
 rw [hx] at this
 cases this
 exact ⟨rv.mono g,rS,.refl⟩
theorem sim_str {K:PySem.W.Frag} {H0:Hp} {z:Str}:ItSim K H0 (Its z) ⟨z.cps.toList.map fun c=>.str (sgn c),fun _=>True⟩:=by
 intro i S H g rS _
 refine ⟨fun p hp=>?_,fun hi=>by show z.cps.size ≤ i; rw [hi,List.length_map,Array.length_toList]; exact Nat.le_refl _⟩
 rw [List.getElem?_map] at hp
 cases hc:z.cps.toList[i]? with
 | none=>rw [hc] at hp; cases hp
 | some c=>
  rw [hc] at hp
  cases hp
  have hc':z.cps[i]? = some c:=by simpa using hc
  refine ⟨?_,fun x H' ⟨e,c',h1,h2⟩=>?_⟩
  ·show i < z.cps.size
   by_cases hi:i < z.cps.size
   ·exact hi
   ·rw [Array.getElem?_eq_none (by omega)] at hc'; cases hc'
  ·subst e
   rw [hc'] at h1
   cases h1
   subst h2
   exact ⟨.str _,rS,.refl⟩
theorem i3any (he:PE3 X e te):PI3 X tg e (iter3 te):=⟨PI_imp (pi_any he.ok) fun σ H R ⟨σ3,S,R3,E3,rσ,rS,h,xo,k⟩=>⟨σ3,S,_,E3,rσ,rS,h,xo,fun v S1 v' H1 h1 rv rS1 g1=>by
 dsimp only at h1
 split at h1
 ·rename_i src hs
  unfold srcOf at hs
  split at hs
  ·cases hs
   cases rv with
   | tup hq rs=>exact .inr (.inl ⟨_,rfl,⟨_,hq⟩,k _ S1 _ H1 h1 (sim_tup hq rs) rS1 g1⟩)
  ·cases hs
   cases rv with
   | cl hq rs=>exact .inl ⟨_,rfl,⟨_,hq.sq⟩,k _ S1 _ H1 h1 (sim_cl hq rs) rS1 g1⟩
  ·cases hs
   cases rv
   exact .inr (.inr ⟨_,rfl,k _ S1 _ H1 h1 sim_str rS1 g1⟩)
  ·cases rv
   split at hs
   ·rename_i ea
    cases hs
    obtain ⟨vs,hv,rs⟩:=rS1 _ _ ea
    exact .inl ⟨_,rfl,⟨_,SqL.of hv⟩,k _ S1 _ H1 h1 sim_list rS1 g1⟩
   ·cases hs
  ·cases hs
 ·exact h1.elim⟩⟩
noncomputable def numsFrom (lo:Int) (n:Nat):List PV:=(List.range n).map fun (i:Nat)=>PV.int (lo + i)
theorem sim_range {K:PySem.W.Frag} {H0:Hp} {lo:Int} {n:Nat}:ItSim K H0 (Itr lo n) ⟨numsFrom lo n,fun _=>True⟩:=by
 intro i S H g rS _
 refine ⟨fun p hp=>?_,fun hi=>by show n ≤ i; rw [hi]; simp [numsFrom]⟩
 unfold numsFrom at hp
 rw [List.getElem?_map] at hp
 by_cases hi:i < n
 ·rw [List.getElem?_range hi] at hp
  cases hp
  refine ⟨hi,fun x H' ⟨e,h⟩=>?_⟩
  subst e h
  exact ⟨.int _,rS,.refl⟩
 ·rw [List.getElem?_eq_none (by simpa using hi)] at hp
  cases hp
noncomputable def rng1 (ta:TE3):TI3:=fun σ S R E=>ta σ S (fun v S1=>match v with | .int j=>-(2 ^ 62) ≤ j∧j < 2 ^ 62∧R ⟨numsFrom 0 j.toNat,fun _=>True⟩ S1 | _=>False) E
theorem i3range1 (hs:starEach [a] X.env = [(false,eval a X.env)]) (hg:Gl X "range") (hm:X.mg "range" = none) (ha:PL3 X [a] [ta]):PI3 X tg (.Call (.Name "range" p) [a] [] pos) (rng1 ta):=
 ⟨PI_imp (pi_range1 hg hm ha.ok hs) fun σ H R ⟨σ3,S,R3,E3,rσ,rS,h,xo,k⟩=>⟨σ3,S,_,E3,rσ,rS,h,xo,fun v S1 v' H1 h1 rv rS1 g1=>by
  dsimp only at h1
  split at h1
  ·cases rv
   exact ⟨_,rfl,h1.1,h1.2.1,k _ S1 _ H1 h1.2.2 sim_range rS1 g1⟩
  ·exact h1.elim⟩⟩
noncomputable def rng2 (ta tb:TE3):TI3:=fun σ S R E=>ta σ S (fun v S1=>tb σ S1 (fun w S2=>match v,w with | .int i,.int j=>(-(2 ^ 62) ≤ i∧i < 2 ^ 62∧-(2 ^ 62) ≤ j∧j < 2 ^ 62)∧R ⟨numsFrom i (j - i).toNat,fun _=>True⟩ S2 | _,_=>False) E) E
noncomputable def numbered (xs:List PV):List PV:=xs.mapIdx fun i x=>.tup [.int i,x]
noncomputable def enum3 (ta:TE3):TI3:=fun σ S R E=>ta σ S (fun v S1=>match v with
 | .tup xs=>R ⟨numbered xs,fun _=>True⟩ S1
 | .ref a=>(match S1 a with | some (.lst xs)=>R ⟨numbered xs,fun S'=>S' a = some (.lst xs)⟩ S1 | _=>False)
 | _=>False) E
noncomputable def zipped (xs ys:List PV):List PV:=(xs.zip ys).map fun z=>.tup [z.1,z.2]
theorem sim_zipT {K:PySem.W.Frag} {H0:Hp} {a b:Addr} {vs us:List V} {xs ys:List PV} (h1:SqT K H0 a vs) (h2:SqT K H0 b us) (r1:Reps K H0 vs xs) (r2:Reps K H0 us ys):ItSim K H0 (Itz K a b) ⟨zipped xs ys,fun _=>True⟩:=by
 intro i S H g rS _
 have hv:=g.t _ _ h1
 have hu:=g.t _ _ h2
 have l1:=r1.length
 have l2:=r2.length
 refine ⟨fun p hp=>?_,fun hi=>⟨vs,us,hv,hu,?_⟩⟩
 ·unfold zipped at hp
  rw [List.getElem?_map] at hp
  cases hz:(xs.zip ys)[i]? with
  | none=>rw [hz] at hp; cases hp
  | some z=>
   rw [hz] at hp
   cases hp
   obtain ⟨e1,e2⟩:=List.getElem?_zip_eq_some.mp hz
   obtain ⟨v,hx',rv⟩:=r1.get e1
   obtain ⟨u,hy',ru⟩:=r2.get e2
   refine ⟨⟨vs,us,v,u,hv,hu,hx',hy'⟩,fun x H' ⟨q,x2,y2,e3,hq,e4,h⟩=>?_⟩
   subst e3 e4
   obtain ⟨k1,k2⟩:=h vs us hv hu
   rw [hx'] at k1
   rw [hy'] at k2
   cases k1; cases k2
   exact ⟨.tup (SqT.of upd_same) (.cons ((rv.mono g).mono (.new hq)) (.cons ((ru.mono g).mono (.new hq)) .nil)),rS.other hq,.new hq⟩
 ·have e:(zipped xs ys).length = min xs.length ys.length:=by simp [zipped]
  rw [e] at hi
  by_cases hle:xs.length ≤ ys.length
  ·exact .inl (by omega)
  ·exact .inr (by omega)
noncomputable def zip3 (ta tb:TE3):TI3:=fun σ S R E=>ta σ S (fun v S1=>tb σ S1 (fun w S2=>match v,w with
 | .tup xs,.tup ys=>R ⟨zipped xs ys,fun _=>True⟩ S2
 | _,_=>False) E) E
theorem i3zip {elts:List Expr} {k0:Nat} {pos0:Pos} (hs:starEach [a,b] X.env = [(false,eval a X.env),(false,eval b X.env)]) (hs2:starEach [b] X.env = [(false,eval b X.env)]) (hg:Gl X "zip") (hm:X.mg "zip" = none) (hv:bootBuiltins "zip" = some (.type "zip")) (ha:PL3 X [a,b] [ta,tb]) :
  PI3 X (.Tuple elts k0 pos0) (.Call (.Name "zip" p) [a,b] [] pos) (zip3 ta tb):=
 ⟨PI_imp (pi_zip hg hm hv ha.ok hs hs2) fun σ H R ⟨σ3,S,R3,E3,rσ,rS,h,xo,k⟩=>⟨σ3,S,_,E3,rσ,rS,h,xo,fun v S1 v' H1 h1 rv rS1 g1=>⟨σ3,S1,_,E3,rσ.mono g1,rS1,h1,xo.mono g1,fun w S2 w' H2 h2 rw' rS2 g2=>by
  dsimp only at h2
  split at h2
  ·cases rv with
   | tup hq rs=>
    cases rw' with
    | tup hq2 rs2=>exact ⟨_,_,rfl,⟨_,g2.t _ _ hq⟩,⟨_,hq2⟩,k _ S2 _ H2 h2 (sim_zipT (g2.t _ _ hq) hq2 (rs.mono g2) rs2) rS2 (g1.trans g2)⟩
  ·exact h2.elim⟩⟩⟩
end
section
variable {X:Cx} {iter tg c:Expr} {body:List Stmt} {ti:TI3} {g:Tg} {tb:TS3} {tc:TT3} {pos:Pos}
noncomputable def forL (g:Tg) (tb:TS3) (D:Ends3) (keep:Sto→Prop):List PV→St3→Sto→Prop
 | [],σ,S=>keep S∧D.nx σ S
 | x :: r,σ,S=>keep S∧match g.put x σ with | some σ'=>tb { D with nx:=forL g tb D keep r,ct:=forL g tb D keep r,bk:=D.nx } σ' S | none=>False
noncomputable def for3 (ti:TI3) (g:Tg) (tb:TS3):TS3:=fun D σ S=>ti σ S (fun src S1=>forL g tb D src.keep src.items σ S1) D.ex
theorem s3for (hp:PassesOwn (model X.prog X.w) X.A X.env X.xe) (hc:X.calm = true) (hi:PI3 X tg iter ti) (hg:PGt X tg g) (hb:PSs3 X body tb) (hs:∀ x,foldedSetIterable iter X.env x = pure x:=by intro _; rfl):PS3 X (.For tg iter body [] pos) (for3 ti g tb):=
 ⟨PS_imp (ps_for hp hc hi.ok hg.ok hb.ok hs) fun D σ H ⟨σ3,S,D3,rσ,rS,h,xo,n,r,bk,ct⟩=>⟨σ3,S,_,D3.ex,rσ,rS,h,xo,fun src S1 J H1 h1 sim rS1 g1=>by
  refine ⟨fun i m σ' H'=>i + m = src.items.length∧∃ σ4 S',RepSt X.K H' σ' σ4∧RepS X.K H' S'∧Grow X.K H1 H'∧forL g tb D3 src.keep (src.items.drop i) σ4 S',⟨src.items.length,Nat.zero_add _,σ3,S1,rσ.mono g1,rS1,.refl,by simpa using h1⟩,?_⟩
  rintro i m σ' H' ⟨hm,σ4,S',rσ',rS',g',hw⟩
  cases hd:src.items.drop i with
  | nil=>
   rw [hd] at hw
   have hi:i = src.items.length:=by
    have:=congrArg List.length hd
    rw [List.length_drop,List.length_nil] at this
    omega
   exact .inl ⟨(sim i S' H' g' rS' hw.1).2 hi,n _ S' _ H' hw.2 rσ' rS' (g1.trans g')⟩
  | cons x rest=>
   rw [hd] at hw
   have hx:src.items[i]? = some x:=by
    have:=congrArg (fun l=>l[0]?) hd
    simpa using this
   have hrest:src.items.drop (i + 1) = rest:=by
    have:=congrArg List.tail hd
    simpa [List.tail_drop] using this
   have hlt:i < src.items.length:=by
    by_cases z:i < src.items.length
    ·exact z
    ·rw [List.getElem?_eq_none (by omega)] at hx; cases hx
   obtain ⟨go,yl⟩:=(sim i S' H' g' rS' hw.1).1 x hx
   refine .inr ⟨go,fun σ5 H5=>∃ σ6 S6,RepSt X.K H5 σ5 σ6∧RepS X.K H5 S6∧Grow X.K H1 H5∧forL g tb D3 src.keep rest σ6 S6,?_,fun v H5 hv=>?_⟩
   ·rintro σ5 H5 ⟨σ6,S6,q1,q2,q3,q4⟩
    exact ⟨m - 1,by omega,by omega,σ6,S6,q1,q2,q3,by rw [hrest]; exact q4⟩
   ·obtain ⟨rv,rS5,g5⟩:=yl v H5 hv
    obtain ⟨_,hw⟩:=hw
    split at hw
    ·rename_i σ6 e6
     refine Tg.put_ok (own:=0) g rv (rσ'.mono g5) e6 fun σ7 rσ7 _=>?_
     exact ⟨σ6,S',_,rσ7,rS5,hw,xo.mono (g1.trans (g'.trans g5)),fun σ8 S8 σ9 H9 q1 q2 q3 q4=>⟨σ8,S8,q2,q3,g'.trans (g5.trans q4),q1⟩,r.mono (g1.trans (g'.trans g5)),n.mono (g1.trans (g'.trans g5)),
      fun σ8 S8 σ9 H9 q1 q2 q3 q4=>⟨σ8,S8,q2,q3,g'.trans (g5.trans q4),q1⟩⟩
    ·exact hw.elim⟩⟩
noncomputable def while3 (tc:TT3) (tb:TS3):TS3:=fun D σ S=>∃ W:Nat→St3→Sto→Prop,(∃ m,W m σ S)∧∀ m σ S,W m σ S→
 tc σ S (fun b S1=>if b = true then ∃ N:St3→Sto→Prop,(∀ σ' S',N σ' S'→∃ m',m' < m∧W m' σ' S')∧tb { D with nx:=N,ct:=N,bk:=D.nx } σ S1 else D.nx σ S1) D.ex
theorem s3while (hp:PassesOwn (model X.prog X.w) X.A X.env X.xe) (hc:PT3 X c tc) (hb:PSs3 X body tb):PS3 X (.While c body [] pos) (while3 tc tb):=
 ⟨PS_imp (ps_while hp hc.ok hb.ok) fun D σ H ⟨σ3,S,D3,rσ,rS,⟨W,⟨m0,w0⟩,turn⟩,xo,n,r,bk,ct⟩=>by
  refine ⟨fun m σ' H'=>∃ σ4 S',RepSt X.K H' σ' σ4∧RepS X.K H' S'∧Grow X.K H H'∧W m σ4 S',⟨m0,σ3,S,rσ,rS,.refl,w0⟩,?_⟩
  rintro m σ' H' ⟨σ4,S',rσ',rS',g',w'⟩
  refine ⟨σ4,S',_,D3.ex,rσ',rS',turn m σ4 S' w',xo.mono g',fun b S1 H1 h1 rS1 g1=>?_⟩
  cases b with
  | true=>
   rw [if_pos rfl] at h1 ⊢
   obtain ⟨N,hN,h1⟩:=h1
   refine ⟨fun σ5 H5=>∃ σ6 S6,RepSt X.K H5 σ5 σ6∧RepS X.K H5 S6∧Grow X.K H H5∧N σ6 S6,?_,?_⟩
   ·rintro σ5 H5 ⟨σ6,S6,q1,q2,q3,q4⟩
    obtain ⟨m',hm,w6⟩:=hN σ6 S6 q4
    exact ⟨m',hm,σ6,S6,q1,q2,q3,w6⟩
   ·exact ⟨σ4,S1,_,rσ'.mono g1,rS1,h1,xo.mono (g'.trans g1),fun σ8 S8 σ9 H9 q1 q2 q3 q4=>⟨σ8,S8,q2,q3,g'.trans (g1.trans q4),q1⟩,r.mono (g'.trans g1),n.mono (g'.trans g1),
     fun σ8 S8 σ9 H9 q1 q2 q3 q4=>⟨σ8,S8,q2,q3,g'.trans (g1.trans q4),q1⟩⟩
  | false=>
   rw [if_neg (by decide)] at h1 ⊢
   exact n _ S1 _ H1 h1 (rσ'.mono g1) rS1 (g'.trans g1)⟩
end
noncomputable def noX:XK3:=fun _ _ _=>False
theorem XOk.no {X:Cx} {H:Hp}:XOk X H noX:=fun _ _ _ _ _ _ _ _ _ _ _ _ _ _ h=>h.elim
section
variable {X:Cx} {elt iter tg c:Expr} {ifs:List Expr} {scope:Scope} {pos:Pos} {ti:TI3} {g:Tg} {tc:TT3} {te:TE3} {fs N:List Str} {own:Nat} {fr:List Nat}
noncomputable def compL (g:Tg) (tc:TT3) (te:TE3) (σ':St3) (keep:Sto→Prop) (fin:List PV→Sto→Prop):List PV→List PV→Sto→Prop
 | [],ys,S=>keep S∧ys.length ≤ sizeLine∧fin ys S
 | x :: r,ys,S=>keep S∧ys.length ≤ sizeLine∧match g.put x σ' with
  | some σ2=>tc σ2 S (fun b S3=>if b = true then te σ2 S3 (fun y S4=>compL g tc te σ' keep fin r (ys ++ [y]) S4) noX else compL g tc te σ' keep fin r ys S3) noX
  | none=>False
noncomputable def yes3:TT3:=fun _ S Q _=>Q true S
structure PF3 (X:Cx) (ifs:List Expr) (t:TT3):Prop where
 ok:PF X ifs (LT X t)
theorem PF_imp {t t':TT} (h:PF X ifs t) (k:∀ σ H Q,t' σ H Q→t σ H Q):PF X ifs t':=fun pins s σ H Q I q=>h pins s σ H Q I (k σ H Q q)
theorem f3nil:PF3 X [] yes3:=⟨PF_imp pf_nil fun σ H Q ⟨σ3,S,Q3,E3,rσ,rS,h,xo,k⟩=>k true S H h rS .refl⟩
theorem f3one (h:PT3 X c tc):PF3 X [c] tc:=⟨pf_one h.ok⟩
noncomputable def blk3 (own:Nat) (fr:List Nat) (σ:St3):St3:=List.replicate own none ++ fr.map fun j=>lk σ j
theorem blk_rep {K:PySem.W.Frag} {H:Hp} {σ:L2.St} {σ3:St3} (r:RepSt K H σ σ3) (own:Nat) (fr:List Nat):RepSt K H (blkSt own fr σ) (blk3 own fr σ3):=by
 refine ⟨by unfold blkSt blk3; simp,fun i p e=>?_⟩
 unfold blk3 at e
 unfold blkSt
 by_cases hi:i < own
 ·rw [List.getElem?_append_left (by simpa using hi),List.getElem?_replicate,if_pos hi] at e
  cases e
 ·rw [List.getElem?_append_right (by simpa using hi),List.length_replicate,List.getElem?_map] at e ⊢
  cases hj:fr[i - own]? with
  | none=>rw [hj] at e; cases e
  | some j=>
   rw [hj] at e
   simp only [Option.map_some,Option.some.injEq] at e ⊢
   obtain ⟨v,hv,rv⟩:=r.at' j p (lk_get e)
   exact ⟨v,by rw [hv]; rfl,rv⟩
noncomputable def comp3 (ti:TI3) (g:Tg) (tc:TT3) (te:TE3) (own:Nat) (fr:List Nat):TE3:=fun σ S Q E=>ti σ S (fun src S1=>compL g tc te (blk3 own fr σ) src.keep (fun ys S2=>∀ p,S2 p = none→Q (.ref p) (upd3 S2 p (.lst ys))) src.items [] S1) E
theorem lift_comp {σ:L2.St} {H:Hp} {Q:VK} (hbl:g.under own = true) (B0:Bk):LE X (comp3 ti g tc te own fr) σ H Q→tComp (LI X ti) (g.g2 X.K) (fun σ H Q=>∃ σ3 S Q3,RepSt X.K H σ σ3∧RepS X.K H S∧tc σ3 S Q3 noX∧∀ b S' H',Q3 b S'→RepS X.K H' S'→Grow X.K H H'→Q b H')
  (fun σ H Q=>∃ σ3 S Q3,RepSt X.K H σ σ3∧RepS X.K H S∧te σ3 S Q3 noX∧Ret X.K H Q3 Q) own fr σ H Q:=fun ⟨σ3,S,Q3,E3,rσ,rS,h,xo,k⟩=>by
 refine ⟨σ3,S,_,E3,rσ,rS,h,xo,fun src S1 J H1 h1 sim rS1 g1=>?_⟩
 refine ⟨fun i m ys H'=>i + m = src.items.length∧∃ zs S',Reps X.K H' ys zs∧RepS X.K H' S'∧Grow X.K H1 H'∧compL g tc te (blk3 own fr σ3) src.keep (fun ys S2=>∀ p,S2 p = none→Q3 (.ref p) (upd3 S2 p (.lst ys))) (src.items.drop i) zs S',⟨src.items.length,Nat.zero_add _,[],S1,.nil,rS1,.refl,by simpa using h1⟩,?_⟩
 rintro i m ys H' ⟨hm,zs,S',rz,rS',g',hw⟩
 cases hd:src.items.drop i with
 | nil=>
  rw [hd] at hw
  have hi:i = src.items.length:=by
   have:=congrArg List.length hd
   rw [List.length_drop,List.length_nil] at this
   omega
  refine .inl ⟨(sim i S' H' g' rS' hw.1).2 hi,by rw [rz.length]; exact hw.2.1,fun D hD=>?_⟩
  exact k _ _ _ _ (hw.2.2 D (rS'.free hD)) (.ref D) (rS'.new hD ⟨_,upd_same,rz.mono (.new hD)⟩) (g1.trans (g'.trans (.new hD)))
 | cons x rest=>
  rw [hd] at hw
  have hx:src.items[i]? = some x:=by
   have:=congrArg (fun l=>l[0]?) hd
   simpa using this
  have hrest:src.items.drop (i + 1) = rest:=by
   have:=congrArg List.tail hd
   simpa [List.tail_drop] using this
  have hlt:i < src.items.length:=by
   by_cases z:i < src.items.length
   ·exact z
   ·rw [List.getElem?_eq_none (by omega)] at hx; cases hx
  obtain ⟨go,yl⟩:=(sim i S' H' g' rS' hw.1).1 x hx
  refine .inr ⟨go,by rw [rz.length]; exact hw.2.1,fun ys' H5=>∃ zs' S6,Reps X.K H5 ys' zs'∧RepS X.K H5 S6∧Grow X.K H1 H5∧compL g tc te (blk3 own fr σ3) src.keep (fun ys S2=>∀ p,S2 p = none→Q3 (.ref p) (upd3 S2 p (.lst ys))) rest zs' S6,?_,fun v H5 hv=>?_⟩
  ·rintro ys' H5 ⟨zs',S6,q1,q2,q3,q4⟩
   exact ⟨m - 1,by omega,by omega,zs',S6,q1,q2,q3,by rw [hrest]; exact q4⟩
  ·obtain ⟨rv,rS5,g5⟩:=yl v H5 hv
   obtain ⟨_,_,hw⟩:=hw
   split at hw
   ·rename_i σ6 e6
    refine Tg.put_ok (own:=own) g rv ((blk_rep rσ own fr).mono (g1.trans (g'.trans g5))) e6 fun σ7 rσ7 d7=>⟨d7 hbl,?_⟩
    refine ⟨σ6,S',_,rσ7,rS5,hw,fun b S8 H8 h8 rS8 g8=>?_⟩
    cases b with
    | true=>
     rw [if_pos rfl] at h8 ⊢
     exact ⟨σ6,S8,_,rσ7.mono g8,rS8,h8,fun y S9 y' H9 h9 ry rS9 g9=>⟨zs ++ [y],S9,(rz.mono (g5.trans (g8.trans g9))).append (.cons ry .nil),rS9,g'.trans (g5.trans (g8.trans g9)),h9⟩⟩
    | false=>
     rw [if_neg (by decide)] at h8 ⊢
     exact ⟨zs,S8,rz.mono (g5.trans g8),rS8,g'.trans (g5.trans g8),h8⟩
   ·exact hw.elim
theorem e3comp (fs:List Str) (own:Nat) (fr:List Nat) (N:List Str) (hbl:g.under own = true) (hc:X.calm = true) (hclos:closureFor scope X.env = pure (clOf X.env fs)) (hcell:∀ y ∈ scope.names,y.2 ≠ .cell) (hkind:scope.kind = .function)
  (hnames:∀ x ∈ scope.names,x.2 = .local→scope.names.lookup x.1 = some .local) (hcl:CellsOk X.env fs) (hhas:hasB (relabel scope X.env).names (clOf X.env fs) = true)
  (hlen:N.length = own + fr.length) (hN:(N.drop own).map some = fr.map fun j=>X.N[j]?) (hF:FreeOk X.env scope (clOf X.env fs) (N.drop own))
  (hi:PI3 X tg iter ti) (hg:∀ B,PGt (X.blk N scope fs B) tg g) (hf:∀ B,PF3 (X.blk N scope fs B) ifs tc) (he:∀ B,PE3 (X.blk N scope fs B) elt te)
  (hs:∀ x,foldedSetIterable iter X.env x = pure x:=by intro _; rfl):PE3 X (.ListComp elt [⟨tg,iter,ifs,0⟩] scope pos) (comp3 ti g tc te own fr):=
 ⟨PE_imp (pe_comp fs own fr N hc hclos hcell hkind hnames hcl hhas hlen hN hF hi.ok (fun B=>(hg B).ok)
  (fun B=>PF_imp (hf B).ok fun σ H Q ⟨σ3,S,Q3,rσ,rS,h,k⟩=>⟨σ3,S,Q3,noX,rσ,rS,h,.no,k⟩) (fun B=>PE_imp (he B).ok fun σ H Q ⟨σ3,S,Q3,rσ,rS,h,k⟩=>⟨σ3,S,Q3,noX,rσ,rS,h,.no,k⟩) hs) fun _ _ _=>lift_comp hbl ⟨0,X.s₀,X.H₀,[],[]⟩⟩
theorem s3comp (fs:List Str) (own:Nat) (fr:List Nat) (N:List Str) {i:Nat} {y:Str} {py spos:Pos} (hX:X.N.Nodup) (hix:X.N[i]? = some y) (hy:X.env.scope.names.lookup y = some .local)
  (hsw:swapsWith (.ListComp elt [⟨tg,iter,ifs,0⟩] scope pos) (some (.Name y py)) spos.line X.env = pure true)
  (hbl:g.under own = true) (hc:X.calm = true) (hclos:closureFor scope X.env = pure (clOf X.env fs)) (hcell:∀ y ∈ scope.names,y.2 ≠ .cell) (hkind:scope.kind = .function)
  (hnames:∀ x ∈ scope.names,x.2 = .local→scope.names.lookup x.1 = some .local) (hcl:CellsOk X.env fs) (hhas:hasB (relabel scope X.env).names (clOf X.env fs) = true)
  (hlen:N.length = own + fr.length) (hN:(N.drop own).map some = fr.map fun j=>X.N[j]?) (hF:FreeOk X.env scope (clOf X.env fs) (N.drop own))
  (hi:PI3 X tg iter ti) (hg:∀ B,PGt (X.blk N scope fs B) tg g) (hf:∀ B,PF3 (X.blk N scope fs B) ifs tc) (he:∀ B,PE3 (X.blk N scope fs B) elt te)
  (hs:∀ x,foldedSetIterable iter X.env x = pure x:=by intro _; rfl):PS3 X (.Assign [.Name y py] (.ListComp elt [⟨tg,iter,ifs,0⟩] scope pos) spos) (set3 i (comp3 ti g tc te own fr)):=
 ⟨PS_imp (ps_comp fs own fr N hX hix hy hsw hc hclos hcell hkind hnames hcl hhas hlen hN hF hi.ok (fun B=>(hg B).ok)
  (fun B=>PF_imp (hf B).ok fun σ H Q ⟨σ3,S,Q3,rσ,rS,h,k⟩=>⟨σ3,S,Q3,noX,rσ,rS,h,.no,k⟩) (fun B=>PE_imp (he B).ok fun σ H Q ⟨σ3,S,Q3,rσ,rS,h,k⟩=>⟨σ3,S,Q3,noX,rσ,rS,h,.no,k⟩) hs)
  fun D σ H ⟨σ3,S,D3,rσ,rS,h,xo,n,r,bk,ct⟩=>lift_comp hbl ⟨0,X.s₀,X.H₀,[],[]⟩ ⟨σ3,S,_,D3.ex,rσ,rS,h,xo,fun p S1 v H1 h1 rv rS1 g1=>n _ S1 _ H1 h1 ((rσ.mono g1).set rv i) rS1 g1⟩⟩
end
noncomputable abbrev Sp3:=List PV→Sto→VK3→XK3→Prop
noncomputable def LSp (K:PySem.W.Frag) (n:Nat) (sp:Sp3):Sp:=fun vs H Q _=>vs.length = n∧∃ ps S Q3 E3,Reps K H vs ps∧RepS K H S∧sp ps S Q3 E3∧Ret K H Q3 Q
structure Fn3 (P:Program) (w:World) (K:PySem.W.Frag) (mg:Str→Option Value) (base:Heap) (k:Nat) (f:Addr) (fd:FuncData) (ps:List Str) (sp:Sp3):Prop where
 ok:FnOk P w K mg base CX0 k f fd ps (LSp K ps.length sp)
section
variable {X:Cx} {e o:Expr} {es:List Expr} {te to:TE3} {ts:List TE3} {x:Str} {p pos apos cpos:Pos} {k:Nat} {f:Addr} {fd:FuncData} {ps:List Str} {sp:Sp3}
noncomputable def call3 (sp:Sp3) (ts:List TE3):TE3:=fun σ S Q E=>args3 ts σ S (fun ps S1=>sp ps S1 Q E) E
theorem e3call (F:Fn3 X.prog X.w X.K X.mg X.base k f fd ps sp) (hr:Room k X.A) (hg:Gl X x) (hm:X.mg x = some (.ref f)) (hk:PySem.W.keepIn X.K (.ref f) = true) (hb:Binds X.K fd ps []) (he:starEach (e :: es) X.env = (false,eval e X.env) :: starEach es X.env) (ha:PL3 X (e :: es) ts)
  (hl:ts.length = ps.length:=by rfl) (hdb:(x == ("__debug__":Str)) = false:=by decide) (hpl:(backTo pos (starEach es X.env)).any (·.1) = false:=by rfl):PE3 X (.Call (.Name x p) (e :: es) [] pos) (call3 sp ts):=
 ⟨PE_imp (pe_call F.ok hr hg hm hk hb .nil pass0 ha.ok hdb he hpl) fun σ H Q ⟨σ3,S,Q3,E3,rσ,rS,h,xo,k⟩=>lift_args rσ rS h xo fun ps' S' vs H' hl' q rv rS' g=>by
  rw [List.append_nil]
  exact ⟨by rw [rv.length,hl',hl],ps',S',Q3,E3,rv,rS',q,k.mono g⟩⟩
end
noncomputable def start3 (n:Nat) (args:List PV):St3:=args.map some ++ List.replicate (n - args.length) none
noncomputable def fn3 (n:Nat) (t:TS3):Sp3:=fun args S Q _=>t { nx:=fun _ S'=>Q .non S',rt:=Q,ex:=noX } (start3 n args) S
theorem start_rep {K:PySem.W.Frag} {H:Hp} {N:List Str} {vs:List V} {ps:List PV} (r:Reps K H vs ps):RepSt K H (L2.start N vs) (start3 N.length ps):=by
 refine ⟨by unfold L2.start start3; simp [r.length],fun i p e=>?_⟩
 unfold start3 at e
 unfold L2.start
 by_cases hi:i < ps.length
 ·rw [List.getElem?_append_left (by simpa using hi),List.getElem?_map] at e
  cases hp:ps[i]? with
  | none=>rw [hp] at e; cases e
  | some q=>
   rw [hp] at e
   cases e
   obtain ⟨v,hv,rv⟩:=r.get hp
   rw [List.getElem?_append_left (by rw [List.length_map,r.length]; exact hi),List.getElem?_map,hv]
   exact ⟨v,rfl,rv⟩
 ·rw [List.getElem?_append_right (by simpa using hi),List.getElem?_replicate] at e
  split at e
  ·cases e
  ·cases e
section
variable {P:Program} {w:World} {K:PySem.W.Frag} {mg:Str→Option Value} {base:Heap}
noncomputable abbrev cx3 (P:Program) (w:World) (K:PySem.W.Frag) (mg:Str→Option Value) (base:Heap) (N:List Str) (qual:Str) (st:Stmt) (f:Addr) (cdv:Value) (A:Around) (outer:List Env) (s:Shared) (H:Hp) (E:XK):Cx:=(cxOf CX0 P w K mg base N qual (defScope st) f cdv A outer s H E).nox
theorem mk3 {x qual:Str} {st:Stmt} {f:Addr} {fd:FuncData} {N ps:List Str} {k:Nat} {t:TS3} (F:Fun K x qual st f fd) (S:FnScope N ps (defScope st))
  (hbody:∀ (cdv:Value) (A:Around) (outer:List Env) (s:Shared) (H:Hp) (E:XK),Room k (A.deeper (PyProof.Rows.envOfC qual (defScope st) s.heap.objs.size f cdv))→PSs3 (cx3 P w K mg base N qual st f cdv A outer s H E) (defBody st) t) :
  Fn3 P w K mg base (k + 1) f fd ps (fn3 N.length t):=
 ⟨F.ok S (fun vs H Q E h=>h.1) fun cdv A outer s H vs Q E hr ⟨hl,ps',S',Q3,E3,rv,rS,q,kk⟩=>⟨_,(hbody cdv A outer s H E hr).ok,start3 N.length ps',S',_,start_rep rv,rS,q,.no,fun σ3 S2 σ2 H2 h2 _ rS2 g2=>kk _ S2 _ H2 h2 .non rS2 g2,kk,fun _ _ _ _ h2=>h2.elim,fun _ _ _ _ h2=>h2.elim⟩⟩
end
section
variable {X:Cx} {o e f:Expr} {to te tf:TE3} {pos apos cpos:Pos}
noncomputable def pairs3:List (TE3 × TE3)→St3→Sto→(List (PV × PV)→Sto→Prop)→XK3→Prop
 | [],_,S,Q,_=>Q [] S
 | (tk,tv) :: r,σ,S,Q,E=>tk σ S (fun x S1=>tv σ S1 (fun y S2=>pairs3 r σ S2 (fun ps S3=>Q ((x,y) :: ps) S3) E) E) E
noncomputable def keyed:List (PV × PV)→Option (List (Key × PV))
 | []=>some []
 | (x,y) :: r=>match key3 x,keyed r with | some k,some l=>some ((k,y) :: l) | _,_=>none
noncomputable def merge3 (kvs more:List (Key × PV)):List (Key × PV):=more.foldl (fun acc kv=>put3 acc kv.1 kv.2) kvs
structure PP3 (X:Cx) (pos:Pos) (keys:List (Option Expr)) (values:List Expr) (trs:List (TE3 × TE3)):Prop where
 ok:PPs X pos keys values (trs.map fun t=>(LE X t.1,LE X t.2))
theorem pp3nil:PP3 X pos [] [] []:=⟨pps_nil⟩
theorem pp3cons {k v:Expr} {ks:List (Option Expr)} {vs:List Expr} {tk tv:TE3} {trs:List (TE3 × TE3)} (hk:PE3 X k tk) (hv:PE3 X v tv) (hr:PP3 X pos ks vs trs):PP3 X pos (some k :: ks) (v :: vs) ((tk,tv) :: trs):=⟨pps_cons hk.ok hv.ok hr.ok⟩
inductive RepPP (K:PySem.W.Frag) (H:Hp):List (V × V)→List (PV × PV)→Prop
 | nil:RepPP K H [] []
 | cons {a b:V} {p q:PV} {vs:List (V × V)} {ps:List (PV × PV)}:Rep K H a p→Rep K H b q→RepPP K H vs ps→RepPP K H ((a,b) :: vs) ((p,q) :: ps)
theorem lift_pairs:∀ {trs:List (TE3 × TE3)} {σ:L2.St} {H:Hp} {Q:List (V × V)→Hp→Prop} {σ3:St3} {S:Sto} {Q3:List (PV × PV)→Sto→Prop} {E3:XK3},RepSt X.K H σ σ3→RepS X.K H S→pairs3 trs σ3 S Q3 E3→XOk X H E3→
  (∀ ps S' vs H',ps.length = trs.length→Q3 ps S'→RepPP X.K H' vs ps→RepS X.K H' S'→Grow X.K H H'→Q vs H')→tPairs (trs.map fun t=>(LE X t.1,LE X t.2)) σ H Q
 | [],σ,H,Q,σ3,S,Q3,E3,rσ,rS,h,xo,k=>k [] S [] H rfl h .nil rS .refl
 | (tk,tv) :: ts,σ,H,Q,σ3,S,Q3,E3,rσ,rS,h,xo,k=>
  ⟨σ3,S,_,E3,rσ,rS,h,xo,fun p S1 v H1 h1 rv rS1 g1=>⟨σ3,S1,_,E3,rσ.mono g1,rS1,h1,xo.mono g1,fun p2 S2 v2 H2 h2 rv2 rS2 g2=>lift_pairs (rσ.mono (g1.trans g2)) rS2 h2 (xo.mono (g1.trans g2)) fun ps S3 vs H3 hl h3 rvs rS3 g3=>
   k ((p,p2) :: ps) S3 ((v,v2) :: vs) H3 (by rw [List.length_cons,List.length_cons,hl]) h3 (.cons (rv.mono (g2.trans g3)) (rv2.mono g3) rvs) rS3 (g1.trans (g2.trans g3))⟩⟩
theorem keyed_rep {K:PySem.W.Frag} {H:Hp}:∀ {vs:List (V × V)} {ps:List (PV × PV)} {l:List (Key × PV)},RepPP K H vs ps→keyed ps = some l→∃ kvs:List (Key × V),vs = kvs.map (fun kv=>(kV kv.1,kv.2))∧RepP K H kvs l
 | _,_,_,.nil,h=>by cases h; exact ⟨[],rfl,.nil⟩
 | _,_,l,.cons a b r,h=>by
  unfold keyed at h
  split at h
  ·rename_i k l' ek el
   cases h
   obtain ⟨kvs,e,q⟩:=keyed_rep r el
   refine ⟨(k,_) :: kvs,?_,.cons b q⟩
   rw [List.map_cons,← e,key_of a ek]
  ·cases h
theorem RepP.merge {K:PySem.W.Frag} {H:Hp} {more:List (Key × V)} {m3:List (Key × PV)} (r:RepP K H more m3):∀ {kvs:List (Key × V)} {k3:List (Key × PV)},RepP K H kvs k3→RepP K H (mergeK kvs more) (merge3 k3 m3):=by
 induction r with
 | nil=>intro kvs k3 q; exact q
 | cons a r ih=>intro kvs k3 q; exact ih (q.put a)
noncomputable def disp3 (trs:List (TE3 × TE3)):TE3:=fun σ S Q E=>∀ p,S p = none→pairs3 trs σ (upd3 S p (.dct [])) (fun ps S2=>S2 p = some (.dct [])∧match keyed ps with | some kvs=>Q (.ref p) (upd3 S2 p (.dct (merge3 [] kvs))) | none=>False) E
theorem e3disp {keys:List (Option Expr)} {values:List Expr} {trs:List (TE3 × TE3)} (h:PP3 X pos keys values trs) (hall:keys.all (·.isSome) = true:=by rfl) (hl:keys.length = values.length:=by rfl) (h0:keys ≠ []:=by exact List.cons_ne_nil _ _) (h15:keys.length ≤ 15:=by decide)
  (ht:trs.length ≤ 15:=by exact Nat.le_of_ble_eq_true rfl):PE3 X (.Dict keys values pos) (disp3 trs):=
 ⟨PE_imp (pe_disp h.ok hall hl h0 h15) fun σ H Q ⟨σ3,S,Q3,E3,rσ,rS,hq,xo,k⟩=>fun p hp=>by
  have g0:Grow X.K H (upd H p (.dK [])):=.new hp
  refine lift_pairs (rσ.mono g0) (rS.new hp (o:=.dct []) ⟨[],upd_same,.nil⟩) (hq p (rS.free hp)) (xo.mono g0) fun ps S' vs H' hl' q rv rS' g=>?_
  obtain ⟨e,q⟩:=q
  obtain ⟨kv,hv,rk⟩:=rS' _ _ e
  cases rk
  refine ⟨hv,?_⟩
  split at q
  ·rename_i kvs ek
   obtain ⟨l,el,rl⟩:=keyed_rep rv ek
   refine ⟨l,el,?_,k _ _ _ _ q (.ref p) (rS'.put hv trivial ⟨_,upd_same,(RepP.merge rl .nil).mono (.mut hv trivial)⟩) (g0.trans (g.trans (.mut hv trivial)))⟩
   have z1:∀ {vs:List (V × V)} {ps:List (PV × PV)},RepPP X.K H' vs ps→vs.length = ps.length:=by
    intro vs ps r
    induction r with
    | nil=>rfl
    | cons _ _ _ ih=>rw [List.length_cons,List.length_cons,ih]
   have z2:=congrArg List.length el
   rw [List.length_map,z1 rv,hl'] at z2
   omega
  ·exact q.elim⟩
noncomputable def kget3 (kvs:List (Key × Int)) (te tf:TE3):TE3:=fun σ S Q E=>te σ S (fun y S2=>tf σ S2 (fun z S3=>match key3 y with | some k=>Q (((kvs.find? fun kv=>decide (kv.1 = k)).map fun kv=>PV.int kv.2).getD z) S3 | none=>False) E) E
theorem e3kget {x:Str} {px:Pos} {a:Addr} {kvs:List (Key × Int)} (hu:X.A.units + 1 < cLine) (hg:Gl X x) (hm:X.mg x = some (.ref a)) (hD:KD X.prog X.w X.K a (kvs.map fun kv=>(kv.1,V.int kv.2))) (he:PE3 X e te) (hf:PE3 X f tf) (m:M2 X (.Name x px) "get" apos e f cpos)
  (hd:(x == ("__debug__":Str)) = false:=by decide):PE3 X (.Call (.Attribute (.Name x px) "get" apos) [e,f] [] cpos) (kget3 kvs te tf):=
 ⟨PE_imp (pe_kget hu hg hm hD he.ok hf.ok m hd) fun σ H Q ⟨σ3,S,Q3,E3,rσ,rS,h,xo,k⟩=>⟨σ3,S,_,E3,rσ,rS,h,xo,fun y S2 y' H2 h2 ry rS2 g2=>⟨σ3,S2,_,E3,rσ.mono g2,rS2,h2,xo.mono g2,fun z S3 z' H3 h3 rz rS3 g3=>by
  dsimp only at h3
  split at h3
  ·rename_i k' ek
   have e1:=key_of (ry.mono g3) ek
   subst e1
   refine ⟨_,rfl,k _ S3 _ H3 h3 ?_ rS3 (g2.trans g3)⟩
   have:∀ l:List (Key × Int),Rep X.K H3 ((valV (l.map fun kv=>(kv.1,V.int kv.2)) k').getD z') (((l.find? fun kv=>decide (kv.1 = k')).map fun kv=>PV.int kv.2).getD z):=by
    intro l
    induction l with
    | nil=>exact rz
    | cons q r ih=>
     rw [List.map_cons,List.find?_cons]
     by_cases e:q.1 = k'
     ·rw [valV_pos e,decide_eq_true e]; exact .int _
     ·rw [valV_neg e,decide_eq_false e]; exact ih
   exact this kvs
  ·exact h3.elim⟩⟩⟩
noncomputable def lrev3 (te:TE3):TE3:=fun σ S Q E=>te σ S (fun x S1=>match x with
 | .ref a=>(match S1 a with | some (.lst xs)=>∀ p,S1 p = none→Q (.ref p) (upd3 S1 p (.lst xs.reverse)) | _=>False)
 | _=>False) E
theorem e3lrev {p1 p2 q1 q2:Pos} (hs:starEach [e] X.env = [(false,eval e X.env)]) (hc:X.calm = true) (he:PE3 X e te) (hg1:Gl X "list") (hm1:X.mg "list" = none) (hg2:Gl X "reversed") (hm2:X.mg "reversed" = none):PE3 X (.Call (.Name "list" p1) [.Call (.Name "reversed" p2) [e] [] q2] [] q1) (lrev3 te):=
 ⟨PE_imp (pe_listRev hc he.ok hg1 hm1 hg2 hm2 hs rfl) fun σ H Q ⟨σ3,S,Q3,E3,rσ,rS,h,xo,k⟩=>⟨σ3,S,_,E3,rσ,rS,h,xo,fun x S1 v H1 h1 rx rS1 g1=>by
  dsimp only at h1
  split at h1
  ·cases rx
   split at h1
   ·rename_i ea
    obtain ⟨vs,hv,rs⟩:=rS1 _ _ ea
    exact ⟨_,_,rfl,SqL.of hv,fun q hq=>k _ _ _ _ (h1 q (rS1.free hq)) (.ref q) (rS1.new hq ⟨_,upd_same,rs.reverse.mono (.new hq)⟩) (g1.trans (.new hq))⟩
   ·exact h1.elim
  ·exact h1.elim⟩⟩
end
noncomputable def sub3':R3:=int3 fun i j=>.int (i - j)
noncomputable def mod3:R3:=intc3 (fun _ j=>j ≠ 0) fun i j=>.int (i.fmod j)
noncomputable def fdiv3:R3:=intc3 CDiv3 fun i j=>.int (i.fdiv j)
noncomputable def pow3:R3:=intc3 CPow fun i j=>.int (i ^ j.toNat)
noncomputable def lt3:R3:=int3 fun i j=>.bl (decide (i < j))
noncomputable def le3:R3:=int3 fun i j=>.bl (decide (i ≤ j))
noncomputable def gt3:R3:=int3 fun i j=>.bl (decide (j < i))
noncomputable def ge3:R3:=int3 fun i j=>.bl (decide (j ≤ i))
section
variable {X:Cx}
theorem o3sub:Op3 X (binaryOp .Sub) sub3':=op3sub
theorem o3mod:Op3 X (binaryOp .Mod) mod3:=op3mod
theorem o3fdiv:Op3 X (binaryOp .FloorDiv) fdiv3:=op3fdiv
theorem o3pow:Op3 X (binaryOp .Pow) pow3:=op3pow
theorem o3lt:Op3 X (compareOp .Lt) lt3:=op3lt
theorem o3le:Op3 X (compareOp .LtE) le3:=op3le
theorem o3gt:Op3 X (compareOp .Gt) gt3:=op3gt
theorem o3ge:Op3 X (compareOp .GtE) ge3:=op3ge
end
theorem hu1 {A:Around} {k:Nat} (hr:Room k A):A.units + 1 < cLine:=by have:=hr.un; omega
theorem hu150 {A:Around} {k:Nat} (hr:Room k A):A.units + 150 < cLine:=by have:=hr.un; omega
theorem hu160 {A:Around} {k:Nat} (hr:Room k A):A.units + 160 < cLine:=by have:=hr.un; omega
structure Own (K:PySem.W.Frag) (mg:Str→Option Value) (x:Str) (st:Stmt) (ps:List Str) (f:Addr) (fd:FuncData):Prop where
 F:Fun K x x st f fd
 b:Binds K fd ps []
 k:PySem.W.keepIn K (.ref f) = true
 m:mg x = some (.ref f)
theorem Fn3.zero {P:Program} {w:World} {K:PySem.W.Frag} {mg:Str→Option Value} {base:Heap} {k:Nat} {f:Addr} {fd:FuncData} {ps:List Str} {sp:Sp3} (h:sp = fun _ _ _ _=>False):Fn3 P w K mg base k f fd ps sp:=by
 subst h
 exact ⟨⟨fun vs H Q E q=>q.1,fun A outer s H args us vs Q E _ _ _ _ ⟨_,_,_,_,_,_,_,q,_⟩=>q.elim⟩⟩
theorem law3 {K:PySem.W.Frag} {H:Hp} {a:Addr} {ns:List Int} {sp:Sp3} (hO:Only H) (hS:SqL K H a (ns.map V.int)) (h:sp [.cl (ns.map PV.int)] (fun _=>none) (fun v _=>v = .bl true) noX):LSp K 1 sp [.ref a] H (fun v _=>v = .bl true) fun _ _ _=>False:=by
 have hr:∀ l:List Int,Reps K H (l.map V.int) (l.map PV.int):=by
  intro l
  induction l with
  | nil=>exact .nil
  | cons x r ih=>exact .cons (.int x) ih
 refine ⟨rfl,[.cl (ns.map PV.int)],fun _=>none,_,noX,.cons (.cl (vs:=ns.map V.int) ?_ (hr ns)) .nil,(fun b o e=>by simp at e),h,fun p S' v H' q rv rS g=>?_⟩
 ·rcases hS with (q | q) | q
  ·rcases hO a with z | ⟨o,xs,z⟩
   ·rw [z] at q; cases q
   ·rw [z] at q; cases q
  ·exact .inl q
  ·exact .inr q
 ·subst q
  cases rv
  rfl
end L3
namespace L2
open PySem PySem.Spec PyProof.Rows
section
variable {X:Cx}
end
end L2
namespace HT
open PySem PySem.Spec PyProof.Rows
section
variable {prog:Program} {w:World} {A:Around} {E:Value→Shared→Prop} {s:Shared}
end
end HT
namespace L2
open PySem PySem.Spec PyProof.Rows
section
variable {X:Cx} {e st:Expr} {te ts:TE} {p2 pos:Pos}
end
end L2
namespace L3
open PySem L2
section
variable {X:Cx} {e st:Expr} {te ts:TE3} {p2 pos:Pos}
noncomputable def rev3 (te ts:TE3):TE3:=fun σ S Q E=>te σ S (fun x S1=>ts σ S1 (fun y S2=>match x,y with | .tup xs,.int i=>i = -1∧Q (.tup xs.reverse) S2 | _,_=>False) E) E
end
end L3
namespace L2
open PySem PySem.Spec PyProof.Rows
section
variable {X:Cx}
end
end L2
namespace L3
open PySem L2
section
variable {X:Cx} {a b c:Expr} {ta tb tc:TE3} {pos:Pos}
noncomputable def chain3 (r r':R3) (ta tb tc:TE3):TE3:=fun σ S Q E=>ta σ S (fun x S1=>tb σ S1 (fun y S2=>r x y S2 fun z S3=>match z with | .bl k=>if k = true then tc σ S3 (fun w S4=>r' y w S4 Q) E else Q (.bl false) S3 | _=>False) E) E
theorem lift_chain {r r':R3} {σ:L2.St} {H:Hp} {Q:VK}:LE X (chain3 r r' ta tb tc) σ H Q→tChain (LR X r) (LR X r') (LE X ta) (LE X tb) (LE X tc) σ H Q:=fun ⟨σ3,S,Q3,E3,rσ,rS,h,xo,k⟩=>
 ⟨σ3,S,_,E3,rσ,rS,h,xo,fun x S1 v H1 h1 rx rS1 g1=>⟨σ3,S1,_,E3,rσ.mono g1,rS1,h1,xo.mono g1,fun y S2 u H2 h2 ry rS2 g2=>⟨x,y,S2,_,rx.mono g2,ry,rS2,h2,fun z S3 w H3 h3 rz rS3 g3=>by
  split at h3
  ·rename_i k'
   cases rz
   refine ⟨k',rfl,?_⟩
   cases k' with
   | false=>rw [if_neg (by decide)] at h3 ⊢; exact k _ S3 _ H3 h3 (.bl false) rS3 (g1.trans (g2.trans g3))
   | true=>
    rw [if_pos rfl] at h3 ⊢
    exact ⟨σ3,S3,_,E3,rσ.mono (g1.trans (g2.trans g3)),rS3,h3,xo.mono (g1.trans (g2.trans g3)),fun w' S4 v4 H4 h4 r4 rS4 g4=>⟨y,w',S4,Q3,ry.mono (g3.trans g4),r4,rS4,h4,k.mono (g1.trans (g2.trans (g3.trans g4)))⟩⟩
  ·exact h3.elim⟩⟩⟩
theorem t3chain {op op':CmpOp} {r r':R3} (ho:Op3 X (compareOp op) r) (ho':Op3 X (compareOp op') r') (ha:PE3 X a ta) (hb:PE3 X b tb) (hc:PE3 X c tc) (hm:lastMarks [op,op'] [b,c] = false:=by with_unfolding_all rfl):PT3 X (.Compare a [op,op'] [b,c] pos) (tst (chain3 r r' ta tb tc)):=
 ⟨PT_imp (pt_chain ho.ok ho'.ok ha.ok hb.ok hc.ok hm) fun σ H Q ⟨σ3,S,Q3,E3,rσ,rS,h,xo,k⟩=>lift_chain ⟨σ3,S,_,E3,rσ,rS,h,xo,fun p S' v H' h1 rv rS' g=>by
  cases p with
  | bl z=>cases rv; exact ⟨z,rfl,k z S' H' h1 rS' g⟩
  | _=>exact h1.elim⟩⟩
end
end L3
namespace L2
open PySem PySem.Spec PyProof.Rows PySem.AutoSeq1
section
variable {X:Cx}
end
end L2
namespace L3
open PySem L2
section
variable {X:Cx}
end
end L3
namespace C
open PySem L2 L3
noncomputable def k_SIDES_FROM:List (Key × Int):=[(Sum.inr "then",1),(Sum.inr "either",1),(Sum.inr "take",3),(Sum.inr "often",1)]
noncomputable def b__law_deal:TS3:=(cons3 (set3 3 (comp3 (iter3 (slice3 (v3 0) (os3 (v3 1)) (os3 (c3 (.int 63))))) (.n 0) yes3 (callB3 max23 [(v3 0),(op3 sub3' (c3 (.int 0)) (v3 0))]) 1 []))
  (cons3 (set3 4 (op3 add3 (c3 (.int 7919)) (v3 1)))
  (cons3 (for3 (iter3 (v3 3)) (.n 2) (set3 4 (op3 mod3 (op3 add3 (op3 mul3 (v3 4) (c3 (.int 48271))) (op3 mod3 (v3 2) (c3 (.int 2147483629)))) (c3 (.int 2147483647)))))
  (ret3 (disp3 [((c3 (.str "seed")),(v3 4)),((c3 (.str "number")),(c3 (.int 0))),((c3 (.str "left")),(lrev3 (comp3 (iter3 (v3 3)) (.n 0) (tst (op3 ge3 (v3 0) (op3 pow3 (c3 (.int 10)) (c3 (.int 18))))) (v3 0) 1 [])))])))))
noncomputable def b__law_draw:TS3:=(cons3 (while3 (and3 (tst (op3 (eq3 false) (op3 idx3 (v3 0) (c3 (.str "number"))) (c3 (.int 0)))) (tst (op3 gt3 (callB3 len3 [(op3 idx3 (v3 0) (c3 (.str "left")))]) (c3 (.int 0))))) (sub3 (bm3 "list" pop3 (op3 idx3 (v3 0) (c3 (.str "left"))) []) (v3 0) (c3 (.str "number"))))
  (cons3 (set3 2 (op3 idx3 (v3 0) (c3 (.str "number"))))
  (cons3 (if3 (tst (op3 gt3 (v3 2) (c3 (.int 0)))) (cons3 (sub3 (op3 fdiv3 (v3 2) (v3 1)) (v3 0) (c3 (.str "number")))
  (ret3 (op3 mod3 (v3 2) (v3 1)))) nil3)
  (cons3 (set3 3 (op3 mod3 (op3 add3 (op3 mul3 (op3 idx3 (v3 0) (c3 (.str "seed"))) (c3 (.int 48271))) (c3 (.int 7919))) (c3 (.int 2147483647))))
  (cons3 (sub3 (op3 mod3 (op3 add3 (op3 mul3 (v3 3) (c3 (.int 40692))) (c3 (.int 104729))) (c3 (.int 2147483399))) (v3 0) (c3 (.str "seed")))
  (cons3 (set3 4 (op3 mod3 (op3 mul3 (op3 idx3 (v3 0) (c3 (.str "seed"))) (op3 idx3 (v3 0) (c3 (.str "seed")))) (c3 (.int 2147483563))))
  (ret3 (op3 mod3 (op3 add3 (op3 mul3 (op3 mod3 (op3 mul3 (v3 3) (v3 3)) (c3 (.int 2147483629))) (c3 (.int 2147483563))) (v3 4)) (v3 1)))))))))
noncomputable def b__law_low:TS3:=(cons3 (par3 2 3 (callB3 max23 [(v3 0),(op3 sub3' (c3 (.int 0)) (v3 0))]) (v3 1))
  (cons3 (while3 (tst (op3 gt3 (v3 3) (c3 (.int 0)))) (par3 2 3 (v3 3) (op3 mod3 (v3 2) (v3 3))))
  (ret3 (tup3 [(op3 fdiv3 (v3 0) (v3 2)),(op3 fdiv3 (v3 1) (v3 2))]))))
noncomputable def b__law_words (x__law_draw:Sp3):TS3:=(cons3 (set3 2 (c3 (.str "abcdefghijklmnopqrstuvwxyz")))
  (cons3 (set3 3 (lst3 [(c3 (.str "jars")),(c3 (.str "deed")),(c3 (.str "rest")),(c3 (.str "pay")),(c3 (.str "put")),(c3 (.str "then")),(c3 (.str "either")),(c3 (.str "take")),(c3 (.str "often")),(c3 (.str "use"))]))
  (cons3 (set3 5 (bm3 "str" join3 (c3 (.str "")) [(comp3 (rng1 (call3 x__law_draw [(v3 0),(c3 (.int 6))])) (.n 0) yes3 (op3 idx3 (v3 2) (call3 x__law_draw [(v3 1),(c3 (.int 26))])) 1 [0,2])]))
  (cons3 (three3 6 7 8 (tup3 [(call3 x__law_draw [(v3 0),(op3 add3 (callB3 len3 [(v3 5)]) (c3 (.int 1)))]),(call3 x__law_draw [(v3 0),(c3 (.int 26))]),(op3 (eq3 false) (call3 x__law_draw [(v3 0),(c3 (.int 2))]) (c3 (.int 0)))]))
  (cons3 (set3 9 (lst3 []))
  (cons3 (for3 (rng1 (v3 1)) (.n 4) (cons3 (set3 10 (op3 add3 (op3 add3 (slice3 (v3 5) on3 (os3 (v3 6))) (op3 idx3 (v3 2) (op3 mod3 (op3 add3 (v3 7) (v3 4)) (c3 (.int 26))))) (slice3 (v3 5) (os3 (v3 6)) on3)))
  (cons3 (if3 (not3 (tst (v3 8))) (set3 10 (bm3 "str" join3 (c3 (.str "")) [(comp3 (rng1 (op3 add3 (c3 (.int 1)) (call3 x__law_draw [(v3 0),(c3 (.int 6))]))) (.n 0) yes3 (op3 idx3 (v3 2) (call3 x__law_draw [(v3 1),(c3 (.int 26))])) 1 [0,2])])) nil3)
  (cons3 (while3 (or3 (tst (op3 (in3 false) (v3 10) (v3 3))) (tst (op3 (in3 false) (v3 10) (v3 9)))) (set3 10 (op3 add3 (op3 idx3 (v3 2) (op3 mod3 (op3 add3 (bm3 "str" index3 (v3 2) [(op3 idx3 (v3 10) (c3 (.int 0)))]) (c3 (.int 1))) (c3 (.int 26)))) (slice3 (v3 10) (os3 (c3 (.int 1))) on3))))
  (expr3 (bm3 "list" append3 (v3 9) [(v3 10)]))))))
  (ret3 (v3 9))))))))
noncomputable def b__law_cost (x__law_draw x__law_low:Sp3):TS3:=(cons3 (set3 1 (call3 x__law_draw [(v3 0),(c3 (.int 4))]))
  (cons3 (if3 (tst (op3 (eq3 false) (v3 1) (c3 (.int 0)))) (ret3 (tup3 [(c3 (.int 0)),(c3 (.int 1))])) nil3)
  (cons3 (if3 (tst (op3 lt3 (v3 1) (c3 (.int 3)))) (ret3 (tup3 [(op3 add3 (c3 (.int 1)) (call3 x__law_draw [(v3 0),(c3 (.int 5))])),(c3 (.int 1))])) nil3)
  (ret3 (call3 x__law_low [(call3 x__law_draw [(v3 0),(c3 (.int 1000))]),(op3 add3 (c3 (.int 1)) (call3 x__law_draw [(v3 0),(c3 (.int 9))]))])))))
noncomputable def b__law_leaf (x__law_draw x__law_cost:Sp3):TS3:=(cons3 (set3 2 (call3 x__law_draw [(v3 0),(c3 (.int 7))]))
  (cons3 (if3 (tst (op3 (eq3 false) (v3 2) (c3 (.int 0)))) (ret3 (tup3 [(c3 (.str "rest"))])) nil3)
  (cons3 (if3 (or3 (tst (op3 lt3 (v3 2) (c3 (.int 4)))) (tst (op3 (eq3 false) (callB3 len3 [(v3 1)]) (c3 (.int 0))))) (ret3 (tup3 [(c3 (.str "pay")),(call3 x__law_cost [(v3 0)])])) nil3)
  (cons3 (set3 3 (op3 idx3 (lst3 [(c3 (.int 1)),(c3 (.int 2)),(op3 add3 (c3 (.int 1)) (call3 x__law_draw [(v3 0),(c3 (.int 9))]))]) (call3 x__law_draw [(v3 0),(c3 (.int 3))])))
  (ret3 (tup3 [(c3 (.str "put")),(op3 idx3 (v3 1) (call3 x__law_draw [(v3 0),(callB3 len3 [(v3 1)])])),(v3 3)]))))))
noncomputable def b__law_body (x__law_draw x__law_leaf s0:Sp3):TS3:=(cons3 (set3 4 (call3 x__law_draw [(v3 0),(c3 (.int 12))]))
  (cons3 (if3 (or3 (tst (op3 (eq3 false) (v3 3) (c3 (.int 0)))) (or3 (tst (op3 lt3 (op3 idx3 (v3 2) (c3 (.int 0))) (c3 (.int 2)))) (tst (op3 lt3 (v3 4) (c3 (.int 3)))))) (ret3 (call3 x__law_leaf [(v3 0),(v3 1)])) nil3)
  (cons3 (if3 (tst (op3 lt3 (v3 4) (c3 (.int 5)))) (cons3 (sub3 (op3 sub3' (op3 idx3 (v3 2) (c3 (.int 0))) (c3 (.int 1))) (v3 2) (c3 (.int 0)))
  (ret3 (tup3 [(c3 (.str "often")),(call3 s0 [(v3 0),(v3 1),(v3 2),(op3 sub3' (v3 3) (c3 (.int 1)))])]))) nil3)
  (cons3 (sub3 (op3 sub3' (op3 idx3 (v3 2) (c3 (.int 0))) (c3 (.int 2))) (v3 2) (c3 (.int 0)))
  (cons3 (set3 5 (call3 s0 [(v3 0),(v3 1),(v3 2),(op3 sub3' (v3 3) (c3 (.int 1)))]))
  (cons3 (set3 6 (call3 s0 [(v3 0),(v3 1),(v3 2),(op3 sub3' (v3 3) (c3 (.int 1)))]))
  (cons3 (if3 (tst (op3 lt3 (v3 4) (c3 (.int 8)))) (ret3 (tup3 [(c3 (.str "then")),(v3 5),(v3 6)])) nil3)
  (cons3 (if3 (or3 (tst (op3 (eq3 false) (v3 4) (c3 (.int 8)))) (tst (op3 (eq3 false) (callB3 len3 [(v3 1)]) (c3 (.int 0))))) (ret3 (tup3 [(c3 (.str "either")),(v3 5),(v3 6)])) nil3)
  (cons3 (set3 7 (op3 idx3 (lst3 [(c3 (.int 1)),(c3 (.int 1)),(c3 (.int 2)),(op3 add3 (c3 (.int 1)) (call3 x__law_draw [(v3 0),(c3 (.int 9))]))]) (call3 x__law_draw [(v3 0),(c3 (.int 4))])))
  (ret3 (tup3 [(c3 (.str "take")),(op3 idx3 (v3 1) (call3 x__law_draw [(v3 0),(callB3 len3 [(v3 1)])])),(v3 7),(v3 5),(v3 6)])))))))))))
noncomputable def b__law_pass_count (s0:Sp3):TS3:=(cons3 (if3 (tst (op3 (eq3 false) (op3 idx3 (v3 0) (c3 (.int 0))) (c3 (.str "then")))) (ret3 (op3 mul3 (call3 s0 [(op3 idx3 (v3 0) (c3 (.int 1)))]) (call3 s0 [(op3 idx3 (v3 0) (c3 (.int 2)))]))) nil3)
  (cons3 (if3 (or3 (tst (op3 (eq3 false) (op3 idx3 (v3 0) (c3 (.int 0))) (c3 (.str "either")))) (tst (op3 (eq3 false) (op3 idx3 (v3 0) (c3 (.int 0))) (c3 (.str "take"))))) (ret3 (op3 add3 (call3 s0 [(op3 idx3 (v3 0) (un3 neg3 (c3 (.int 2))))]) (call3 s0 [(op3 idx3 (v3 0) (un3 neg3 (c3 (.int 1))))]))) nil3)
  (ret3 (c3 (.int 1)))))
noncomputable def b__law_round_count (x__law_pass_count s0:Sp3):TS3:=(cons3 (if3 (tst (op3 (eq3 false) (op3 idx3 (v3 0) (c3 (.int 0))) (c3 (.str "often")))) (ret3 (op3 add3 (call3 x__law_pass_count [(op3 idx3 (v3 0) (c3 (.int 1)))]) (call3 s0 [(op3 idx3 (v3 0) (c3 (.int 1)))]))) nil3)
  (cons3 (if3 (tst (op3 (in3 false) (op3 idx3 (v3 0) (c3 (.int 0))) (tup3 [(c3 (.str "then")),(c3 (.str "either")),(c3 (.str "take"))]))) (ret3 (op3 add3 (call3 s0 [(op3 idx3 (v3 0) (un3 neg3 (c3 (.int 2))))]) (call3 s0 [(op3 idx3 (v3 0) (un3 neg3 (c3 (.int 1))))]))) nil3)
  (ret3 (c3 (.int 0)))))
noncomputable def b__law_deed_body (x__law_body x__law_pass_count x__law_round_count x__law_leaf:Sp3):TS3:=(cons3 (set3 4 (call3 x__law_body [(v3 0),(v3 1),(lst3 [(op3 sub3' (v3 2) (c3 (.int 1)))]),(c3 (.int 5))]))
  (cons3 (if3 (tst (op3 gt3 (op3 add3 (call3 x__law_pass_count [(v3 4)]) (call3 x__law_round_count [(v3 4)])) (v3 3))) (set3 4 (tup3 [(c3 (.str "then")),(tup3 [(c3 (.str "often")),(call3 x__law_leaf [(v3 0),(v3 1)])]),(call3 x__law_leaf [(v3 0),(v3 1)])])) nil3)
  (ret3 (v3 4))))
noncomputable def b__law_house (x__law_words x__law_draw x__law_deed_body:Sp3):TS3:=(cons3 (set3 4 (call3 x__law_words [(v3 0),(c3 (.int 8))]))
  (cons3 (set3 5 (callB3 ttuple3 [(slice3 (v3 4) on3 (os3 (call3 x__law_draw [(v3 0),(op3 add3 (v3 1) (c3 (.int 1)))])))]))
  (cons3 (set3 6 (op3 idx3 (lst3 [(c3 (.int 0)),(c3 (.int 4))]) (call3 x__law_draw [(v3 0),(c3 (.int 2))])))
  (cons3 (set3 7 (op3 add3 (c3 (.int 1)) (call3 x__law_draw [(v3 0),(v3 2)])))
  (cons3 (set3 8 (comp3 (rng1 (v3 7)) (.n 0) yes3 (tup3 [(op3 idx3 (v3 6) (op3 add3 (v3 2) (v3 0))),(call3 x__law_deed_body [(v3 1),(v3 3),(v3 5),(op3 fdiv3 (c3 (.int 24)) (v3 4))])]) 1 [0,6,5,7,3,4]))
  (ret3 (tup3 [(v3 5),(callB3 ttuple3 [(v3 8)])])))))))
noncomputable def b_sides_of:TS3:=(ret3 (slice3 (v3 0) (os3 (kget3 C.k_SIDES_FROM (op3 idx3 (v3 0) (c3 (.int 0))) (callB3 len3 [(v3 0)]))) on3))
noncomputable def b_parts_in (x_sides_of s0:Sp3):TS3:=(cons3 (set3 1 (lst3 [(v3 0)]))
  (cons3 (for3 (iter3 (call3 x_sides_of [(v3 0)])) (.n 2) (expr3 (bm3 "list" extend3 (v3 1) [(call3 s0 [(v3 2)])])))
  (ret3 (v3 1))))
noncomputable def b_common:TS3:=(cons3 (while3 (tst (op3 (eq3 true) (v3 1) (c3 (.int 0)))) (cons3 (set3 2 (op3 mod3 (v3 0) (v3 1)))
  (cons3 (set3 0 (v3 1))
  (set3 1 (v3 2)))))
  (ret3 (callB3 abs3 [(v3 0)])))
noncomputable def b_fraction (x_common:Sp3):TS3:=(cons3 (set3 2 (call3 x_common [(v3 0),(v3 1)]))
  (cons3 (if3 (tst (op3 lt3 (v3 1) (c3 (.int 0)))) (set3 2 (un3 neg3 (v3 2))) nil3)
  (ret3 (tup3 [(op3 fdiv3 (v3 0) (v3 2)),(op3 fdiv3 (v3 1) (v3 2))]))))
noncomputable def b_plus (x_fraction:Sp3):TS3:=(ret3 (call3 x_fraction [(op3 add3 (op3 mul3 (op3 idx3 (v3 0) (c3 (.int 0))) (op3 idx3 (v3 1) (c3 (.int 1)))) (op3 mul3 (op3 idx3 (v3 1) (c3 (.int 0))) (op3 idx3 (v3 0) (c3 (.int 1))))),(op3 mul3 (op3 idx3 (v3 0) (c3 (.int 1))) (op3 idx3 (v3 1) (c3 (.int 1))))]))
noncomputable def b_chosen:TS3:=(ret3 (op3 idx3 (v3 0) (op3 add3 (un3 neg3 (c3 (.int 2))) (op3 idx3 (v3 1) (c3 (.int 0))))))
noncomputable def b_things_of:TS3:=(ret3 (callB3 ttuple3 [(comp3 (iter3 (v3 0)) (.n 0) yes3 (ife3 (tst (op3 (eq3 false) (v3 0) (v3 1))) (v3 2) (c3 (.int 0))) 1 [1,2])]))
noncomputable def b_added:TS3:=(ret3 (callB3 ttuple3 [(comp3 (zip3 (v3 0) (v3 1)) (.tp (.cons (.n 0) (.cons (.n 1) .nil))) yes3 (op3 add3 (v3 0) (v3 1)) 2 [])]))
noncomputable def b__law_plus (x__law_low:Sp3):TS3:=(ret3 (call3 x__law_low [(op3 add3 (op3 mul3 (op3 idx3 (v3 0) (c3 (.int 0))) (op3 idx3 (v3 1) (c3 (.int 1)))) (op3 mul3 (op3 idx3 (v3 1) (c3 (.int 0))) (op3 idx3 (v3 0) (c3 (.int 1))))),(op3 mul3 (op3 idx3 (v3 0) (c3 (.int 1))) (op3 idx3 (v3 1) (c3 (.int 1))))]))
noncomputable def b_has_row:TS3:=(ret3 (op3 (in3 true) (op3 idx3 (v3 0) (c3 (.int 0))) (tup3 [(c3 (.str "rest")),(c3 (.str "then"))])))
noncomputable def b_rows_in (x_parts_in x_has_row:Sp3):TS3:=(ret3 (callB3 len3 [(comp3 (iter3 (call3 x_parts_in [(v3 0)])) (.n 0) (tst (call3 x_has_row [(v3 0)])) (v3 0) 1 [])]))
end C
namespace Zu
open PySem
open Sem (wp)
section
variable {prog:Program} {w:World} {A:Around} {E:Value→Shared→Prop} {s:Shared}
variable {n l1 l2 l3:Nat} {i:Nat} {xs ys zs:Array Value} {x y z a b c:Value}
end
section
variable {prog:Program} {w:World} {A:Around} {E:Value→Shared→Prop} {s:Shared}
end
end Zu
namespace L2
open PySem PySem.Spec PyProof.Rows
section
variable {X:Cx}
end
end L2
namespace L3
open PySem L2
section
variable {X:Cx} {a b c:Expr} {ta tb tc:TE3} {p pos:Pos}
end
end L3
namespace L2
open PySem PySem.Spec PyProof.Rows
section
variable {X:Cx}
end
end L2
namespace L3
open PySem L2
section
variable {X:Cx}
end
end L3
namespace C
open PySem L2 L3
noncomputable def b__law_any_house (x__law_draw x__law_house x__law_words x__law_body:Sp3):TS3:=(cons3 (if3 (tst (op3 (eq3 false) (call3 x__law_draw [(v3 0),(c3 (.int 2))]) (c3 (.int 0)))) (ret3 (call3 x__law_house [(v3 0),(c3 (.int 4)),(c3 (.int 4)),(c3 (.int 20))])) nil3)
  (cons3 (set3 1 (call3 x__law_words [(v3 0),(c3 (.int 8))]))
  (cons3 (set3 2 (callB3 ttuple3 [(slice3 (v3 1) on3 (os3 (call3 x__law_draw [(v3 0),(c3 (.int 5))])))]))
  (cons3 (set3 3 (op3 add3 (c3 (.int 1)) (call3 x__law_draw [(v3 0),(c3 (.int 4))])))
  (ret3 (tup3 [(v3 2),(callB3 ttuple3 [(comp3 (rng1 (v3 3)) (.n 0) yes3 (tup3 [(op3 idx3 (v3 3) (op3 add3 (c3 (.int 4)) (v3 0))),(call3 x__law_body [(v3 1),(v3 2),(lst3 [(c3 (.int 19))]),(c3 (.int 5))])]) 1 [0,2,1])])]))))))
noncomputable def b__law_trace_to (x__law_draw s0:Sp3):TS3:=(cons3 (if3 (tst (op3 (eq3 false) (op3 idx3 (v3 1) (c3 (.int 0))) (c3 (.str "then")))) (cons3 (set3 4 (call3 s0 [(v3 0),(op3 idx3 (v3 1) (c3 (.int 1))),(v3 2),(v3 3)]))
  (ret3 (tup3 [(v3 4),(call3 s0 [(v3 0),(op3 idx3 (v3 1) (c3 (.int 2))),(v3 2),(v3 3)])]))) nil3)
  (cons3 (if3 (or3 (tst (op3 (eq3 false) (op3 idx3 (v3 1) (c3 (.int 0))) (c3 (.str "either")))) (tst (op3 (eq3 false) (op3 idx3 (v3 1) (c3 (.int 0))) (c3 (.str "take"))))) (cons3 (set3 5 (call3 x__law_draw [(v3 0),(c3 (.int 2))]))
  (ret3 (tup3 [(v3 5),(call3 s0 [(v3 0),(op3 idx3 (v3 1) (op3 sub3' (v3 5) (c3 (.int 2)))),(v3 2),(v3 3)])]))) nil3)
  (cons3 (set3 6 (lst3 []))
  (cons3 (for3 (rng1 (op3 mul3 (call3 x__law_draw [(v3 0),(c3 (.int 4))]) (callB3 tint3 [(op3 (eq3 false) (op3 idx3 (v3 1) (c3 (.int 0))) (c3 (.str "often")))]))) (.n 7) (if3 (tst (op3 gt3 (op3 idx3 (v3 2) (c3 (.int 0))) (c3 (.int 0)))) (cons3 (sub3 (op3 sub3' (op3 idx3 (v3 2) (c3 (.int 0))) (c3 (.int 1))) (v3 2) (c3 (.int 0)))
  (cons3 (set3 8 (op3 add3 (c3 (.int 1)) (call3 x__law_draw [(v3 0),(op3 idx3 (lst3 [(c3 (.int 3)),(v3 3)]) (call3 x__law_draw [(v3 0),(c3 (.int 2))]))])))
  (expr3 (bm3 "list" append3 (v3 6) [(tup3 [(v3 8),(call3 s0 [(v3 0),(op3 idx3 (v3 1) (c3 (.int 1))),(v3 2),(v3 3)])])])))) nil3))
  (ret3 (callB3 ttuple3 [(v3 6)]))))))
end C
namespace Zv
open PySem
open Sem (wp)
noncomputable abbrev IsZ (h:Heap) (n:Nat) (f0 f1:Value):Prop:=h.get? (n + 4:Nat) = some { cls:=.type "zip",dict:=none,data:=.fields #[f0,f1,.bool false,.ref (n + 2:Nat),.ref (n + 3:Nat)],slots:=#[] }
section
variable {prog:Program} {w:World} {A:Around} {E:Value→Shared→Prop} {s:Shared} {n l1 l2:Nat} {i:Nat} {xs ys:Array Value} {x y:Value} {T:Nat} {oT:Obj} {f1:Value}
end
noncomputable def refs (n i:Nat):List Value:=(List.range i).map fun j=>Value.ref (n + 6 + j:Nat)
structure St (h:Heap) (n l1 l2:Nat) (xs ys:Array Value) (i:Nat):Prop where
 sz:h.objs.size = n + 6 + i
 I:IsPair h (n + 2:Nat) (.ref n) (.ref (n + 1:Nat))
 z:∃ f1,(f1 = .bool false ∨ f1 = .bool true)∧IsZ h n (rawInt (n + 6:Nat)) f1
 g1:h.IsListIter n l1 i
 g2:h.IsListIter (n + 1:Nat) l2 i
 t1:h.IsList l1 xs
 t2:h.IsList l2 ys
 S:∃ c,h.get? (n + 5:Nat) = some { cls:=.type "list",dict:=none,data:=.seq (refs n i).toArray c,slots:=#[] }
 its:∀ j x y,j < i→xs[j]? = some x→ys[j]? = some y→IsPair h (n + 6 + j:Nat) x y
structure St0 (h:Heap) (n:Nat) (xs ys:Array Value):Prop where
 sz:n + 6 + xs.size ≤ h.objs.size
 S:∃ c,h.get? (n + 5:Nat) = some { cls:=.type "list",dict:=none,data:=.seq (refs n xs.size).toArray c,slots:=#[] }
 its:∀ j x y,xs[j]? = some x→ys[j]? = some y→IsPair h (n + 6 + j:Nat) x y
section
variable {prog:Program} {w:World} {A:Around} {R:Result→Shared→Prop} {n l1 l2:Nat} {xs ys:Array Value}
end
section
variable {prog:Program} {w:World} {A:Around} {E:Value→Shared→Prop} {s:Shared} {n l1 l2:Nat} {xs ys:Array Value}
end
end Zv
namespace L2
open PySem PySem.Spec PyProof.Rows
structure FunD (K:PySem.W.Frag) (x:Str) (st:Stmt) (T:Addr) (f:Addr) (fd:FuncData):Prop where
 ex:∃ (oc:Value) (od:Option Addr) (kV doc pm:Value) (an:Option Addr) (cdv ct:Value) (osl:Array (Option Value)),
  fd = PySem.W.fnOf x x (defArgs st) (defBody st) (defScope st) (.ref T) kV doc pm an cdv ct∧K.lookup f = some ⟨oc,od,.func fd,osl⟩∧PySem.W.codeIn K cdv x = true
 kp:PySem.W.keepIn K (.ref f) = true
section
variable {P:Program} {w:World} {K:PySem.W.Frag} {mg:Str→Option Value} {base:Heap}
theorem FunD.ok {x:Str} {st:Stmt} {T f:Addr} {fd:FuncData} {N ps:List Str} {k:Nat} {sp:Sp} (F:FunD K x st T f fd) (S:FnScope N ps (defScope st)) (len:∀ vs H Q E,sp vs H Q E→vs.length = ps.length)
  (hbody:∀ (cdv:Value) (A:Around) (outer:List Env) (s:Shared) (H:Hp) (vs:List V) (Q:VK) (E:XK),Room k (A.deeper (envOfC x (defScope st) s.heap.objs.size f cdv))→sp vs H Q E→
   ∃ t,PSs (cxOf CX0 P w K mg base N x (defScope st) f cdv A outer s H E).nox (defBody st) t∧t { nx:=fun _ H'=>Q .non H',rt:=Q } (start N vs) H):FnOk P w K mg base CX0 (k + 1) f fd ps sp:=by
 obtain ⟨oc,od,kV,doc,pm,an,cdv,ct,osl,rfl,lk,hcd⟩:=F.ex
 refine fn_of lk hcd S len fun A outer s H vs Q E hr hsp=>?_
 obtain ⟨t,h,q⟩:=hbody cdv A outer s H vs Q E hr hsp
 exact ⟨t,h.nox,q⟩
end
section
variable {X:Cx}
end
end L2
namespace L3
open PySem L2
section
variable {P:Program} {w:World} {K:PySem.W.Frag} {mg:Str→Option Value} {base:Heap}
structure OwnD (K:PySem.W.Frag) (mg:Str→Option Value) (x:Str) (st:Stmt) (ps:List Str) (T:Addr) (f:Addr) (fd:FuncData):Prop where
 F:FunD K x st T f fd
 b:Binds K fd ps []
 d:Binds K fd ps [.bool true]
 k:PySem.W.keepIn K (.ref f) = true
 m:mg x = some (.ref f)
end
section
variable {X:Cx} {e o:Expr} {es:List Expr} {te to:TE3} {ts:List TE3} {x:Str} {p pos apos cpos:Pos} {k:Nat} {f:Addr} {fd:FuncData} {ps:List Str} {sp:Sp3}
end
section
variable {X:Cx} {a b:Expr} {ta tb:TE3}
end
end L3
namespace L2
open PySem PySem.Spec PyProof.Rows
noncomputable def idxBody (its:Array Value) (z:Str) (u:Tok) (i:Nat) (_:Option Fin × Unit):Sem (ForInStep (Option Fin × Unit)):=
 match its[i]? with
 | some y=>do
  let __do_lift ← eqBool y (Value.str z u)
  if __do_lift = true then do
   let __do_lift ← retInt (i:Int)
   pure (ForInStep.done (some __do_lift,()))
  else pure (ForInStep.yield (none,()))
 | _=>pure (ForInStep.yield (none,()))
theorem idx_loop {prog:Program} {w:World} {A:Around} {E:Value→Shared→Prop} {z:Str} {u:Tok} {its:Array Value} {k:Nat} {Q:Option Fin × Unit→Shared→Prop} (hk:∃ t,its[k]? = some (.str z t)) :
  ∀ (m i:Nat) (s:Shared),i + m = its.size→i ≤ k→(∀ j v,i ≤ j→j < k→its[j]? = some v→∃ a t,v = .str a t∧a ≠ z)→(∀ tk,Q (some (.done (.ret (.int k tk))),()) { s with toks:=s.toks + 1 })→
  wpAny (model prog w) A (forIn (List.range' i m 1) ((none,()):Option Fin × Unit) (idxBody its z u)) Q E s
 | 0,i,s,hm,hi,h,q=>by
  obtain ⟨t,hk⟩:=hk
  have:=(Array.getElem?_eq_some_iff.mp hk).1
  omega
 | m + 1,i,s,hm,hi,h,q=>by
  rw [List.range'_succ,List.forIn_cons]
  have hlt:i < its.size:=by omega
  by_cases e:i = k
  ·subst e
   obtain ⟨t,hk⟩:=hk
   refine wpAny_bind ?_
   unfold idxBody
   rw [hk]
   refine wpAny_bind (wpAny_eqBool_str ?_)
   rw [decide_eq_true rfl,if_pos rfl]
   exact wpAny_bind (wpAny_bind (wpAny_mkInt (wpAny_pure (wpAny_pure (wpAny_pure (q _))))))
  ·have hv:=Array.getElem?_eq_getElem hlt
   obtain ⟨a,t,ea,ne⟩:=h i _ (Nat.le_refl _) (by omega) hv
   refine wpAny_bind ?_
   have eb:idxBody its z u i (none,()) = (do let __do_lift ← eqBool (Value.str a t) (Value.str z u); if __do_lift = true then do { let __do_lift ← retInt (i:Int); pure (ForInStep.done (some __do_lift,())) } else pure (ForInStep.yield (none,()))):=by
    unfold idxBody
    rw [hv,ea]
   rw [eb]
   refine wpAny_bind (wpAny_eqBool_str ?_)
   rw [decide_eq_false ne,if_neg (by decide)]
   exact wpAny_pure (idx_loop hk m (i + 1) s (by omega) (by omega) (fun j v h1 h2=>h j v (by omega) h2) q)
theorem tindex (l:Addr) (its:Array Value) (n:Nat) (dd:Option Addr) (sl:Array (Option Value)) (z:Str) (u:Tok) (k:Nat) (hk:∃ t,its[k]? = some (.str z t)) (h:∀ j v,j < k→its[j]? = some v→∃ a t,v = .str a t∧a ≠ z) :
  Meets (Builtin.«tuple.index» ⟨[.ref l,.str z u],[]⟩) (fun _ R s=>s.heap.get? l = some { cls:=.type "tuple",dict:=dd,data:=.seq its n,slots:=sl }∧∀ tk,R (.ok (.ret (.int k tk))) { s with toks:=s.toks + 1 }):=
 .of_wp fun prog w A R s hh=>by
  obtain ⟨hp,g,d,tk,os⟩:=s; obtain ⟨hl,q⟩:=hh
  wp_walk using wpAny_loadPart' hl
  show wpAny _ _ (forIn (⟨0,min its.size its.size,1,Nat.one_pos⟩:Std.Legacy.Range) ((none,()):Option Fin × Unit) (idxBody its z u)) _ _ _
  rw [Std.Legacy.Range.forIn_eq_forIn_range']
  have e:Std.Legacy.Range.size ⟨0,min its.size its.size,1,Nat.one_pos⟩ = its.size:=by unfold Std.Legacy.Range.size; simp
  rw [e]
  exact idx_loop hk its.size 0 _ (by omega) (Nat.zero_le _) (fun j v _ hj hv=>h j v hj hv) fun tk'=>wpAny_pure ⟨_,rfl,q tk'⟩
section
variable {X:Cx}
noncomputable def rIndexT (K:PySem.W.Frag):V→List V→Hp→VK→Prop:=fun x vs H Q=>∃ (l:Addr) (zs:List Str) (z:Str) (k:Nat),x = .ref l∧vs = [.str z]∧SqT K H l (zs.map V.str)∧zs[k]? = some z∧(∀ j:Nat,j < k→zs[j]? ≠ some z)∧Q (.int k) H
theorem mt_indexT:MtR X "tuple.index" (rIndexT X.K):=by
 intro pins s σ H x vs v us Q I rx rv h
 obtain ⟨l,zs,z,k,rfl,rfl,hT,hk,hf,q⟩:=h
 cases rx
 obtain ⟨w,rfl,u,rfl⟩:=vals1 rv
 obtain ⟨its,r1,p1,_⟩:=I.tuple hT
 obtain ⟨⟨cls,dd,data,sl⟩,ho,hc,n,hd⟩:=id p1
 simp only at hc hd
 subst hc hd
 refine call_meets PySem.F.slot_tuple_index ⟨_,ho,rfl⟩ PySem.F.entry_tuple_index (PySem.F.args_tuple_index_2 _ _) (tindex l its.toArray n dd sl z u k ?_ ?_) ⟨ho,fun tk=>⟨.int k,H,I.tok _,⟨_,rfl⟩,q⟩⟩
 ·obtain ⟨v,hv,t,rfl⟩:=r1.get (i:=k) (x:=.str z) (by rw [List.getElem?_map,hk]; rfl)
  exact ⟨t,by simpa using hv⟩
 ·intro j v hj hv
  have hjl:j < its.length:=by simpa using (Array.getElem?_eq_some_iff.mp hv).1
  have hl:=r1.length
  rw [List.length_map] at hl
  obtain ⟨v',hv',t,rfl⟩:=r1.get (i:=j) (x:=.str (zs[j]'(by omega))) (by rw [List.getElem?_map,List.getElem?_eq_getElem (by omega)]; rfl)
  have e:v = .str (zs[j]'(by omega)) t:=by
   have h1:its[j]? = some v:=by simpa using hv
   rw [hv'] at h1; cases h1; rfl
  exact ⟨_,t,e,fun h=>hf j hj (by rw [List.getElem?_eq_getElem (by omega),h])⟩
theorem tupT_is {pins:List (Addr × Obj)} {σ:St} {H:Hp} {s:Shared} {a:Addr} {xs:List V} (I:Inv X pins σ H s) (h:SqT X.K H a xs):s.TypeIs (.ref a) "tuple"∧∀ b,Value.ref a = .ref b→∃ ob,s.heap.get? b = some ob∧ob.dict = none:=by
 rcases h with h | ⟨o,its,n,hk,hc,hd,_⟩
 ·obtain ⟨z,its,r,o,e,hd,hc,_⟩:=h.ok I.hok
  exact ⟨⟨o,e,hc⟩,fun b q=>by cases q; exact ⟨o,e,hd⟩⟩
 ·exact ⟨⟨o,I.kIn a o hk,hc⟩,fun b q=>by cases q; exact ⟨o,I.kIn _ o hk,hd⟩⟩
variable {o e:Expr} {es:List Expr} {to:TE} {t:TA} {name:Str} {apos cpos:Pos} {id:String} {r:V→List V→Hp→VK→Prop}
noncomputable def tBMT (K:PySem.W.Frag) (r:V→List V→Hp→VK→Prop) (to:TE) (t:TA):TE:=fun σ H Q=>to σ H fun x H1=>(∃ a xs,x = .ref a∧SqT K H1 a xs)∧t σ H1 fun xs H2=>r x xs H2 Q
theorem pe_bmT (pa:PlainAttrs "tuple") (slot:Slot "tuple" name id) (hty:typeOf (.builtin id) = pure (.type "method_descriptor")) (hm:MtR X id r) (ho:PE X o to) (ha:PA X (e :: es) t)
  (hbase:attributeBase o name X.env (eval o X.env) = eval o X.env:=by rfl)
  (hfew:((backTo cpos (starEach (e :: es) X.env)).all (fun x=>!x.1) && (backToKw cpos (keywordEach [] X.env)).all (fun x=>x.1.isSome)
   && decide ((e :: es).length + ([]:List Keyword).length + (if ([]:List Keyword).isEmpty then 0 else 1) < 30)) = true:=by rfl)
  (hline:(apos.endLine == cpos.line) = true:=by rfl) (hs:starEach (e :: es) X.env = (false,eval e X.env) :: starEach es X.env:=by rfl) (hplain:(backTo cpos (starEach es X.env)).any (·.1) = false:=by rfl) :
  PE X (.Call (.Attribute o name apos) (e :: es) [] cpos) (tBMT X.K r to t):=by
 intro pins s σ H Q I h
 refine wpAny_Call_method_late hbase hfew hline rfl (thn (ho pins s σ H _ I h) fun v s1 ⟨x,H1,I1,r1,⟨a,xs,ex,hT⟩,q1⟩=>?_)
 subst ex
 have r1':=r1
 cases r1
 obtain ⟨h1,h2⟩:=tupT_is I1 hT
 refine ⟨"tuple",id,pa,slot,hty,h1,h2,?_⟩
 have hA:=ha cpos pins s1 σ H1 _ I1 q1
 rw [hs] at hA ⊢
 refine Calls.callWith_builtin (by show (false || (backTo cpos (starEach es X.env)).any (·.1)) = false; rw [hplain] <;> rfl) (Calls.evalArgs_plain ?_)
 exact thn hA fun us s2 ⟨vs,H2,I2,r2,q2⟩=>hm pins s2 σ H2 _ vs _ us Q I2 r1' r2 q2
end
end L2
namespace L3
open PySem L2
section
variable {X:Cx}
noncomputable def strsOf:List PV→Option (List Str)
 | []=>some []
 | .str z :: r=>(strsOf r).map (z :: ·)
 | _ :: _=>none
theorem strsOf_map:∀ zs:List Str,strsOf (zs.map PV.str) = some zs
 | []=>rfl
 | z :: r=>by show (strsOf (r.map PV.str)).map (z :: ·) = _; rw [strsOf_map r]; rfl
theorem strsOf_eq:∀ {ps:List PV} {zs:List Str},strsOf ps = some zs→ps = zs.map PV.str
 | [],zs,h=>by cases h; rfl
 | .str z :: r,zs,h=>by
  unfold strsOf at h
  cases e:strsOf r with
  | none=>rw [e] at h; cases h
  | some ws=>rw [e] at h; cases h; rw [strsOf_eq e]; rfl
noncomputable def indexT3:RM3:=fun x ps S Q=>match x,ps with
 | .tup xs,[.str z]=>(match strsOf xs with | some zs=>∃ k:Nat,zs[k]? = some z∧(∀ j:Nat,j < k→zs[j]? ≠ some z)∧Q (.int k) S | none=>False)
 | _,_=>False
theorem reps_strs {K:PySem.W.Frag} {H:Hp}:∀ {vs:List V} {zs:List Str},Reps K H vs (zs.map PV.str)→vs = zs.map V.str
 | [],[],_=>rfl
 | v :: vs,z :: zs,.cons a r=>by cases a; rw [reps_strs r]; rfl
theorem m3indexT:Mt3 X "tuple.index" indexT3:=⟨fun pins s σ H x xs v us Q I rx rs ⟨px,ps,S,Q3,r1,rp,rS,q,k⟩=>by
 unfold indexT3 at q
 split at q
 ·split at q
  ·rename_i e
   obtain ⟨j,hk,hf,q⟩:=q
   cases r1 with
   | tup hq rs'=>
    rw [strsOf_eq e] at rs'
    have ev:=reps_strs rs'
    subst ev
    cases rp with
    | cons b rr=>
     cases rr; cases b
     exact mt_indexT pins s σ H _ _ v us Q I rx rs ⟨_,_,_,j,rfl,rfl,hq,hk,hf,k _ S _ H q (.int _) rS .refl⟩
  ·exact q.elim
 ·exact q.elim⟩
variable {o e:Expr} {es:List Expr} {to:TE3} {ts:List TE3} {name:Str} {apos cpos:Pos} {id:String}
noncomputable def bmT3 (r:RM3) (to:TE3) (ts:List TE3):TE3:=fun σ S Q E=>to σ S (fun x S1=>match x with | .tup _=>args3 ts σ S1 (fun ps S2=>r x ps S2 Q) E | _=>False) E
theorem e3bmT {r:RM3} (pa:PlainAttrs "tuple") (slot:Slot "tuple" name id) (hty:typeOf (.builtin id) = pure (.type "method_descriptor")) (hm:Mt3 X id r) (hs:starEach (e :: es) X.env = (false,eval e X.env) :: starEach es X.env) (ho:PE3 X o to) (ha:PL3 X (e :: es) ts)
  (hbase:attributeBase o name X.env (eval o X.env) = eval o X.env:=by rfl)
  (hfew:((backTo cpos (starEach (e :: es) X.env)).all (fun x=>!x.1) && (backToKw cpos (keywordEach [] X.env)).all (fun x=>x.1.isSome)
   && decide ((e :: es).length + ([]:List Keyword).length + (if ([]:List Keyword).isEmpty then 0 else 1) < 30)) = true:=by rfl)
  (hline:(apos.endLine == cpos.line) = true:=by rfl) (hplain:(backTo cpos (starEach es X.env)).any (·.1) = false:=by rfl):PE3 X (.Call (.Attribute o name apos) (e :: es) [] cpos) (bmT3 r to ts):=
 ⟨PE_imp (pe_bmT pa slot hty hm.ok ho.ok ha.ok hbase hfew hline hs hplain) fun σ H Q ⟨σ3,S,Q3,E3,rσ,rS,h,xo,k⟩=>⟨σ3,S,_,E3,rσ,rS,h,xo,fun x S1 v H1 h1 rx rS1 g1=>by
  dsimp only at h1
  split at h1
  ·have rx':=rx
   cases rx with
   | tup hq rs=>exact ⟨⟨_,_,rfl,hq⟩,lift_args (rσ.mono g1) rS1 h1 (xo.mono g1) fun ps S2 vs H2 hl q rv rS2 g2=>⟨_,ps,S2,Q3,rx'.mono g2,rv,rS2,q,k.mono (g1.trans g2)⟩⟩
  ·exact h1.elim⟩⟩
end
end L3
namespace L2
open PySem PySem.Spec PyProof.Rows
section
variable {X:Cx}
end
end L2
namespace L3
open PySem L2
section
variable {X:Cx} {a b:Expr} {ta tb:TE3} {p pos:Pos}
end
end L3
namespace C
open PySem L2 L3
noncomputable def b__law_walk (s0:Sp3):TS3:=(cons3 (if3 (and3 (tst (op3 (eq3 true) (op3 idx3 (v3 0) (c3 (.int 0))) (c3 (.str "rest")))) (tst (op3 (eq3 true) (op3 idx3 (v3 0) (c3 (.int 0))) (c3 (.str "then"))))) (cons3 (if3 (tst (v3 3)) (expr3 (bm3 "list" append3 (v3 4) [(v3 1)])) nil3)
  (set3 1 (op3 add3 (v3 1) (c3 (.int 1))))) nil3)
  (cons3 (if3 (tst (op3 (eq3 false) (op3 idx3 (v3 0) (c3 (.int 0))) (c3 (.str "often")))) (ret3 (call3 s0 [(op3 idx3 (v3 0) (c3 (.int 1))),(v3 1),(v3 2),(v3 3),(v3 4)])) nil3)
  (cons3 (if3 (tst (op3 (in3 false) (op3 idx3 (v3 0) (c3 (.int 0))) (tup3 [(c3 (.str "then")),(c3 (.str "either")),(c3 (.str "take"))]))) (cons3 (set3 1 (call3 s0 [(op3 idx3 (v3 0) (un3 neg3 (c3 (.int 2)))),(v3 1),(v3 2),(andv3 (v3 3) (orv3 (op3 (eq3 true) (op3 idx3 (v3 0) (c3 (.int 0))) (c3 (.str "take"))) (op3 (in3 false) (op3 idx3 (v3 0) (c3 (.int 1))) (v3 2)))),(v3 4)]))
  (ret3 (call3 s0 [(op3 idx3 (v3 0) (un3 neg3 (c3 (.int 1)))),(v3 1),(v3 2),(v3 3),(v3 4)]))) nil3)
  (ret3 (v3 1)))))
end C
namespace L3
open PySem L2 Xc
noncomputable def XRet (K:PySem.W.Frag) (H:Hp) (E3:XK3) (E:XK):Prop:=∀ (c:Str) (ks:List Str) (ps:List PV) (S':Sto) (H':Hp) (C dx:Addr) (od:Obj) (vs:List V),E3 (.exc c ks ps) [] S'→ClsN K c C→vs.length = ks.length→
 H' dx = some (.frz od (.ext (XD dx (ks.zip vs))))→Reps K H' vs ps→RepS K H' S'→Grow K H H'→E (.ref C) (some dx) H'
noncomputable def LSpX (K:PySem.W.Frag) (n:Nat) (sp:Sp3):Sp:=fun vs H Q E=>vs.length = n∧∃ ps S Q3 E3,Reps K H vs ps∧RepS K H S∧sp ps S Q3 E3∧Ret K H Q3 Q∧XRet K H E3 E
structure Fn3X (P:Program) (w:World) (K:PySem.W.Frag) (mg:Str→Option Value) (base:Heap) (k:Nat) (f:Addr) (fd:FuncData) (ps:List Str) (sp:Sp3):Prop where
 ok:FnOk P w K mg base (CX1 P w) k f fd ps (LSpX K ps.length sp)
theorem Fn3X.zero {P:Program} {w:World} {K:PySem.W.Frag} {mg:Str→Option Value} {base:Heap} {k:Nat} {f:Addr} {fd:FuncData} {ps:List Str} {sp:Sp3} (h:sp = fun _ _ _ _=>False):Fn3X P w K mg base k f fd ps sp:=by
 subst h
 exact ⟨⟨fun vs H Q E q=>q.1,fun A outer s H args us vs Q E _ _ _ _ ⟨_,_,_,_,_,_,_,q,_⟩=>q.elim⟩⟩
noncomputable def callX3 (sp:Sp3) (ts:List TE3):TE3:=fun σ S Q E=>args3 ts σ S (fun ps S1=>sp ps S1 Q (fun p _ S'=>E p σ S')) E
noncomputable def fnX3 (n:Nat) (t:TS3):Sp3:=fun args S Q E=>t { nx:=fun _ S'=>Q .non S',rt:=Q,ex:=fun p _ S'=>E p [] S' } (start3 n args) S
section
variable {X:Cx} {e o:Expr} {es:List Expr} {te to:TE3} {ts:List TE3} {x:Str} {p pos apos cpos:Pos} {k:Nat} {f:Addr} {fd:FuncData} {ps:List Str} {sp:Sp3}
theorem e3callX (F:Fn3X X.prog X.w X.K X.mg X.base k f fd ps sp) (hr:Room k X.A) (hg:Gl X x) (hm:X.mg x = some (.ref f)) (hk:PySem.W.keepIn X.K (.ref f) = true) (hb:Binds X.K fd ps []) (he:starEach (e :: es) X.env = (false,eval e X.env) :: starEach es X.env) (ha:PL3 X (e :: es) ts)
    (hl:ts.length = ps.length:=by rfl) (hdb:(x == ("__debug__":Str)) = false:=by decide) (hpl:(backTo pos (starEach es X.env)).any (·.1) = false:=by rfl):PE3 X (.Call (.Name x p) (e :: es) [] pos) (callX3 sp ts):=
  ⟨PE_imp (pe_callX F.ok hr hg hm hk hb ha.ok hdb he hpl) fun σ H Q ⟨σ3,S,Q3,E3,rσ,rS,h,xo,k⟩=>lift_args rσ rS h xo fun ps' S' vs H' hl' q rv rS' g=>
    ⟨fun c d H2=>∃ (cn:Str) (ks:List Str) (ps2:List PV) (S2:Sto) (C dx:Addr) (od:Obj) (vs2:List V),c = .ref C∧d = some dx∧E3 (.exc cn ks ps2) σ3 S2∧ClsN X.K cn C∧vs2.length = ks.length∧H2 dx = some (.frz od (.ext (XD dx (ks.zip vs2))))∧Reps X.K H2 vs2 ps2∧RepS X.K H2 S2∧Grow X.K H' H2,
     ⟨by rw [rv.length,hl',hl],ps',S',Q3,_,rv,rS',q,k.mono g,fun cn ks ps2 S2 H2 C dx od vs2 h1 h2 h3 h4 h5 h6 h7=>⟨cn,ks,ps2,S2,C,dx,od,vs2,rfl,rfl,h1,h2,h3,h4,h5,h6,h7⟩⟩,
     fun pins c d H2 ⟨cn,ks,ps2,S2,C,dx,od,vs2,e1,e2,h1,h2,h3,h4,h5,h6,h7⟩ s' a C' dx' e3 e4 I xa=>by
      subst e1 e2; cases e3; cases e4
      exact xo cn ks ps2 σ3 S2 H2 pins σ s' a _ _ od vs2 h1 h2 h3 h4 h5 h6 (rσ.mono (g.trans h7)) (g.trans h7) I xa⟩⟩
end
section
variable {P:Program} {w:World} {K:PySem.W.Frag} {mg:Str→Option Value} {base:Heap}
noncomputable abbrev cx3X (P:Program) (w:World) (K:PySem.W.Frag) (mg:Str→Option Value) (base:Heap) (N:List Str) (qual:Str) (st:Stmt) (f:Addr) (cdv:Value) (A:Around) (outer:List Env) (s:Shared) (H:Hp) (E:XK):Cx:=cxOf (CX1 P w) P w K mg base N qual (defScope st) f cdv A outer s H E
theorem mk3X {x qual:Str} {st:Stmt} {f:Addr} {fd:FuncData} {N ps:List Str} {k:Nat} {t:TS3} (F:Fun K x qual st f fd) (S:FnScope N ps (defScope st))
  (hbody:∀ (cdv:Value) (A:Around) (outer:List Env) (s:Shared) (H:Hp) (E:XK),Room k (A.deeper (PyProof.Rows.envOfC qual (defScope st) s.heap.objs.size f cdv))→PSs3 (cx3X P w K mg base N qual st f cdv A outer s H E) (defBody st) t) :
  Fn3X P w K mg base (k + 1) f fd ps (fnX3 N.length t):=by
 obtain ⟨oc,od,kV,doc,pm,an,cdv,ct,osl,rfl,lk,hcd⟩:=F.ex
 refine ⟨fn_of lk hcd S (fun vs H Q E h=>h.1) fun A outer s H vs Q E hr ⟨hl,ps',S',Q3,E3,rv,rS,q,kk,kx⟩=>⟨_,(hbody cdv A outer s H E hr).ok,start3 N.length ps',S',_,start_rep rv,rS,q,?_,fun σ3 S2 σ2 H2 h2 _ rS2 g2=>kk _ S2 _ H2 h2 .non rS2 g2,kk,fun _ _ _ _ h2=>h2.elim,fun _ _ _ _ h2=>h2.elim⟩⟩
 exact fun c ks ps2 σ3 S2 H2 pins σ s' a C dx od vs2 h1 h2 h3 h4 h5 h6 h7 h8 I xa=>leave_def I xa (kx c ks ps2 S2 H2 C dx od vs2 h1 h2 h3 h4 h5 h6 h8)
end
structure XCls (K:PySem.W.Frag) (mg:Str→Option Value) (x qual:Str) (st:Stmt) (ps ks:List Str) (C f:Addr) (fd:FuncData):Prop where
 F:Fun K "__init__" qual st f fd
 b:Binds K fd ps []
 cn:ClsN K x C
 m:mg x = some (.ref C)
 ek:ExcK K C
 en:∀ k ∈ ks,NoAttr K C k
 hi:PySem.W.findIn K (.ref C) "__init__" = some (some (.ref f))
 hf:PySem.W.isFn K (.ref f) = true
 kp:PySem.W.keepIn K (.ref C) = true
noncomputable def raise3 (c:Str) (ks:List Str) (ts:List TE3):TS3:=fun D σ S=>args3 ts σ S (fun ps S1=>D.ex (.exc c ks ps) σ S1) D.ex
section
variable {X:Cx} {e:Expr} {es:List Expr} {ts:List TE3} {x qual:Str} {st:Stmt} {p pos cpos:Pos} {f C:Addr} {fd:FuncData} {ps ks:List Str}
theorem s3raise (T:XCls X.K X.mg x qual st ps ks C f fd) (F:FnOk X.prog X.w X.K X.mg X.base CX0 1 f fd ps (spInit X.K C ks)) (hps:ps.length = ks.length + 1) (hr:Room 2 X.A) (hcalm:X.calm = true) (hg:Gl X x) (he:starEach (e :: es) X.env = (false,eval e X.env) :: starEach es X.env) (ha:PL3 X (e :: es) ts)
  (hl:ts.length = ks.length:=by rfl) (hks:ks.length ≤ 1000:=by exact Nat.le_of_ble_eq_true rfl) (hdb:(x == ("__debug__":Str)) = false:=by decide) (hpl:(backTo cpos (starEach es X.env)).any (·.1) = false:=by rfl) :
  PS3 X (.Raise (some (.Call (.Name x p) (e :: es) [] cpos)) none pos) (raise3 x ks ts):=
 ⟨PS_imp (ps_raise F hps hks T.ek T.en T.hi T.hf T.kp hr hcalm hg T.m T.b ha.ok hdb he hpl) fun D σ H ⟨σ3,S,D3,rσ,rS,h,xo,n,r,bk,ct⟩=>lift_args rσ rS h xo fun ps' S' vs H' hl' q rv rS' g=>
  ⟨by rw [rv.length,hl',hl],fun pins dx od hdx s' a C' dx' e3 e4 I xa=>by
   cases e3; cases e4
   exact xo x ks ps' σ3 S' _ pins σ s' a C dx od vs q T.cn (by rw [rv.length,hl',hl]) upd_same (rv.mono (.new hdx)) (rS'.other hdx) (rσ.mono (g.trans (.new hdx))) (g.trans (.new hdx)) I xa⟩⟩
end
noncomputable abbrev gone3 (D:Ends3) (i:Nat):Ends3:={ nx:=fun σ S=>D.nx (σ.set i none) S,rt:=D.rt,ex:=noX,bk:=fun σ S=>D.bk (σ.set i none) S,ct:=fun σ S=>D.ct (σ.set i none) S }
noncomputable def try3 (cs:List Str) (i:Nat) (tb th:TS3):TS3:=fun D σ S=>tb { D with ex:=fun p σ' S'=>match p with | .exc c _ _=>cs.contains c = true∧th (gone3 D i) (σ'.set i (some p)) S' | _=>False } σ S
theorem RepSt.unset {K:PySem.W.Frag} {H:Hp} {σ:L2.St} {σ3:St3} (r:RepSt K H σ σ3) (i:Nat):RepSt K H (σ.set i none) (σ3.set i none):=by
 refine ⟨by rw [List.length_set,List.length_set,r.len],fun j x e=>?_⟩
 rw [List.getElem?_set] at e ⊢
 split at e
 ·split at e
  ·cases e
  ·cases e
 ·rename_i hij
  rw [if_neg hij]
  exact r.at' j x e
theorem Nxt.unset {K:PySem.W.Frag} {H:Hp} {N3:St3→Sto→Prop} {N:L2.St→Hp→Prop} (n:Nxt K H N3 N) (i:Nat):Nxt K H (fun σ S=>N3 (σ.set i none) S) (fun σ H=>N (σ.set i none) H):=fun σ3 S' σ H' h1 h2 h3 h4=>n _ S' _ H' h1 (h2.unset i) h3 h4
noncomputable def XMro (K:PySem.W.Frag) (Dc:Addr):List Str→Prop
 | []=>True
 | c :: r=>(∃ C,ClsN K c C∧PySem.W.mroIn K C (.ref Dc) = some true)∧XMro K Dc r
theorem ClsN.inj {K:PySem.W.Frag} {c:Str} {C D:Addr} (h1:ClsN K c C) (h2:ClsN K c D):C = D:=by
 have e:=(show PySem.W.nsIn K mainGlobals c = some (some (.ref C)) from h1).symm.trans h2
 injection e with e; injection e with e; injection e
theorem XMro.at_ {K:PySem.W.Frag} {Dc:Addr}:∀ {cs:List Str} {c:Str} {C:Addr},XMro K Dc cs→cs.contains c = true→ClsN K c C→PySem.W.mroIn K C (.ref Dc) = some true
 | [],_,_,_,h,_=>by simp at h
 | d :: r,c,C,⟨⟨D,h1,h2⟩,h3⟩,h,hc=>by
  rw [List.contains_cons,Bool.or_eq_true] at h
  rcases h with h | h
  ·cases beq_iff_eq.mp h; rw [hc.inj h1]; exact h2
  ·exact XMro.at_ h3 h hc
section
variable {X:Cx} {body suite:List Stmt} {b₀:Stmt} {n x:Str} {i:Nat} {np hpos pos:Pos} {tb th:TS3} {Dc:Addr} {cs:List Str}
theorem s3try (hst:X.stack = X.env :: X.outer) (hfrm:X.env.frame = some X.env.locals) (hN:X.N.Nodup) (hi:X.N[i]? = some n) (hk:X.env.scope.names.lookup n = some .local) (hg:Gl X x) (hm:X.mg x = some (.ref Dc)) (hD:ExcD X.K Dc) (hcs:XMro X.K Dc cs)
  (hb:∀ E pins,PassesOwn (model X.prog X.w) X.A X.env E→PSs3 (X.tr E pins) body tb) (hs:∀ a,PSs3 (X.inH a) (b₀ :: suite) th) (hdb:(x == ("__debug__":Str)) = false:=by decide) :
  PS3 X (.Try body [.ExceptHandler (some (.Name x np)) (some n) (b₀ :: suite) hpos] [] [] pos) (try3 cs i tb th):=
 ⟨PS_imp (ps_try (tb:=fun E pins=>LS (X.tr E pins) tb) fun E pins hp=>(hb E pins hp).ok) fun D σ H ⟨σ3,S,D3,rσ,rS,h,xo,nx,rt,bk,ct⟩ pins=>
  ⟨σ3,S,_,rσ,rS,h,fun c ks ps σ3' S' H' pins' σ' s' a C dx od vs h1 h2 h3 h4 h5 h6 h7 h8 I xa=>by
   have fa:H' a = none:=by obtain ⟨_,_,_,_,_,f,_⟩:=xa; exact f.1
   have nea:dx ≠ a:=ne_of_none h4 fa
   refine try_xe hst hfrm hN hi hk hg hm hD (fun a=>(hs a).ok) I xa (hcs.at_ h1.1 h2) (fun oe o1 o2 o3=>?_) hdb
   have gr:Grow X.K H' (upd H' a (.frz oe (.ext fun _=>True))):=.new fa
   exact ⟨σ3'.set i (some (.exc c ks ps)),S',gone3 D3 i,(h7.mono gr).set (.exc h2 ⟨oe,dx,od,upd_same,o1,o2,o3,by rw [upd_ne nea]; exact h4⟩ (h5.mono gr)) i,h6.other fa,h1.2,.no,
    (nx.mono (h8.trans gr)).unset i,rt.mono (h8.trans gr),(bk.mono (h8.trans gr)).unset i,(ct.mono (h8.trans gr)).unset i⟩,nx,rt,bk,ct⟩⟩
end
theorem look_rep {K:PySem.W.Frag} {H:Hp} {f:Str} {p:PV}:∀ {ks:List Str} {vs:List V} {ps:List PV},Reps K H vs ps→(ks.zip ps).lookup f = some p→∃ v,(ks.zip vs).lookup f = some v∧Rep K H v p
 | [],_,_,_,e=>by simp at e
 | _ :: _,_,_,.nil,e=>by simp at e
 | k :: ks,_,_,.cons a r,e=>by
  rw [List.zip_cons_cons,List.lookup_cons] at e ⊢
  split at e
  ·cases e; exact ⟨_,rfl,a⟩
  ·exact look_rep r e
noncomputable def XAttr (K:PySem.W.Frag):List (Str × Str)→Prop
 | []=>True
 | (c,f) :: r=>(∃ C,ClsN K c C∧ExcK K C∧NoAttr K C f)∧XAttr K r
theorem XAttr.at_ {K:PySem.W.Frag}:∀ {l:List (Str × Str)} {c f:Str} {C:Addr},XAttr K l→l.contains (c,f) = true→ClsN K c C→ExcK K C∧NoAttr K C f
 | [],_,_,_,_,h,_=>by simp at h
 | (d,g) :: r,c,f,C,⟨⟨D,h1,h2,h3⟩,h4⟩,h,hc=>by
  rw [List.contains_cons,Bool.or_eq_true] at h
  rcases h with h | h
  ·cases beq_iff_eq.mp h; rw [hc.inj h1]; exact ⟨h2,h3⟩
  ·exact XAttr.at_ h4 h hc
noncomputable def xfld3 (l:List (Str × Str)) (f:Str) (te:TE3):TE3:=fun σ S Q E=>te σ S (fun p S1=>match p with | .exc c ks ps=>l.contains (c,f) = true∧(match (ks.zip ps).lookup f with | some v=>Q v S1 | none=>False) | _=>False) E
theorem exc_inst {X:Cx} {pins:List (Addr × Obj)} {σ:L2.St} {H:Hp} {s:Shared} {a C:Addr} {ks:List Str} {vs:List V} (I:Inv X pins σ H s) (h:SqX H a C ks vs):∃ (oe od:Obj) (mA:Str→Option Value),PySem.W.InstAt s.heap a oe C (some od)∧(∀ name,PySem.W.lookIn name od = some (mA name))∧∀ f,RelO ((ks.zip vs).lookup f) (mA f):=by
 obtain ⟨oe,dx,od,h1,h2,h3,h4,h5⟩:=h
 have g1:=(show ObjOk X.prog X.w H s.heap a (.frz oe (.ext fun _=>True)) from I.hok a _ h1).1
 have g2:=(show ObjOk X.prog X.w H s.heap dx (.frz od (.ext (XD dx (ks.zip vs)))) from I.hok dx _ h5)
 obtain ⟨g3,⟨mA,m1,m2,m3⟩,_⟩:=g2
 obtain ⟨od',e1,hl⟩:=lookIn_ns m1
 rw [g3] at e1; cases e1
 exact ⟨oe,od,mA,⟨g1,h2,by obtain ⟨p1,p2,p3,p4⟩:=oe; cases p3 <;> first | rfl | exact absurd rfl (h4 _),by rw [h3]; exact g3⟩,hl,m2⟩
section
variable {X:Cx} {e:Expr} {te:TE3} {f:Str} {pos:Pos} {l:List (Str × Str)}
theorem e3xfld (hl:XAttr X.K l) (he:PE3 X e te) (hb:attributeBase e f X.env (eval e X.env) = eval e X.env):PE3 X (.Attribute e f pos) (xfld3 l f te):=
 ⟨fun pins s σ H Q I ⟨σ3,S,Q3,E3,rσ,rS,h,xo,k⟩=>by
  refine attr_of hb (thn (he.ok pins s σ H (fun v H1=>∃ p S1,Rep X.K H1 v p∧RepS X.K H1 S1∧Grow X.K H H1∧(match p with | .exc c ks ps=>l.contains (c,f) = true∧(match (ks.zip ps).lookup f with | some v=>Q3 v S1 | none=>False) | _=>False)) I ⟨σ3,S,_,E3,rσ,rS,h,xo,fun p S1 v H1 h1 rv rS1 g1=>⟨p,S1,rv,rS1,g1,h1⟩⟩) fun u s1 ⟨v,H1,I1,rv,p,S1,rp,rS1,g1,q⟩=>?_)
  split at q
  ·rename_i c ks ps
   obtain ⟨q1,q2⟩:=q
   split at q2
   ·rename_i p' hp'
    cases rp with
    | exc hn hx rs=>
     cases rv
     obtain ⟨ek,na⟩:=hl.at_ q1 hn
     obtain ⟨oe,od,mA,J,hlk,rel⟩:=exc_inst I1 hx
     obtain ⟨v',hv',rv'⟩:=look_rep rs hp'
     obtain ⟨u,hu,ru⟩:=RelO.some_of (v:=v') (o:=mA f) (by rw [← hv']; exact rel f)
     exact exc_get I1.kIn J ek (PySem.W.findObj_own ek.dict na rfl (by rw [hlk,hu])) (handed_of ru) ⟨v',H1,I1.tok _,ru,k _ S1 _ H1 q2 rv' rS1 g1⟩
   ·exact q2.elim
  ·exact q.elim⟩
theorem e3cls {x:Str} {C:Addr} (hg:Gl X x) (hm:X.mg x = some (.ref C)) (hc:ClsN X.K x C) (hd:(x == ("__debug__":Str)) = false:=by decide):PE3 X (.Name x pos) (c3 (.cls x)):=
 ⟨PE_imp (pe_glob (v:=.ref C) hg hm rfl hd) fun σ H Q ⟨σ3,S,Q3,E3,rσ,rS,h,xo,k⟩=>k _ S _ H h (.cls hc) rS .refl⟩
end
noncomputable def XTab (K:PySem.W.Frag):List (Str × Str × Bool)→Prop
 | []=>True
 | (c,d,b) :: r=>(∃ C D,ClsN K c C∧ClsN K d D∧ExcK K C∧PySem.W.kitOne K (.ref C) (.ref D) = some b∧PySem.W.kitOne K (.ref C) (.type "ValueError") = some true)∧XTab K r
noncomputable def xfind (c d:Str):List (Str × Str × Bool)→Option Bool
 | []=>none
 | (c',d',b) :: r=>if c = c'∧d = d' then some b else xfind c d r
theorem XTab.at_ {K:PySem.W.Frag}:∀ {l:List (Str × Str × Bool)} {c d:Str} {b:Bool} {C D:Addr},XTab K l→xfind c d l = some b→ClsN K c C→ClsN K d D→ExcK K C∧PySem.W.kitOne K (.ref C) (.ref D) = some b
 | [],_,_,_,_,_,_,h,_,_=>by cases h
 | (c',d',b') :: r,c,d,b,C,D,⟨⟨C',D',h1,h2,h3,h4,h5⟩,h6⟩,h,hc,hd=>by
  unfold xfind at h
  split at h
  ·rename_i e
   obtain ⟨rfl,rfl⟩:=e
   cases h
   rw [hc.inj h1,hd.inj h2]
   exact ⟨h3,h4⟩
  ·exact XTab.at_ h6 h hc hd
theorem XTab.ve {K:PySem.W.Frag}:∀ {l:List (Str × Str × Bool)} {c:Str} {C:Addr},XTab K l→l.any (fun t=>t.1 == c) = true→ClsN K c C→ExcK K C∧PySem.W.kitOne K (.ref C) (.type "ValueError") = some true
 | [],_,_,_,h,_=>by simp at h
 | (c',d',b') :: r,c,C,⟨⟨C',D',h1,h2,h3,h4,h5⟩,h6⟩,h,hc=>by
  rw [List.any_cons,Bool.or_eq_true] at h
  rcases h with h | h
  ·have e:c' = c:=beq_iff_eq.mp h
   subst e
   rw [hc.inj h1]
   exact ⟨h3,h5⟩
  ·exact XTab.ve h6 h hc
noncomputable def xany (l:List (Str × Str × Bool)) (c:Str):List PV→Option Bool
 | []=>some false
 | .cls d :: r=>(match xfind c d l with | some true=>some true | some false=>xany l c r | none=>none)
 | _ :: _=>none
noncomputable def isiX3 (l:List (Str × Str × Bool)):RC3:=fun ps S Q=>match ps with
 | [.exc c _ _,.cls d]=>(match xfind c d l with | some b=>Q (.bl b) S | none=>False)
 | [.exc c _ _,.ty n]=>n = "ValueError"∧l.any (fun t=>t.1 == c) = true∧Q (.bl true) S
 | [.exc c _ _,.tup ds]=>l.any (fun t=>t.1 == c) = true∧(match xany l c ds with | some b=>Q (.bl b) S | none=>False)
 | _=>False
theorem xany_kit {K:PySem.W.Frag} {H:Hp} {l:List (Str × Str × Bool)} {c:Str} {C:Addr} (T:XTab K l) (hc:ClsN K c C):∀ {ds:List PV} {b:Bool} {vs:List V} {its:List Value},xany l c ds = some b→Reps K H vs ds→Vals vs its→PySem.W.kitAny K (.ref C) its = some b
 | [],b,_,_,h,.nil,.nil=>h
 | p :: ds,b,_,_,h,.cons a rs,r=>by
  cases p with
  | cls d=>
   cases a with
   | @cls D _ hd=>
    cases r with
    | @cons _ u _ us r1 r2=>
     cases (show u = Value.ref D from r1)
     show (match PySem.W.kitOne K (.ref C) (.ref D) with | some true=>some true | some false=>PySem.W.kitAny K (.ref C) us | none=>none) = _
     unfold xany at h
     split at h
     ·rename_i e; rw [(T.at_ e hc hd).2]; exact h
     ·rename_i e; rw [(T.at_ e hc hd).2]; exact xany_kit T hc h rs r2
     ·cases h
  | _=>cases h
theorem b3isiX {X:Cx} {l:List (Str × Str × Bool)} (T:XTab X.K l):Call3 X (.builtin "isinstance") (isiX3 l):=⟨fun pins s σ H xs us Q I r ⟨ps,S,Q3,rp,rS,q,k⟩=>by
 unfold isiX3 at q
 split at q
 ·rename_i c ks as d
  split at q
  ·rename_i b hb
   cases rp with
   | cons a rr=>
    cases rr with
    | cons b' r3=>
     cases r3
     cases r with
     | cons r1 r2=>
      cases r2 with
      | cons r4 r5=>
       cases r5
       cases a with
       | exc hn hx rs=>
        cases b' with
        | cls hd=>
         cases r1; cases r4
         obtain ⟨ek,e⟩:=T.at_ hb hn hd
         obtain ⟨oe,od,mA,J,_,_⟩:=exc_inst I hx
         exact PySem.W.kia_one (kitx_exc ek) I.kIn J e (fun z=>nomatch z) fun tk=>⟨.bl _,H,I.tok _,rfl,k _ S _ H q (.bl _) rS .refl⟩
  ·exact q.elim
 ·rename_i c ks as n
  obtain ⟨rfl,q1,q2⟩:=q
  cases rp with
  | cons a rr=>
   cases rr with
   | cons b' r3=>
    cases r3
    cases r with
    | cons r1 r2=>
     cases r2 with
     | cons r4 r5=>
      cases r5
      cases a with
      | exc hn hx rs=>
       cases b'
       cases r1; cases r4
       obtain ⟨ek,e⟩:=T.ve q1 hn
       obtain ⟨oe,od,mA,J,_,_⟩:=exc_inst I hx
       exact PySem.W.kia_one (kitx_exc ek) I.kIn J e (fun z=>nomatch z) fun tk=>⟨.bl _,H,I.tok _,rfl,k _ S _ H q2 (.bl _) rS .refl⟩
 ·rename_i c ks as ds
  obtain ⟨q1,q⟩:=q
  split at q
  ·rename_i b hb
   cases rp with
   | cons a rr=>
    cases rr with
    | cons b' r3=>
     cases r3
     cases r with
     | cons r1 r2=>
      cases r2 with
      | cons r4 r5=>
       cases r5
       cases a with
       | exc hn hx rs=>
        cases b' with
        | tup h1 rs2=>
         cases r1; cases r4
         obtain ⟨ek,_⟩:=T.ve q1 hn
         obtain ⟨oe,od,mA,J,_,_⟩:=exc_inst I hx
         obtain ⟨its,rv,⟨⟨oc,odd,oda,osl⟩,ho,hc,n,hd⟩,_⟩:=I.tuple h1
         simp only at hc hd
         subst hc hd
         exact PySem.W.kia_tup (kitx_exc ek) I.kIn J ho (xany_kit T hn hb rs2 rv) (fun z=>nomatch z) fun tk=>⟨.bl _,H,I.tok _,rfl,k _ S _ H q (.bl _) rS .refl⟩
  ·exact q.elim
 ·exact q.elim⟩
noncomputable def clsBody (s:Stmt):List Stmt:=match s with
 | .ClassDef _ _ _ body _ _ _ _ _ _ _=>body
 | _=>[]
section
variable {P:Program} {w:World} {K:PySem.W.Frag} {mg:Str→Option Value} {base:Heap} {N:List Str} {qual:Str} {st:Stmt} {f:Addr} {cdv:Value} {A:Around} {outer:List Env} {s:Shared} {H:Hp} {E:XK}
theorem plX:PassesOwn (model (cx3X P w K mg base N qual st f cdv A outer s H E).prog (cx3X P w K mg base N qual st f cdv A outer s H E).w) (cx3X P w K mg base N qual st f cdv A outer s H E).A (cx3X P w K mg base N qual st f cdv A outer s H E).env (cx3X P w K mg base N qual st f cdv A outer s H E).xe:=PassesOwn.leaving
end
end L3
namespace L3
open PySem L2
end L3
namespace CX
open PySem L2 L3
noncomputable abbrev xat:List (Str × Str):=[("NoHouse","word"),("NoHouse","name")]
noncomputable abbrev xtab:List (Str × Str × Bool):=[("NoHouse","DueError",true),("NoHouse","BadText",false),("NoHouse","Stuck",false),("NoHouse","TooLong",false),("NoHouse","NoStory",false),("NoHouse","TooMany",false),("NoHouse","NoRow",false)]
noncomputable def b__law_due (x__law_body_due:Sp3):TS3:=(cons3 (asg3 (v3 0) (.tp (.cons (.n 2) (.cons (.n 3) .nil))))
  (cons3 (set3 5 (comp3 (rng1 (callB3 len3 [(v3 2)])) (.n 0) (tst (op3 (in3 false) (op3 idx3 (v3 1) (v3 0)) (slice3 (v3 1) on3 (os3 (v3 0))))) (op3 idx3 (v3 1) (v3 0)) 1 [2]))
  (cons3 (if3 (tst (op3 gt3 (callB3 len3 [(v3 5)]) (c3 (.int 0)))) (ret3 (tup3 [(c3 (.str "twice")),(op3 idx3 (v3 5) (c3 (.int 0)))])) nil3)
  (cons3 (set3 6 (comp3 (iter3 (v3 3)) (.tp (.cons (.n 0) (.cons (.n 1) .nil))) yes3 (v3 0) 2 []))
  (cons3 (for3 (rng1 (callB3 len3 [(v3 3)])) (.n 4) (cons3 (if3 (tst (op3 (in3 false) (op3 idx3 (v3 6) (v3 4)) (slice3 (v3 6) on3 (os3 (v3 4))))) (ret3 (tup3 [(c3 (.str "twice")),(op3 idx3 (v3 6) (v3 4))])) nil3)
  (cons3 (set3 7 (call3 x__law_body_due [(op3 idx3 (op3 idx3 (v3 3) (v3 4)) (c3 (.int 1))),(v3 2),(v3 1)]))
  (if3 (tst (op3 (is3 true) (v3 7) (c3 .non))) (ret3 (v3 7)) nil3))))
  (ret3 (c3 .non)))))))
end CX
namespace L2
open PySem PySem.Spec PyProof.Rows Xc
section
variable {X:Cx} {k:Nat} {f C:Addr} {fd:FuncData} {ps:List Str} {sp:Sp} {m:Str} {pos apos:Pos} {e o:Expr} {es:List Expr} {ta:TE} {t:TA}
noncomputable def tMethX (X:Cx) (C:Addr) (m:Str) (sp:Sp) (ta:TE) (t:TA):TE:=fun σ H Q=>ta σ H fun x H1=>∃ a dx fs,x = .ref a∧H1 a = some (.ins C dx fs)∧fs.lookup m = none∧
 t σ H1 fun vs H2=>∃ E,sp (x :: vs) H2 Q E∧∀ pins c d H',E c d H'→EX X pins σ c d H'
theorem pe_methX {pl:Sem Bool} (he:PE X o ta) (c:Cls X.K C) (hm:Meth X.K C m f) (F:FnOk X.prog X.w X.K X.mg X.base (CX1 X.prog X.w) k f fd ps sp) (hr:Room k X.A) (hb:Binds X.K fd ps []) (ha:PA X (e :: es) t)
  (hst:starEach (e :: es) X.env = (false,eval e X.env) :: starEach es X.env) (hpl:(backTo pos (starEach es X.env)).any (·.1) = false)
  (ht:eval (.Call (.Attribute o m apos) (e :: es) [] pos) X.env = (do
   let ov ← eval o X.env
   standAt apos.atName
   let (f,first) ← holding [ov] (getMethod ov m pl)
   callWith pos f first (backTo pos (starEach (e :: es) X.env)) (backToKw pos (keywordEach [] X.env)))) :
  PE X (.Call (.Attribute o m apos) (e :: es) [] pos) (tMethX X C m sp ta t):=by
 intro pins s σ H Q I h
 refine PySem.W.methodCall_KW (pl:=pl) (thn (he pins s σ H _ I h) fun u s1 ⟨x,H1,I1,rx,a,dx,fs,ex,ea,l,q⟩=>?_) ht
 subst ex
 obtain rfl:u = Value.ref a:=rx
 refine getmeth_ok I1 ea c hm l ?_
 refine PySem.W.callWith_K (first:=[.ref a]) (h₀:=X.base) I.ok.mod.kin hm.kp (thn (ha pos pins s1 σ H1 _ I1 q) fun us s2 ⟨vs,H2,I2,r,E,q2,hE⟩=>⟨I2.kIn,?_⟩) hst hpl
 exact run_fnX (us:=.ref a :: us) (vs:=.ref a :: vs) F hr hb (hE pins) I2 (.cons rfl r) q2
end
end L2
namespace L3
open PySem L2 Xc
section
variable {P:Program} {w:World} {K:PySem.W.Frag} {mg:Str→Option Value} {base:Heap}
structure Own4 (K:PySem.W.Frag) (mg:Str→Option Value) (x:Str) (st:Stmt) (ps:List Str):Prop where
 ex:∃ f fd,Own K mg x st ps f fd
structure OwnM (K:PySem.W.Frag) (c m q:Str) (st:Stmt) (ps:List Str):Prop where
 ex:∃ C f fd,ClsN K c C∧Cls K C∧Meth K C m f∧Fun K m q st f fd∧Binds K fd ps []
structure Cl4 (K:PySem.W.Frag) (mg:Str→Option Value) (c:Str) (fl:List Str):Prop where
 ex:∃ C,ClsN K c C∧mg c = some (.ref C)∧Cls K C∧PySem.W.makesIn K C = true∧PySem.W.keepIn K (.ref C) = true∧∀ f ∈ fl,NoAttr K C f
structure Ok4 (P:Program) (w:World) (K:PySem.W.Frag) (mg:Str→Option Value) (base:Heap) (k:Nat) (x:Str) (n:Nat) (sp:Sp3):Prop where
 ex:∃ f fd ps,ps.length = n∧Fn3 P w K mg base k f fd ps sp∧mg x = some (.ref f)∧PySem.W.keepIn K (.ref f) = true∧Binds K fd ps []
structure OkX (P:Program) (w:World) (K:PySem.W.Frag) (mg:Str→Option Value) (base:Heap) (k:Nat) (x:Str) (n:Nat) (sp:Sp3):Prop where
 ex:∃ f fd ps,ps.length = n∧Fn3X P w K mg base k f fd ps sp∧mg x = some (.ref f)∧PySem.W.keepIn K (.ref f) = true∧Binds K fd ps []
structure OkM (P:Program) (w:World) (K:PySem.W.Frag) (mg:Str→Option Value) (base:Heap) (k:Nat) (c m:Str) (n:Nat) (sp:Sp3):Prop where
 ex:∃ C f fd ps,ps.length = n∧Fn3 P w K mg base k f fd ps sp∧ClsN K c C∧Cls K C∧Meth K C m f∧Binds K fd ps []
structure OkMX (P:Program) (w:World) (K:PySem.W.Frag) (mg:Str→Option Value) (base:Heap) (k:Nat) (c m:Str) (n:Nat) (sp:Sp3):Prop where
 ex:∃ C f fd ps,ps.length = n∧Fn3X P w K mg base k f fd ps sp∧ClsN K c C∧Cls K C∧Meth K C m f∧Binds K fd ps []
theorem mk4 {x:Str} {st:Stmt} {ps:List Str} {k n:Nat} {t:TS3} {sp:Sp3} (N:List Str) (O:Own4 K mg x st ps)
  (hbody:∀ (f:Addr) (cdv:Value) (A:Around) (outer:List Env) (s:Shared) (H:Hp) (E:XK),Room k (A.deeper (PyProof.Rows.envOfC x (defScope st) s.heap.objs.size f cdv))→N.Nodup→PSs3 (cx3 P w K mg base N x st f cdv A outer s H E) (defBody st) t) (e:sp = fn3 N.length t)
  (hn:ps.length = n:=by rfl) (S:FnScope N ps (defScope st):=by exact ⟨rfl,rfl,rfl,by decide +kernel,rfl,by decide +kernel,by decide +kernel⟩):Ok4 P w K mg base (k + 1) x n sp:=by
 subst e
 obtain ⟨f,fd,o⟩:=O.ex
 exact ⟨f,fd,ps,hn,mk3 o.F S fun cdv A outer s H E hr=>hbody f cdv A outer s H E hr S.nd,o.m,o.k,o.b⟩
theorem mkX {x:Str} {st:Stmt} {ps:List Str} {k n:Nat} {t:TS3} {sp:Sp3} (N:List Str) (O:Own4 K mg x st ps)
  (hbody:∀ (f:Addr) (cdv:Value) (A:Around) (outer:List Env) (s:Shared) (H:Hp) (E:XK),Room k (A.deeper (PyProof.Rows.envOfC x (defScope st) s.heap.objs.size f cdv))→N.Nodup→PSs3 (cx3X P w K mg base N x st f cdv A outer s H E) (defBody st) t) (e:sp = fnX3 N.length t)
  (hn:ps.length = n:=by rfl) (S:FnScope N ps (defScope st):=by exact ⟨rfl,rfl,rfl,by decide +kernel,rfl,by decide +kernel,by decide +kernel⟩):OkX P w K mg base (k + 1) x n sp:=by
 subst e
 obtain ⟨f,fd,o⟩:=O.ex
 exact ⟨f,fd,ps,hn,mk3X o.F S fun cdv A outer s H E hr=>hbody f cdv A outer s H E hr S.nd,o.m,o.k,o.b⟩
theorem mkM {c m q:Str} {st:Stmt} {ps:List Str} {k n:Nat} {t:TS3} {sp:Sp3} (N:List Str) (O:OwnM K c m q st ps)
  (hbody:∀ (f:Addr) (cdv:Value) (A:Around) (outer:List Env) (s:Shared) (H:Hp) (E:XK),Room k (A.deeper (PyProof.Rows.envOfC q (defScope st) s.heap.objs.size f cdv))→N.Nodup→PSs3 (cx3 P w K mg base N q st f cdv A outer s H E) (defBody st) t) (e:sp = fn3 N.length t)
  (hn:ps.length = n:=by rfl) (S:FnScope N ps (defScope st):=by exact ⟨rfl,rfl,rfl,by decide +kernel,rfl,by decide +kernel,by decide +kernel⟩):OkM P w K mg base (k + 1) c m n sp:=by
 subst e
 obtain ⟨C,f,fd,o1,o2,o3,o4,o5⟩:=O.ex
 exact ⟨C,f,fd,ps,hn,mk3 o4 S fun cdv A outer s H E hr=>hbody f cdv A outer s H E hr S.nd,o1,o2,o3,o5⟩
theorem mkMX {c m q:Str} {st:Stmt} {ps:List Str} {k n:Nat} {t:TS3} {sp:Sp3} (N:List Str) (O:OwnM K c m q st ps)
  (hbody:∀ (f:Addr) (cdv:Value) (A:Around) (outer:List Env) (s:Shared) (H:Hp) (E:XK),Room k (A.deeper (PyProof.Rows.envOfC q (defScope st) s.heap.objs.size f cdv))→N.Nodup→PSs3 (cx3X P w K mg base N q st f cdv A outer s H E) (defBody st) t) (e:sp = fnX3 N.length t)
  (hn:ps.length = n:=by rfl) (S:FnScope N ps (defScope st):=by exact ⟨rfl,rfl,rfl,by decide +kernel,rfl,by decide +kernel,by decide +kernel⟩):OkMX P w K mg base (k + 1) c m n sp:=by
 subst e
 obtain ⟨C,f,fd,o1,o2,o3,o4,o5⟩:=O.ex
 exact ⟨C,f,fd,ps,hn,mk3X o4 S fun cdv A outer s H E hr=>hbody f cdv A outer s H E hr S.nd,o1,o2,o3,o5⟩
theorem mkL {x:Str} {st:Stmt} {ps:List Str} {k:Nat} {t:TS3} {sp:Sp3} {f:Addr} {fd:FuncData} (N:List Str) (o:Own K mg x st ps f fd)
  (hbody:∀ (f:Addr) (cdv:Value) (A:Around) (outer:List Env) (s:Shared) (H:Hp) (E:XK),Room k (A.deeper (PyProof.Rows.envOfC x (defScope st) s.heap.objs.size f cdv))→N.Nodup→PSs3 (cx3 P w K mg base N x st f cdv A outer s H E) (defBody st) t) (e:sp = fn3 N.length t)
  (S:FnScope N ps (defScope st):=by exact ⟨rfl,rfl,rfl,by decide +kernel,rfl,by decide +kernel,by decide +kernel⟩):Fn3 P w K mg base (k + 1) f fd ps sp:=by
 subst e
 exact mk3 o.F S fun cdv A outer s H E hr=>hbody f cdv A outer s H E hr S.nd
noncomputable def no3:Sp3:=fun _ _ _ _=>False
theorem Ok4.zero {x:Str} {st:Stmt} {ps:List Str} {k n:Nat} (O:Own4 K mg x st ps) (hn:ps.length = n:=by rfl):Ok4 P w K mg base k x n no3:=by
 obtain ⟨f,fd,o⟩:=O.ex
 exact ⟨f,fd,ps,hn,.zero rfl,o.m,o.k,o.b⟩
theorem OkX.zero {x:Str} {st:Stmt} {ps:List Str} {k n:Nat} (O:Own4 K mg x st ps) (hn:ps.length = n:=by rfl):OkX P w K mg base k x n no3:=by
 obtain ⟨f,fd,o⟩:=O.ex
 exact ⟨f,fd,ps,hn,.zero rfl,o.m,o.k,o.b⟩
theorem all4 {b n:Nat} {x:Str} {st:Stmt} {ps:List Str} {r:Nat→Sp3} (O:Own4 K mg x st ps) (h:∀ j,Ok4 P w K mg base (b + j) x n (r j)→Ok4 P w K mg base (b + j + 1) x n (r (j + 1))) (h0:r 0 = no3) (hn:ps.length = n:=by rfl):∀ j,Ok4 P w K mg base (b + j) x n (r j)
 | 0=>by rw [h0]; exact .zero O hn
 | j + 1=>h j (all4 O h h0 hn j)
end
section
variable {X:Cx} {a b e o:Expr} {es:List Expr} {ta tb te to:TE3} {ts:List TE3} {x c m f:Str} {p pos apos cpos:Pos} {j k n:Nat} {sp:Sp3}
theorem c4 (O:Ok4 X.prog X.w X.K X.mg X.base k x n sp) (hr:Room j X.A) (ha:PL3 X (e :: es) ts) (hj:k ≤ j:=by omega) (hl:ts.length = n:=by rfl) (hg:Gl X x:=by rfl) (he:starEach (e :: es) X.env = (false,eval e X.env) :: starEach es X.env:=by rfl) (hdb:(x == ("__debug__":Str)) = false:=by decide) (hpl:(backTo pos (starEach es X.env)).any (·.1) = false:=by rfl) :
  PE3 X (.Call (.Name x p) (e :: es) [] pos) (call3 sp ts):=by
 obtain ⟨f,fd,ps,hn,F,h1,h2,h3⟩:=O.ex
 exact e3call F (hr.mono hj) hg h1 h2 h3 he ha (hl.trans hn.symm) hdb hpl
theorem cX (O:OkX X.prog X.w X.K X.mg X.base k x n sp) (hr:Room j X.A) (ha:PL3 X (e :: es) ts) (hj:k ≤ j:=by omega) (hl:ts.length = n:=by rfl) (hg:Gl X x:=by rfl) (he:starEach (e :: es) X.env = (false,eval e X.env) :: starEach es X.env:=by rfl) (hdb:(x == ("__debug__":Str)) = false:=by decide) (hpl:(backTo pos (starEach es X.env)).any (·.1) = false:=by rfl) :
  PE3 X (.Call (.Name x p) (e :: es) [] pos) (callX3 sp ts):=by
 obtain ⟨f,fd,ps,hn,F,h1,h2,h3⟩:=O.ex
 exact e3callX F (hr.mono hj) hg h1 h2 h3 he ha (hl.trans hn.symm) hdb hpl
theorem cB {id:String} {r:RC3} (hc:Call3 X (.builtin id) r) (hm:X.mg x = none) (ha:PL3 X (e :: es) ts) (hg:Gl X x:=by rfl) (hv:bootBuiltins x = some (.builtin id):=by decide +kernel) (he:starEach (e :: es) X.env = (false,eval e X.env) :: starEach es X.env:=by rfl)
  (hnn:x ≠ "__name__":=by decide) (hdb:(x == ("__debug__":Str)) = false:=by decide) (hpl:(backTo pos (starEach es X.env)).any (·.1) = false:=by rfl):PE3 X (.Call (.Name x p) (e :: es) [] pos) (callB3 r ts):=e3callB hc hg hm hv he ha hnn hdb hpl
theorem cT {id:String} {r:RC3} (hc:Call3 X (.type id) r) (hm:X.mg x = none) (ha:PL3 X (e :: es) ts) (hg:Gl X x:=by rfl) (hv:bootBuiltins x = some (.type id):=by decide +kernel) (he:starEach (e :: es) X.env = (false,eval e X.env) :: starEach es X.env:=by rfl)
  (hnn:x ≠ "__name__":=by decide) (hdb:(x == ("__debug__":Str)) = false:=by decide) (hpl:(backTo pos (starEach es X.env)).any (·.1) = false:=by rfl):PE3 X (.Call (.Name x p) (e :: es) [] pos) (callB3 r ts):=e3callT hc hg hm hv he ha hnn hdb hpl
theorem lc {r:List Expr} (ha:PE3 X a ta) (hr:PL3 X r ts) (hs:starEach (a :: r) X.env = (false,eval a X.env) :: starEach r X.env:=by rfl):PL3 X (a :: r) (ta :: ts):=l3cons hs ha hr
theorem l1 (ha:PE3 X a ta) (hs:starEach [a] X.env = (false,eval a X.env) :: starEach [] X.env:=by rfl):PL3 X [a] [ta]:=l3cons hs ha l3nil
theorem ixi {i:Int} {q:Nat} {p2:Pos} (hr:Room j X.A) (ha:PE3 X a ta) (hs:PlainIx (.Constant (.int i) q p2):=by exact fun _ _=>rfl):PE3 X (.Subscript a (.Constant (.int i) q p2) pos) (op3 idx3 ta (c3 (.int i))):=e3ix (ix3 (hu1 hr)) ha e3int hs
theorem ixx (hr:Room j X.A) (ha:PE3 X a ta) (hb:PE3 X b tb) (hs:PlainIx b:=by exact fun _ _=>rfl):PE3 X (.Subscript a b pos) (op3 idx3 ta tb):=e3ix (ix3 (hu1 hr)) ha hb hs
theorem teq (hr:Room j X.A) (ha:PE3 X a ta) (hb:PE3 X b tb):PT3 X (.Compare a [.Eq] [b] pos) (tst (op3 (eq3 false) ta tb)):=t3cmp (op3eq (hu150 hr)) ha hb (nomark _)
theorem tne (hr:Room j X.A) (ha:PE3 X a ta) (hb:PE3 X b tb):PT3 X (.Compare a [.NotEq] [b] pos) (tst (op3 (eq3 true) ta tb)):=t3cmp (op3ne (hu150 hr)) ha hb (nomark _)
theorem s4 (i:Nat) {pos':Pos} (nd:X.N.Nodup) (he:PE3 X e te) (hi:X.N[i]? = some x:=by rfl) (hx:Loc X.env.scope x:=by first | exact Or.inl rfl | exact Or.inr rfl) (hs:swapsWith e (some (.Name x pos')) pos.line X.env = pure false:=by rfl)
  (hf:X.fn x = true ∨ X.env.scope.names.lookup x = some .local:=by first | exact .inl rfl | exact .inr rfl | assumption):PS3 X (.Assign [.Name x pos'] e pos) (set3 i te):=s3set nd hi hx he hs hf
theorem gn (i:Nat) (nd:X.N.Nodup) (hi:X.N[i]? = some x:=by rfl) (hx:Loc X.env.scope x:=by first | exact Or.inl rfl | exact Or.inr rfl) (hf:X.fn x = true ∨ X.env.scope.names.lookup x = some .local:=by first | exact .inl rfl | exact .inr rfl | assumption):PGt X (.Name x pos) (.n i):=g3n i nd hi hx hf
noncomputable def retN3:TS3:=fun D _ S=>D.rt .non S
theorem s3retN:PS3 X (.Return none pos) retN3:=⟨PS_imp ps_retN fun D σ H ⟨σ3,S,D3,rσ,rS,h,xo,n,r,bk,ct⟩=>r _ S _ H h .non rS .refl⟩
theorem kg4 {px:Pos} {kvs:List (Key × Int)} {g:Expr} {tg:TE3} (hr:Room j X.A) (hD:∃ a,X.mg x = some (.ref a)∧KD X.prog X.w X.K a (kvs.map fun kv=>(kv.1,V.int kv.2))) (he:PE3 X e te) (hf:PE3 X g tg) (hg:Gl X x:=by rfl) (m:M2 X (.Name x px) "get" apos e g cpos:=by exact ⟨rfl,rfl,rfl,rfl⟩)
  (hd:(x == ("__debug__":Str)) = false:=by decide):PE3 X (.Call (.Attribute (.Name x px) "get" apos) [e,g] [] cpos) (kget3 kvs te tg):=let ⟨_,h1,h2⟩:=hD; e3kget (hu1 hr) hg h1 h2 he hf m hd
end
structure BMd (T:String) (name:Str) (id:String):Prop where
 pa:PlainAttrs T
 slot:Slot T name id
 ty:typeOf (.builtin id) = pure (.type "method_descriptor")
section
variable {X:Cx} {e o:Expr} {es:List Expr} {to:TE3} {ts:List TE3} {name:Str} {T id:String} {p pos apos cpos:Pos} {r:RM3}
theorem kd_append:BMd "list" "append" "list.append":=⟨PySem.F.plainAttrs_list,PySem.F.slot_list_append,PySem.F.type_list_append⟩
theorem kd_extend:BMd "list" "extend" "list.extend":=⟨PySem.F.plainAttrs_list,PySem.F.slot_list_extend,PySem.F.type_list_extend⟩
theorem kd_pop:BMd "list" "pop" "list.pop":=⟨PySem.F.plainAttrs_list,PySem.F.slot_list_pop,PySem.F.type_list_pop⟩
theorem kd_join:BMd "str" "join" "str.join":=⟨PySem.F.plainAttrs_str,PySem.F.slot_str_join,PySem.F.type_str_join⟩
theorem kd_index:BMd "str" "index" "str.index":=⟨PySem.F.plainAttrs_str,PySem.F.slot_str_index,PySem.F.type_str_index⟩
theorem bm4 (k:BMd T name id) (hm:Mt3 X id r) (ho:PE3 X o to) (ha:PL3 X (e :: es) ts) (hs:starEach (e :: es) X.env = (false,eval e X.env) :: starEach es X.env:=by rfl)
  (hbase:attributeBase o name X.env (eval o X.env) = eval o X.env:=by rfl)
  (hfew:((backTo cpos (starEach (e :: es) X.env)).all (fun x=>!x.1) && (backToKw cpos (keywordEach [] X.env)).all (fun x=>x.1.isSome)
   && decide ((e :: es).length + ([]:List Keyword).length + (if ([]:List Keyword).isEmpty then 0 else 1) < 30)) = true:=by rfl)
  (hline:(apos.endLine == cpos.line) = true:=by rfl) (hplain:(backTo cpos (starEach es X.env)).any (·.1) = false:=by rfl):PE3 X (.Call (.Attribute o name apos) (e :: es) [] cpos) (bm3 T r to ts):=e3bm k.pa k.slot k.ty hm hs ho ha hbase hfew hline hplain
theorem bm40 (k:BMd T name id) (hm:Mt3 X id r) (ho:PE3 X o to)
  (hbase:attributeBase o name X.env (eval o X.env) = eval o X.env:=by rfl) (hline:(apos.endLine == cpos.line) = true:=by rfl):PE3 X (.Call (.Attribute o name apos) [] [] cpos) (bm3 T r to []):=e3bm0 k.pa k.slot k.ty hm ho hbase hline
end
section
variable {X:Cx} {tg iter elt:Expr} {ifs:List Expr} {scope:Scope} {pos:Pos} {ti:TI3} {g:Tg} {tc:TT3} {te:TE3}
theorem ec4 (fs:List Str) (own:Nat) (fr:List Nat) (N:List Str) (hi:PI3 X tg iter ti) (hg:∀ B,PGt (X.blk N scope fs B) tg g) (hf:∀ B,PF3 (X.blk N scope fs B) ifs tc) (he:∀ B,PE3 (X.blk N scope fs B) elt te)
  (hbl:g.under own = true:=by rfl) (hc:X.calm = true:=by rfl) (hclos:closureFor scope X.env = pure (clOf X.env fs):=by rfl) (hcell:∀ y ∈ scope.names,y.2 ≠ .cell:=by decide +kernel) (hkind:scope.kind = .function:=by rfl)
  (hnames:∀ x ∈ scope.names,x.2 = .local→scope.names.lookup x.1 = some .local:=by decide +kernel) (hcl:CellsOk X.env fs:=by repeat' first | exact trivial | exact ⟨_,rfl⟩ | constructor) (hhas:hasB (relabel scope X.env).names (clOf X.env fs) = true:=by rfl)
  (hlen:N.length = own + fr.length:=by rfl) (hN:(N.drop own).map some = fr.map (fun j=>X.N[j]?):=by rfl) (hF:FreeOk X.env scope (clOf X.env fs) (N.drop own):=by repeat' first | exact trivial | exact .inl rfl | exact .inr rfl | exact rfl | apply And.intro)
  (hs:∀ x,foldedSetIterable iter X.env x = pure x:=by intro _; rfl):PE3 X (.ListComp elt [⟨tg,iter,ifs,0⟩] scope pos) (comp3 ti g tc te own fr):=e3comp fs own fr N hbl hc hclos hcell hkind hnames hcl hhas hlen hN hF hi hg hf he hs
theorem sc4 (fs:List Str) (own:Nat) (fr:List Nat) (N:List Str) (i:Nat) {y:Str} {py spos:Pos} (hX:X.N.Nodup) (hi:PI3 X tg iter ti) (hg:∀ B,PGt (X.blk N scope fs B) tg g) (hf:∀ B,PF3 (X.blk N scope fs B) ifs tc) (he:∀ B,PE3 (X.blk N scope fs B) elt te)
  (hix:X.N[i]? = some y:=by rfl) (hy:X.env.scope.names.lookup y = some .local:=by rfl) (hsw:swapsWith (.ListComp elt [⟨tg,iter,ifs,0⟩] scope pos) (some (.Name y py)) spos.line X.env = pure true:=by rfl)
  (hbl:g.under own = true:=by rfl) (hc:X.calm = true:=by rfl) (hclos:closureFor scope X.env = pure (clOf X.env fs):=by rfl) (hcell:∀ y ∈ scope.names,y.2 ≠ .cell:=by decide +kernel) (hkind:scope.kind = .function:=by rfl)
  (hnames:∀ x ∈ scope.names,x.2 = .local→scope.names.lookup x.1 = some .local:=by decide +kernel) (hcl:CellsOk X.env fs:=by repeat' first | exact trivial | exact ⟨_,rfl⟩ | constructor) (hhas:hasB (relabel scope X.env).names (clOf X.env fs) = true:=by rfl)
  (hlen:N.length = own + fr.length:=by rfl) (hN:(N.drop own).map some = fr.map (fun j=>X.N[j]?):=by rfl) (hF:FreeOk X.env scope (clOf X.env fs) (N.drop own):=by repeat' first | exact trivial | exact .inl rfl | exact .inr rfl | exact rfl | apply And.intro)
  (hs:∀ x,foldedSetIterable iter X.env x = pure x:=by intro _; rfl):PS3 X (.Assign [.Name y py] (.ListComp elt [⟨tg,iter,ifs,0⟩] scope pos) spos) (set3 i (comp3 ti g tc te own fr)):=s3comp fs own fr N hX hix hy hsw hbl hc hclos hcell hkind hnames hcl hhas hlen hN hF hi hg hf he hs
end
noncomputable def putF3 (f:Str) (v:PV):List (Str × PV)→List (Str × PV)
 | []=>[(f,v)]
 | (g,x) :: r=>if g = f then (g,v) :: r else (g,x) :: putF3 f v r
theorem RepP.look {K:PySem.W.Frag} {H:Hp} {f:Str} {p:PV}:∀ {vs:List (Str × V)} {ps:List (Str × PV)},RepP K H vs ps→ps.lookup f = some p→∃ v,vs.lookup f = some v∧Rep K H v p
 | _,_,.nil,e=>by simp at e
 | _,_,.cons a r,e=>by
  rw [List.lookup_cons] at e ⊢
  split at e
  ·cases e; exact ⟨_,rfl,a⟩
  ·exact RepP.look r e
theorem RepP.lookN {K:PySem.W.Frag} {H:Hp} {f:Str}:∀ {vs:List (Str × V)} {ps:List (Str × PV)},RepP K H vs ps→ps.lookup f = none→vs.lookup f = none
 | _,_,.nil,_=>rfl
 | _,_,.cons a r,e=>by
  rw [List.lookup_cons] at e ⊢
  split at e
  ·cases e
  ·exact RepP.lookN r e
theorem RepP.putF {K:PySem.W.Frag} {H:Hp} {f:Str} {v:V} {p:PV} (q:Rep K H v p):∀ {vs:List (Str × V)} {ps:List (Str × PV)},RepP K H vs ps→RepP K H (L2.putF f v vs) (putF3 f p ps)
 | _,_,.nil=>.cons q .nil
 | _,_,.cons (k:=k) a r=>by
  unfold L2.putF putF3
  split
  ·exact .cons q r
  ·exact .cons a (RepP.putF q r)
noncomputable def ins3 (c:Str) (S:Sto) (x:PV) (k:Addr→List (Str × PV)→Prop):Prop:=match x with
 | .ref a=>(match S a with | some (.ins c' fs)=>c' = c∧k a fs | _=>False)
 | _=>False
theorem ins3_of {K:PySem.W.Frag} {H:Hp} {S:Sto} {c:Str} {C:Addr} {x:PV} {v:V} {k:Addr→List (Str × PV)→Prop} (hC:ClsN K c C) (rS:RepS K H S) (r:Rep K H v x) (h:ins3 c S x k):∃ a dx fs f',x = .ref a∧v = .ref a∧S a = some (.ins c fs)∧H a = some (.ins C dx f')∧RepP K H f' fs∧k a fs:=by
 unfold ins3 at h
 split at h
 ·rename_i a
  split at h
  ·rename_i c' fs e
   obtain ⟨rfl,h⟩:=h
   obtain ⟨C',dx,f',n,q,rf⟩:=(show RepO K H a (.ins c' fs) from rS a _ e)
   cases hC.inj n
   cases r
   exact ⟨a,dx,fs,f',rfl,rfl,e,q,rf,h⟩
  ·exact h.elim
 ·exact h.elim
noncomputable def fld3 (c f:Str) (te:TE3):TE3:=fun σ S Q E=>te σ S (fun x S1=>ins3 c S1 x fun _ fs=>match fs.lookup f with | some v=>Q v S1 | none=>False) E
noncomputable def sfld3 (c f:Str) (te to:TE3):TS3:=fun D σ S=>te σ S (fun v S1=>to σ S1 (fun x S2=>ins3 c S2 x fun a fs=>fs.length < 1000∧D.nx σ (upd3 S2 a (.ins c (putF3 f v fs)))) D.ex) D.ex
noncomputable def meth3 (c m:Str) (sp:Sp3) (to:TE3) (ts:List TE3):TE3:=fun σ S Q E=>to σ S (fun x S1=>ins3 c S1 x fun _ fs=>fs.lookup m = none∧args3 ts σ S1 (fun ps S2=>sp (x :: ps) S2 Q E) E) E
noncomputable def methX3 (c m:Str) (sp:Sp3) (to:TE3) (ts:List TE3):TE3:=fun σ S Q E=>to σ S (fun x S1=>ins3 c S1 x fun _ fs=>fs.lookup m = none∧args3 ts σ S1 (fun ps S2=>sp (x :: ps) S2 Q (fun p _ S'=>E p σ S')) E) E
noncomputable def make3 (c:Str) (sp:Sp3) (ts:List TE3):TE3:=fun σ S Q E=>args3 ts σ S (fun ps S1=>∀ x,S1 x = none→sp (.ref x :: ps) (upd3 S1 x (.ins c [])) (fun v S2=>v = .non∧Q (.ref x) S2) noX) E
section
variable {X:Cx} {e o value:Expr} {es:List Expr} {te to:TE3} {ts:List TE3} {x c m f:Str} {fl:List Str} {p pos pos' apos:Pos} {j k n:Nat} {sp:Sp3}
theorem ef4 (hC:Cl4 X.K X.mg c fl) (he:PE3 X e te) (hf:f ∈ fl:=by decide) (hb:attributeBase e f X.env (eval e X.env) = eval e X.env:=by rfl):PE3 X (.Attribute e f pos) (fld3 c f te):=by
 obtain ⟨C,hn,hm,hc,hmk,hkp,na⟩:=hC.ex
 refine ⟨PE_imp (pe_fld he.ok hb) fun σ H Q ⟨σ3,S,Q3,E3,rσ,rS,h,xo,k⟩=>⟨σ3,S,_,E3,rσ,rS,h,xo,fun p S1 v H1 h1 rv rS1 g1=>?_⟩⟩
 obtain ⟨a,dx,fs,f',rfl,rfl,e1,e2,rf,h2⟩:=ins3_of hn rS1 rv h1
 split at h2
 ·rename_i p' hp'
  obtain ⟨v',hv',rv'⟩:=rf.look hp'
  exact ⟨a,C,dx,f',v',rfl,e2,hc,na _ hf,hv',k _ S1 _ H1 h2 rv' rS1 g1⟩
 ·exact h2.elim
theorem sf4 (hC:Cl4 X.K X.mg c fl) (he:PE3 X value te) (ho:PE3 X o to) (hf:f ∈ fl:=by decide) (hs:swapsWith value (some (.Attribute o f pos')) pos.line X.env = pure false:=by rfl):PS3 X (.Assign [.Attribute o f pos'] value pos) (sfld3 c f te to):=by
 obtain ⟨C,hn,hm,hc,hmk,hkp,na⟩:=hC.ex
 refine ⟨PS_imp (ps_fld ho.ok he.ok hs) fun D σ H ⟨σ3,S,D3,rσ,rS,h,xo,nx,r,bk,ct⟩=>⟨σ3,S,_,D3.ex,rσ,rS,h,xo,fun v S1 v' H1 h1 rv rS1 g1=>⟨σ3,S1,_,D3.ex,rσ.mono g1,rS1,h1,xo.mono g1,fun x S2 x' H2 h2 rx rS2 g2=>?_⟩⟩⟩
 obtain ⟨a,dx,fs,f',rfl,rfl,e1,e2,rf,h3,h4⟩:=ins3_of hn rS2 rx h2
 have gm:Grow X.K H2 (upd H2 a (.ins C dx (putF f v' f'))):=.mut e2 trivial
 refine ⟨a,C,dx,f',rfl,e2,hc,na _ hf,by rw [rf.length]; exact h3,nx _ _ _ _ h4 (rσ.mono (g1.trans (g2.trans gm))) (rS2.put e2 trivial ⟨C,dx,_,hn,upd_same,((rf.mono gm).putF ((rv.mono g2).mono gm))⟩) (g1.trans (g2.trans gm))⟩
theorem em4 {pl:Sem Bool} (O:OkM X.prog X.w X.K X.mg X.base k c m n sp) (hr:Room j X.A) (ho:PE3 X o to) (ha:PL3 X (e :: es) ts) (hj:k ≤ j:=by omega) (hl:ts.length + 1 = n:=by rfl)
  (hst:starEach (e :: es) X.env = (false,eval e X.env) :: starEach es X.env:=by rfl) (hpl:(backTo pos (starEach es X.env)).any (·.1) = false:=by rfl)
  (ht:eval (.Call (.Attribute o m apos) (e :: es) [] pos) X.env = (do
   let ov ← eval o X.env
   standAt apos.atName
   let (f,first) ← holding [ov] (getMethod ov m pl)
   callWith pos f first (backTo pos (starEach (e :: es) X.env)) (backToKw pos (keywordEach [] X.env))):=by rfl):PE3 X (.Call (.Attribute o m apos) (e :: es) [] pos) (meth3 c m sp to ts):=by
 obtain ⟨C,f,fd,ps,hn,F,h1,h2,h3,h4⟩:=O.ex
 refine ⟨PE_imp (pe_meth ho.ok h2 h3 F.ok (hr.mono hj) h4 .nil pass0 ha.ok hst hpl ht) fun σ H Q ⟨σ3,S,Q3,E3,rσ,rS,h,xo,k⟩=>⟨σ3,S,_,E3,rσ,rS,h,xo,fun p S1 v H1 q1 rv rS1 g1=>?_⟩⟩
 obtain ⟨a,dx,fs,f',rfl,rfl,e1,e2,rf,q2,q3⟩:=ins3_of h1 rS1 rv q1
 refine ⟨a,dx,f',rfl,e2,rf.lookN q2,lift_args (rσ.mono g1) rS1 q3 (xo.mono g1) fun ps' S' vs H' hl' q rv' rS' g=>?_⟩
 rw [List.append_nil]
 exact ⟨by rw [List.length_cons,rv'.length,hl',hl,hn],.ref a :: ps',S',Q3,E3,.cons (.ref a) rv',rS',q,k.mono (g1.trans g)⟩
theorem emX {pl:Sem Bool} (O:OkMX X.prog X.w X.K X.mg X.base k c m n sp) (hr:Room j X.A) (ho:PE3 X o to) (ha:PL3 X (e :: es) ts) (hj:k ≤ j:=by omega) (hl:ts.length + 1 = n:=by rfl)
    (hst:starEach (e :: es) X.env = (false,eval e X.env) :: starEach es X.env:=by rfl) (hpl:(backTo pos (starEach es X.env)).any (·.1) = false:=by rfl)
    (ht:eval (.Call (.Attribute o m apos) (e :: es) [] pos) X.env = (do
      let ov ← eval o X.env
      standAt apos.atName
      let (f,first) ← holding [ov] (getMethod ov m pl)
      callWith pos f first (backTo pos (starEach (e :: es) X.env)) (backToKw pos (keywordEach [] X.env))):=by rfl):PE3 X (.Call (.Attribute o m apos) (e :: es) [] pos) (methX3 c m sp to ts):=by
  obtain ⟨C,f,fd,ps,hn,F,h1,h2,h3,h4⟩:=O.ex
  refine ⟨PE_imp (pe_methX ho.ok h2 h3 F.ok (hr.mono hj) h4 ha.ok hst hpl ht) fun σ H Q ⟨σ3,S,Q3,E3,rσ,rS,h,xo,k⟩=>⟨σ3,S,_,E3,rσ,rS,h,xo,fun p S1 v H1 q1 rv rS1 g1=>?_⟩⟩
  obtain ⟨a,dx,fs,f',rfl,rfl,e1,e2,rf,q2,q3⟩:=ins3_of h1 rS1 rv q1
  refine ⟨a,dx,f',rfl,e2,rf.lookN q2,lift_args (rσ.mono g1) rS1 q3 (xo.mono g1) fun ps' S' vs H' hl' q rv' rS' g=>?_⟩
  refine ⟨fun c d H2=>∃ (cn:Str) (ks:List Str) (ps2:List PV) (S2:Sto) (C dx:Addr) (od:Obj) (vs2:List V),c = .ref C∧d = some dx∧E3 (.exc cn ks ps2) σ3 S2∧ClsN X.K cn C∧vs2.length = ks.length∧H2 dx = some (.frz od (.ext (XD dx (ks.zip vs2))))∧Reps X.K H2 vs2 ps2∧RepS X.K H2 S2∧Grow X.K H' H2,
     ⟨by rw [List.length_cons,rv'.length,hl',hl,hn],.ref a :: ps',S',Q3,_,.cons (.ref a) rv',rS',q,k.mono (g1.trans g),fun cn ks ps2 S2 H2 C dx od vs2 h1 h2 h3 h4 h5 h6 h7=>⟨cn,ks,ps2,S2,C,dx,od,vs2,rfl,rfl,h1,h2,h3,h4,h5,h6,h7⟩⟩,
     fun pins c d H2 ⟨cn,ks,ps2,S2,C,dx,od,vs2,e1,e2,h1,h2,h3,h4,h5,h6,h7⟩ s' a C' dx' e3 e4 I xa=>?_⟩
  subst e1 e2; cases e3; cases e4
  exact xo cn ks ps2 σ3 S2 H2 pins σ s' a _ _ od vs2 h1 h2 h3 h4 h5 h6 (rσ.mono ((g1.trans g).trans h7)) ((g1.trans g).trans h7) I xa
theorem mk5 (hC:Cl4 X.K X.mg c fl) (O:OkM X.prog X.w X.K X.mg X.base k c "__init__" n sp) (hr:Room j X.A) (ha:PL3 X (e :: es) ts) (hj:k + 1 ≤ j:=by omega) (hl:ts.length + 1 = n:=by rfl) (hg:Gl X c:=by rfl) (he:starEach (e :: es) X.env = (false,eval e X.env) :: starEach es X.env:=by rfl) (hdb:(c == ("__debug__":Str)) = false:=by decide) (hpl:(backTo pos (starEach es X.env)).any (·.1) = false:=by rfl) :
  PE3 X (.Call (.Name c p) (e :: es) [] pos) (make3 c sp ts):=by
 obtain ⟨C,hn,hm,hc,hmk,hkp,na⟩:=hC.ex
 obtain ⟨C',f,fd,ps,hps,F,h1,h2,h3,h4⟩:=O.ex
 cases hn.inj h1
 refine ⟨PE_imp (pe_make ⟨hmk,h3.at_,h3.fn,hkp⟩ F.ok (hr.mono hj) hg hm h4 .nil pass0 ha.ok hdb he hpl) fun σ H Q ⟨σ3,S,Q3,E3,rσ,rS,h,xo,k⟩=>lift_args rσ rS h xo fun ps' S' vs H' hl' q rv rS' g x dx hx hdx hne=>?_⟩
 rw [List.append_nil]
 have g1:Grow X.K H' (upd H' dx (.own x)):=.new hdx
 have hx1:upd H' dx (.own x) x = none:=by rw [upd_ne (Ne.symm hne)]; exact hx
 have g2:Grow X.K (upd H' dx (.own x)) (upd (upd H' dx (.own x)) x (.ins C dx [])):=.new hx1
 refine ⟨by rw [List.length_cons,rv.length,hl',hl,hps],.ref x :: ps',upd3 S' x (.ins c []),_,_,.cons (.ref x) (rv.mono (g1.trans g2)),(rS'.other hdx).new hx1 ⟨C,dx,[],hn,upd_same,.nil⟩,q x (rS'.free hx),fun p S2 v H2 hq rv2 rS2 gg=>?_⟩
 obtain ⟨rfl,q2⟩:=hq
 cases rv2
 exact ⟨rfl,k _ S2 _ H2 q2 (.ref x) rS2 (g.trans ((g1.trans g2).trans gg))⟩
end
structure XR4 (P:Program) (w:World) (K:PySem.W.Frag) (mg:Str→Option Value) (base:Heap) (x:Str) (ks:List Str):Prop where
 ex:∃ qual st ps C f fd,XCls K mg x qual st ps ks C f fd∧FnOk P w K mg base CX0 1 f fd ps (spInit K C ks)∧ps.length = ks.length + 1
structure XC4 (K:PySem.W.Frag) (mg:Str→Option Value) (x q:Str) (st:Stmt) (ps ks:List Str):Prop where
 ex:∃ C f fd,XCls K mg x q st ps ks C f fd
structure XE4 (K:PySem.W.Frag) (mg:Str→Option Value) (x:Str) (cs:List Str):Prop where
 ex:∃ D,mg x = some (.ref D)∧ExcD K D∧XMro K D cs
structure XN4 (K:PySem.W.Frag) (mg:Str→Option Value) (x:Str):Prop where
 ex:∃ C,mg x = some (.ref C)∧ClsN K x C
section
variable {P:Program} {w:World} {K:PySem.W.Frag} {mg:Str→Option Value} {base:Heap}
theorem xr1 {x q k1:Str} {st:Stmt} {ps:List Str} (N:List Str) (h:XC4 K mg x q st ps [k1]) (hp:ps.length = 2)
  (hb:∀ (f:Addr) (cdv:Value) (A:Around) (outer:List Env) (s:Shared) (H:Hp) (E:XK),PSs (cxOf CX0 P w K mg base N q (defScope st) f cdv A outer s H E).nox (defBody st) (sXF0 K (tVar 0) (tVar 1) k1))
  (S:FnScope N ps (defScope st):=by exact ⟨rfl,rfl,rfl,by decide +kernel,rfl,by decide +kernel,by decide +kernel⟩):XR4 P w K mg base x [k1]:=by
 obtain ⟨C,f,fd,T⟩:=h.ex
 exact ⟨q,st,ps,C,f,fd,T,init1 T.F S hp (hb f),hp⟩
end
section
variable {X:Cx} {e:Expr} {es:List Expr} {ts:List TE3} {x:Str} {p pos cpos:Pos} {ks:List Str} {j:Nat}
theorem ra4 (T:XR4 X.prog X.w X.K X.mg X.base x ks) (hr:Room j X.A) (ha:PL3 X (e :: es) ts) (hj:2 ≤ j:=by omega) (hcalm:X.calm = true:=by rfl) (hg:Gl X x:=by rfl) (he:starEach (e :: es) X.env = (false,eval e X.env) :: starEach es X.env:=by rfl)
  (hl:ts.length = ks.length:=by rfl) (hks:ks.length ≤ 1000:=by exact Nat.le_of_ble_eq_true rfl) (hdb:(x == ("__debug__":Str)) = false:=by decide) (hpl:(backTo cpos (starEach es X.env)).any (·.1) = false:=by rfl) :
  PS3 X (.Raise (some (.Call (.Name x p) (e :: es) [] cpos)) none pos) (raise3 x ks ts):=by
 obtain ⟨qual,st,ps,C,f,fd,T,F,hp⟩:=T.ex
 exact s3raise T F hp (hr.mono hj) hcalm hg he ha hl hks hdb hpl
theorem cl4 (h:XN4 X.K X.mg x) (hg:Gl X x:=by rfl) (hd:(x == ("__debug__":Str)) = false:=by decide):PE3 X (.Name x pos) (c3 (.cls x)):=let ⟨_,h1,h2⟩:=h.ex; e3cls hg h1 h2 hd
theorem ty4 {n:String} (hm:X.mg x = none) (hg:Gl X x:=by rfl) (hv:bootBuiltins x = some (.type n):=by decide +kernel) (hn:x ≠ "__name__":=by decide) (hd:(x == ("__debug__":Str)) = false:=by decide):PE3 X (.Name x pos) (c3 (.ty n)):=e3ty hg hm hv hn hd
end
section
variable {X:Cx} {body suite:List Stmt} {b₀:Stmt} {n x:Str} {np hpos pos:Pos} {tb th:TS3} {cs:List Str}
theorem tr4 (i:Nat) (T:XE4 X.K X.mg x cs) (hN:X.N.Nodup) (hb:∀ E pins,PassesOwn (model X.prog X.w) X.A X.env E→PSs3 (X.tr E pins) body tb) (hs:∀ a,PSs3 (X.inH a) (b₀ :: suite) th)
  (hst:X.stack = X.env :: X.outer:=by rfl) (hfrm:X.env.frame = some X.env.locals:=by rfl) (hi:X.N[i]? = some n:=by rfl) (hk:X.env.scope.names.lookup n = some .local:=by rfl) (hg:Gl X x:=by rfl) (hdb:(x == ("__debug__":Str)) = false:=by decide) :
  PS3 X (.Try body [.ExceptHandler (some (.Name x np)) (some n) (b₀ :: suite) hpos] [] [] pos) (try3 cs i tb th):=by
 obtain ⟨D,h1,h2,h3⟩:=T.ex
 exact s3try hst hfrm hN hi hk hg h1 h2 h3 hb hs hdb
end
end L3
namespace CY
open PySem L2 L3
noncomputable def b_Doing___init__:TS3:=(cons3 (sfld3 "Doing" "names" (v3 1) (v3 0))
  (cons3 (sfld3 "Doing" "jars" (v3 2) (v3 0))
  (cons3 (sfld3 "Doing" "most" (v3 3) (v3 0))
  (cons3 (sfld3 "Doing" "cost" (tup3 [(c3 (.int 0)),(c3 (.int 1))]) (v3 0))
  (sfld3 "Doing" "seen" (lst3 []) (v3 0))))))
noncomputable def b_Doing_come_to:TS3:=(cons3 (if3 (tst (op3 ge3 (callB3 len3 [(fld3 "Doing" "seen" (v3 0))]) (fld3 "Doing" "most" (v3 0)))) (raise3 "TooLong" ["most"] [(fld3 "Doing" "most" (v3 0))]) nil3)
  (expr3 (bm3 "list" append3 (fld3 "Doing" "seen" (v3 0)) [(tup3 [(v3 1),(fld3 "Doing" "jars" (v3 0)),(fld3 "Doing" "cost" (v3 0))])])))
noncomputable def b_Doing_pay (x_plus:Sp3):TS3:=(sfld3 "Doing" "cost" (call3 x_plus [(fld3 "Doing" "cost" (v3 0)),(v3 1)]) (v3 0))
noncomputable def b_Doing_bring (x_added x_things_of:Sp3):TS3:=(sfld3 "Doing" "jars" (call3 x_added [(fld3 "Doing" "jars" (v3 0)),(call3 x_things_of [(fld3 "Doing" "names" (v3 0)),(v3 1),(v3 2)])]) (v3 0))
noncomputable def b_Doing_take (x_Doing_bring:Sp3):TS3:=(cons3 (if3 (tst (op3 lt3 (op3 idx3 (fld3 "Doing" "jars" (v3 0)) (bmT3 indexT3 (fld3 "Doing" "names" (v3 0)) [(v3 1)])) (v3 2))) (raise3 "Stuck" ["row"] [(v3 3)]) nil3)
  (expr3 (meth3 "Doing" "bring" x_Doing_bring (v3 0) [(v3 1),(un3 neg3 (v3 2))])))
noncomputable def b_go_step (x_Doing_come_to x_Doing_pay x_Doing_bring:Sp3):TS3:=(cons3 (expr3 (methX3 "Doing" "come_to" x_Doing_come_to (v3 0) [(v3 2)]))
  (cons3 (if3 (tst (op3 (eq3 false) (op3 idx3 (v3 1) (c3 (.int 0))) (c3 (.str "pay")))) (expr3 (meth3 "Doing" "pay" x_Doing_pay (v3 0) [(op3 idx3 (v3 1) (c3 (.int 1)))])) nil3)
  (if3 (tst (op3 (eq3 false) (op3 idx3 (v3 1) (c3 (.int 0))) (c3 (.str "put")))) (expr3 (meth3 "Doing" "bring" x_Doing_bring (v3 0) [(op3 idx3 (v3 1) (c3 (.int 1))),(op3 idx3 (v3 1) (c3 (.int 2)))])) nil3)))
noncomputable def b_go_often (x_Doing_come_to s0 s1 s2:Sp3):TS3:=(cons3 (expr3 (methX3 "Doing" "come_to" x_Doing_come_to (v3 0) [(v3 3)]))
  (for3 (iter3 (v3 2)) (.n 4) (for3 (rng1 (op3 idx3 (v3 4) (c3 (.int 0)))) (.n 5) (cons3 (expr3 (callX3 s2 [(v3 0),(op3 idx3 (v3 1) (c3 (.int 1))),(op3 idx3 (v3 4) (c3 (.int 1))),(op3 add3 (v3 3) (c3 (.int 1)))]))
  (expr3 (methX3 "Doing" "come_to" x_Doing_come_to (v3 0) [(v3 3)]))))))
noncomputable def b_go_choice (x_Doing_come_to x_Doing_take x_rows_in x_chosen s0 s1 s2:Sp3):TS3:=(cons3 (expr3 (methX3 "Doing" "come_to" x_Doing_come_to (v3 0) [(v3 3)]))
  (cons3 (if3 (and3 (tst (op3 (eq3 false) (op3 idx3 (v3 1) (c3 (.int 0))) (c3 (.str "take")))) (tst (op3 (eq3 false) (op3 idx3 (v3 2) (c3 (.int 0))) (c3 (.int 0))))) (expr3 (methX3 "Doing" "take" x_Doing_take (v3 0) [(op3 idx3 (v3 1) (c3 (.int 1))),(op3 idx3 (v3 1) (c3 (.int 2))),(v3 3)])) nil3)
  (cons3 (set3 4 (ife3 (tst (op3 (eq3 false) (op3 idx3 (v3 2) (c3 (.int 0))) (c3 (.int 0)))) (op3 add3 (v3 3) (c3 (.int 1))) (op3 add3 (op3 add3 (v3 3) (c3 (.int 1))) (call3 x_rows_in [(op3 idx3 (v3 1) (un3 neg3 (c3 (.int 2))))]))))
  (expr3 (callX3 s2 [(v3 0),(call3 x_chosen [(v3 1),(v3 2)]),(op3 idx3 (v3 2) (c3 (.int 1))),(v3 4)])))))
noncomputable def b_go (x_rows_in x_go_step s0 s1 s2:Sp3):TS3:=(cons3 (set3 4 (op3 idx3 (v3 1) (c3 (.int 0))))
  (if3 (tst (op3 (eq3 false) (v3 4) (c3 (.str "then")))) (cons3 (expr3 (callX3 s2 [(v3 0),(op3 idx3 (v3 1) (c3 (.int 1))),(op3 idx3 (v3 2) (c3 (.int 0))),(v3 3)]))
  (expr3 (callX3 s2 [(v3 0),(op3 idx3 (v3 1) (c3 (.int 2))),(op3 idx3 (v3 2) (c3 (.int 1))),(op3 add3 (v3 3) (call3 x_rows_in [(op3 idx3 (v3 1) (c3 (.int 1)))]))]))) (if3 (tst (op3 (eq3 false) (v3 4) (c3 (.str "often")))) (expr3 (callX3 s0 [(v3 0),(v3 1),(v3 2),(v3 3)])) (if3 (tst (op3 (in3 false) (v3 4) (tup3 [(c3 (.str "either")),(c3 (.str "take"))]))) (expr3 (callX3 s1 [(v3 0),(v3 1),(v3 2),(v3 3)])) (if3 (tst (op3 (eq3 true) (v3 4) (c3 (.str "rest")))) (expr3 (callX3 x_go_step [(v3 0),(v3 1),(v3 3)])) nil3)))))
noncomputable def b_done (x_Doing___init__ x_go x_Doing_come_to x_rows_in:Sp3):TS3:=(cons3 (set3 5 (op3 idx3 (op3 idx3 (op3 idx3 (v3 0) (c3 (.int 1))) (v3 2)) (c3 (.int 1))))
  (cons3 (set3 6 (make3 "Doing" x_Doing___init__ [(op3 idx3 (v3 0) (c3 (.int 0))),(v3 1),(v3 4)]))
  (cons3 (expr3 (callX3 x_go [(v3 6),(v3 5),(v3 3),(c3 (.int 0))]))
  (cons3 (expr3 (methX3 "Doing" "come_to" x_Doing_come_to (v3 6) [(call3 x_rows_in [(v3 5)])]))
  (ret3 (fld3 "Doing" "seen" (v3 6)))))))
noncomputable def b__law_rows (s0:Sp3):TS3:=(cons3 (if3 (tst (op3 (eq3 false) (op3 idx3 (v3 0) (c3 (.int 0))) (c3 (.str "rest")))) (ret3 (c3 (.int 0))) nil3)
  (cons3 (if3 (tst (op3 (eq3 false) (op3 idx3 (v3 0) (c3 (.int 0))) (c3 (.str "then")))) (ret3 (op3 add3 (call3 s0 [(op3 idx3 (v3 0) (c3 (.int 1)))]) (call3 s0 [(op3 idx3 (v3 0) (c3 (.int 2)))]))) nil3)
  (cons3 (if3 (or3 (tst (op3 (eq3 false) (op3 idx3 (v3 0) (c3 (.int 0))) (c3 (.str "either")))) (tst (op3 (eq3 false) (op3 idx3 (v3 0) (c3 (.int 0))) (c3 (.str "take"))))) (ret3 (op3 add3 (op3 add3 (c3 (.int 1)) (call3 s0 [(op3 idx3 (v3 0) (un3 neg3 (c3 (.int 2))))])) (call3 s0 [(op3 idx3 (v3 0) (un3 neg3 (c3 (.int 1))))]))) nil3)
  (cons3 (if3 (tst (op3 (eq3 false) (op3 idx3 (v3 0) (c3 (.int 0))) (c3 (.str "often")))) (ret3 (op3 add3 (c3 (.int 1)) (call3 s0 [(op3 idx3 (v3 0) (c3 (.int 1)))]))) nil3)
  (ret3 (c3 (.int 1)))))))
noncomputable def b__law_come:TS3:=(cons3 (sub3 (op3 gt3 (callB3 len3 [(op3 idx3 (v3 0) (c3 (.str "rows")))]) (op3 idx3 (v3 0) (c3 (.str "limit")))) (v3 0) (c3 (.str "over")))
  (cons3 (if3 (not3 (tst (op3 idx3 (v3 0) (c3 (.str "over"))))) (expr3 (bm3 "list" append3 (op3 idx3 (v3 0) (c3 (.str "rows"))) [(tup3 [(v3 1),(callB3 ttuple3 [(op3 idx3 (v3 0) (c3 (.str "jars")))]),(op3 idx3 (v3 0) (c3 (.str "cost")))])])) nil3)
  (ret3 (notv3 (op3 idx3 (v3 0) (c3 (.str "over")))))))
noncomputable def b__law_at_row (x__law_plus x__law_come x__law_rows s0 s1:Sp3):TS3:=(cons3 (set3 4 (op3 idx3 (v3 0) (c3 (.int 0))))
  (if3 (tst (op3 (eq3 false) (v3 4) (c3 (.str "pay")))) (sub3 (call3 x__law_plus [(op3 idx3 (v3 3) (c3 (.str "cost"))),(op3 idx3 (v3 0) (c3 (.int 1)))]) (v3 3) (c3 (.str "cost"))) (if3 (tst (op3 (eq3 false) (v3 4) (c3 (.str "put")))) (cons3 (set3 5 (bmT3 indexT3 (op3 idx3 (v3 3) (c3 (.str "names"))) [(op3 idx3 (v3 0) (c3 (.int 1)))]))
  (sub3 (op3 add3 (op3 idx3 (op3 idx3 (v3 3) (c3 (.str "jars"))) (v3 5)) (op3 idx3 (v3 0) (c3 (.int 2)))) (op3 idx3 (v3 3) (c3 (.str "jars"))) (v3 5))) (if3 (tst (op3 (eq3 false) (v3 4) (c3 (.str "often")))) (for3 (iter3 (v3 2)) (.tp (.cons (.n 6) (.cons (.n 7) .nil))) (cons3 (set3 8 (v3 6))
  (while3 (and3 (tst (op3 gt3 (v3 8) (c3 (.int 0)))) (and3 (tst (op3 (is3 false) (op3 idx3 (v3 3) (c3 (.str "stuck"))) (c3 .non))) (not3 (tst (op3 idx3 (v3 3) (c3 (.str "over"))))))) (cons3 (set3 8 (op3 sub3' (v3 8) (c3 (.int 1))))
  (cons3 (expr3 (call3 s1 [(op3 idx3 (v3 0) (c3 (.int 1))),(op3 add3 (v3 1) (c3 (.int 1))),(v3 7),(v3 3)]))
  (if3 (and3 (tst (op3 (is3 false) (op3 idx3 (v3 3) (c3 (.str "stuck"))) (c3 .non))) (not3 (tst (op3 idx3 (v3 3) (c3 (.str "over")))))) (expr3 (call3 x__law_come [(v3 3),(v3 1)])) nil3)))))) (cons3 (if3 (and3 (tst (op3 (eq3 false) (v3 4) (c3 (.str "take")))) (tst (op3 (eq3 false) (op3 idx3 (v3 2) (c3 (.int 0))) (c3 (.int 0))))) (cons3 (set3 5 (bmT3 indexT3 (op3 idx3 (v3 3) (c3 (.str "names"))) [(op3 idx3 (v3 0) (c3 (.int 1)))]))
  (cons3 (if3 (tst (op3 lt3 (op3 idx3 (op3 idx3 (v3 3) (c3 (.str "jars"))) (v3 5)) (op3 idx3 (v3 0) (c3 (.int 2))))) (sub3 (v3 1) (v3 3) (c3 (.str "stuck"))) nil3)
  (sub3 (op3 sub3' (op3 idx3 (op3 idx3 (v3 3) (c3 (.str "jars"))) (v3 5)) (op3 idx3 (v3 0) (c3 (.int 2)))) (op3 idx3 (v3 3) (c3 (.str "jars"))) (v3 5)))) nil3)
  (cons3 (set3 9 (op3 add3 (v3 1) (c3 (.int 1))))
  (cons3 (if3 (tst (op3 (eq3 false) (op3 idx3 (v3 2) (c3 (.int 0))) (c3 (.int 1)))) (set3 9 (op3 add3 (v3 9) (call3 x__law_rows [(op3 idx3 (v3 0) (un3 neg3 (c3 (.int 2))))]))) nil3)
  (expr3 (call3 s1 [(op3 idx3 (v3 0) (op3 sub3' (op3 idx3 (v3 2) (c3 (.int 0))) (c3 (.int 2)))),(v3 9),(op3 idx3 (v3 2) (c3 (.int 1))),(v3 3)])))))))))
noncomputable def b__law_walk (x__law_rows x__law_come s0 s1:Sp3):TS3:=(cons3 (if3 (or3 (tst (op3 (is3 true) (op3 idx3 (v3 3) (c3 (.str "stuck"))) (c3 .non))) (or3 (tst (op3 idx3 (v3 3) (c3 (.str "over")))) (tst (op3 (eq3 false) (op3 idx3 (v3 0) (c3 (.int 0))) (c3 (.str "rest")))))) retN3 nil3)
  (if3 (tst (op3 (eq3 false) (op3 idx3 (v3 0) (c3 (.int 0))) (c3 (.str "then")))) (cons3 (expr3 (call3 s1 [(op3 idx3 (v3 0) (c3 (.int 1))),(v3 1),(op3 idx3 (v3 2) (c3 (.int 0))),(v3 3)]))
  (expr3 (call3 s1 [(op3 idx3 (v3 0) (c3 (.int 2))),(op3 add3 (v3 1) (call3 x__law_rows [(op3 idx3 (v3 0) (c3 (.int 1)))])),(op3 idx3 (v3 2) (c3 (.int 1))),(v3 3)]))) (if3 (tst (call3 x__law_come [(v3 3),(v3 1)])) (expr3 (call3 s0 [(v3 0),(v3 1),(v3 2),(v3 3)])) nil3)))
noncomputable def b__law_walked (x__law_walk x__law_come x__law_rows:Sp3):TS3:=(cons3 (set3 5 (disp3 [((c3 (.str "names")),(op3 idx3 (v3 0) (c3 (.int 0)))),((c3 (.str "jars")),(callB3 tlist3 [(v3 1)])),((c3 (.str "cost")),(tup3 [(c3 (.int 0)),(c3 (.int 1))])),((c3 (.str "rows")),(lst3 [])),((c3 (.str "limit")),(v3 4))]))
  (cons3 (sub3 (c3 .non) (v3 5) (c3 (.str "stuck")))
  (cons3 (sub3 (c3 (.bl false)) (v3 5) (c3 (.str "over")))
  (cons3 (set3 6 (op3 idx3 (op3 idx3 (op3 idx3 (v3 0) (c3 (.int 1))) (v3 2)) (c3 (.int 1))))
  (cons3 (expr3 (call3 x__law_walk [(v3 6),(c3 (.int 0)),(v3 3),(v3 5)]))
  (cons3 (if3 (and3 (tst (op3 (is3 false) (op3 idx3 (v3 5) (c3 (.str "stuck"))) (c3 .non))) (not3 (tst (op3 idx3 (v3 5) (c3 (.str "over")))))) (expr3 (call3 x__law_come [(v3 5),(call3 x__law_rows [(v3 6)])])) nil3)
  (ret3 (v3 5))))))))
end CY
namespace L3
open PySem L2
theorem char_inj:∀ {a b:List Char},a.map Char.toNat = b.map Char.toNat→a = b
 | [],[],_=>rfl
 | [],_ :: _,h=>by simp at h
 | _ :: _,[],h=>by simp at h
 | x :: a,y :: b,h=>by
  simp only [List.map_cons,List.cons.injEq] at h
  rw [char_inj h.2,Char.toNat_inj.mp h.1]
theorem ofS_inj {a b:String}:(Str.ofString a = Str.ofString b) ↔ a = b:=by
 refine ⟨fun h=>?_,fun h=>by rw [h]⟩
 rw [Str.ofString_eq_toList,Str.ofString_eq_toList] at h
 have h':a.toList.map Char.toNat = b.toList.map Char.toNat:=by
  have:=congrArg (fun s:Str=>s.cps.toList) h
  simpa using this
 exact String.toList_inj.mp (char_inj h')
theorem sS {a b:String}:((Sum.inr (Str.ofString a):Key) = Sum.inr (Str.ofString b)) ↔ a = b:=by
 rw [Sum.inr.injEq,ofS_inj]
theorem mulL {i j:Int} (h1:-(2 ^ 64) < i) (h2:i < 2 ^ 64):IntMulOk i j:=(show CMul i j from .inl ⟨h1,h2⟩).ok
theorem mulR {i j:Int} (h1:-(2 ^ 64) < j) (h2:j < 2 ^ 64):IntMulOk i j:=(show CMul i j from .inr ⟨h1,h2⟩).ok
theorem fmodP {i j:Int} (h:0 ≤ j):i.fmod j = i % j:=Int.fmod_eq_emod_of_nonneg i h
theorem fdivP {i j:Int} (h:0 ≤ j):i.fdiv j = i / j:=Int.fdiv_eq_ediv_of_nonneg i h
theorem cdiv {i j:Int} (h:0 < j) (h2:j < 2 ^ 64):CDiv3 i j:=⟨by omega,Nat.lt_trans (show j.natAbs < 2 ^ 64 by omega) (Nat.pow_lt_pow_right (by decide) (by decide))⟩
noncomputable def Oth (d l:Addr) (S S':Sto):Prop:=∀ a o,S a = some o→a ≠ d→a ≠ l→S' a = some o
theorem Oth.refl {d l:Addr} {S:Sto}:Oth d l S S:=fun _ _ h _ _=>h
theorem Oth.trans {d l:Addr} {S S1 S2:Sto} (a:Oth d l S S1) (b:Oth d l S1 S2):Oth d l S S2:=fun x o h h1 h2=>b x o (a x o h h1 h2) h1 h2
theorem Oth.upd {d l:Addr} {S:Sto} {o:SO}:Oth d l S (upd3 S d o):=fun x u h h1 h2=>by rw [upd3_ne h1]; exact h
theorem Oth.upl {d l:Addr} {S:Sto} {o:SO}:Oth d l S (upd3 S l o):=fun x u h h1 h2=>by rw [upd3_ne h2]; exact h
theorem Oth.new {d l p:Addr} {S:Sto} {o:SO} (h:S p = none):Oth d l S (upd3 S p o):=fun x u hx h1 h2=>by rw [upd3_ne (fun e=>by rw [e,h] at hx; cases hx)]; exact hx
end L3
local macro_rules | `(tactic| walk_at "x")=>`(tactic| ((try dsimp only [L3.cons3,L3.set3,L3.ret3,L3.expr3,L3.if3,L3.nil3,L3.op3,L3.v3,L3.c3,L3.lk,L3.args3,L3.callB3,L3.call3,L3.bm3,L3.tst,L3.and3,L3.or3,L3.not3,L3.andv3,L3.orv3,L3.notv3,L3.ife3,L3.sub3,L3.par3,L3.three3,L3.tup3,L3.lst3,L3.un3,L3.neg3,L3.idx3,L3.key3,L3.slice3,L3.on3,L3.os3,L3.slr3,L3.int3,L3.intc3,L3.sub3',L3.mod3,L3.fdiv3,L3.pow3,L3.lt3,L3.le3,L3.gt3,L3.ge3,L3.eq3,L3.is3,L3.add3,L3.mul3,L3.len3,L3.abs3,L3.max23,L3.min23,L3.tint3,L3.ttuple3,L3.tlist3,L3.seq3,List.set_cons_zero,List.set_cons_succ,List.set_nil,L3.ty3,L3.setIt3,L3.pop3,L3.comp3,L3.iter3,L3.srcOf,L3.for3,L3.blk3,L3.Tg.put,L3.Tg.puts,L3.asg3,L3.disp3,L3.pairs3,L3.lrev3,L3.rng1,L3.rng2,L3.enum3,L3.zip3,L3.append3,L3.extend3,L3.rev3,List.reduceReplicate,List.map_cons,List.map_nil,List.cons_append,List.nil_append,L3.callX3,L3.raise3,L3.xfld3]); (try simp only [L3.cons3,L3.set3,L3.ret3,L3.expr3,L3.if3,L3.nil3,L3.op3,L3.v3,L3.c3,L3.lk,L3.args3,L3.callB3,L3.call3,L3.bm3,L3.tst,L3.and3,L3.or3,L3.not3,L3.andv3,L3.orv3,L3.notv3,L3.ife3,L3.sub3,L3.par3,L3.three3,L3.tup3,L3.lst3,L3.un3,L3.neg3,L3.idx3,L3.key3,L3.slice3,L3.on3,L3.os3,L3.slr3,L3.int3,L3.intc3,L3.sub3',L3.mod3,L3.fdiv3,L3.pow3,L3.lt3,L3.le3,L3.gt3,L3.ge3,L3.eq3,L3.is3,L3.add3,L3.mul3,L3.len3,L3.abs3,L3.max23,L3.min23,L3.tint3,L3.ttuple3,L3.tlist3,L3.seq3,List.set_cons_zero,List.set_cons_succ,List.set_nil,L3.ty3,L3.setIt3,L3.pop3,L3.comp3,L3.iter3,L3.srcOf,L3.for3,L3.blk3,L3.Tg.put,L3.Tg.puts,L3.asg3,L3.disp3,L3.pairs3,L3.lrev3,L3.rng1,L3.rng2,L3.enum3,L3.zip3,L3.append3,L3.extend3,L3.rev3,List.reduceReplicate,List.map_cons,List.map_nil,List.cons_append,List.nil_append,L3.callX3,L3.raise3,L3.xfld3])))
namespace C
open PySem L2 L3
noncomputable def dealK (seed number:Int) (l:Addr):List (Key × PV):=[(Sum.inr "seed",.int seed),(Sum.inr "number",.int number),(Sum.inr "left",.ref l)]
structure DealAt (S:Sto) (d l:Addr) (seed number:Int) (left:List Int):Prop where
 d:S d = some (.dct (dealK seed number l))
 l:S l = some (.lst (left.map PV.int))
 s0:0 ≤ seed
 s1:seed < 2147483647
 nm:0 ≤ number
 lf:∀ x ∈ left,0 ≤ x
 ln:left.length ≤ 100
noncomputable def Deal (S:Sto) (d l:Addr):Prop:=∃ seed number left,DealAt S d l seed number left
theorem DealAt.ne {S:Sto} {d l:Addr} {seed number:Int} {left:List Int} (D:DealAt S d l seed number left):d ≠ l:=fun e=>by
 have h:=D.d
 rw [e,D.l] at h
 cases h
theorem Deal.new {S:Sto} {d l p:Addr} {o:SO} (D:Deal S d l) (h:S p = none):Deal (upd3 S p o) d l:=by
 obtain ⟨s,n,f,D⟩:=D
 refine ⟨s,n,f,?_,?_,D.s0,D.s1,D.nm,D.lf,D.ln⟩
 ·rw [upd3_ne (fun e=>by have:=D.d; rw [e,h] at this; cases this)]; exact D.d
 ·rw [upd3_ne (fun e=>by have:=D.l; rw [e,h] at this; cases this)]; exact D.l
theorem Deal.upd {S:Sto} {d l p:Addr} {o:SO} (D:Deal S d l) (h1:p ≠ d) (h2:p ≠ l):Deal (upd3 S p o) d l:=by
 obtain ⟨s,n,f,D⟩:=D
 exact ⟨s,n,f,by rw [upd3_ne h1.symm]; exact D.d,by rw [upd3_ne h2.symm]; exact D.l,D.s0,D.s1,D.nm,D.lf,D.ln⟩
theorem Deal.free {S:Sto} {d l p:Addr} (D:Deal S d l) (h:S p = none):p ≠ d∧p ≠ l:=by
 obtain ⟨s,n,f,D⟩:=D
 exact ⟨(fun e=>by have:=D.d; rw [← e,h] at this; cases this),(fun e=>by have:=D.l; rw [← e,h] at this; cases this)⟩
theorem put_number (s n m:Int) (l:Addr):put3 (dealK s n l) (Sum.inr "number") (.int m) = dealK s m l:=by
 simp [put3,dealK,sS,ofS_inj]
theorem put_seed (s n m:Int) (l:Addr):put3 (dealK s n l) (Sum.inr "seed") (.int m) = dealK m n l:=by
 simp [put3,dealK,sS,ofS_inj]
theorem v_seed (s n:Int) (l:Addr):val3 (dealK s n l) (Sum.inr "seed") = some (.int s):=by simp [val3,dealK,sS,ofS_inj]
theorem v_number (s n:Int) (l:Addr):val3 (dealK s n l) (Sum.inr "number") = some (.int n):=by simp [val3,dealK,sS,ofS_inj]
theorem v_left (s n:Int) (l:Addr):val3 (dealK s n l) (Sum.inr "left") = some (.ref l):=by simp [val3,dealK,sS,ofS_inj]
noncomputable abbrev DrawSpec (w:Sp3):Prop:=∀ {S:Sto} {d l:Addr} {m:Int} {Q:VK3} {E:XK3},Deal S d l→0 < m→m < 2 ^ 62→(∀ r S',0 ≤ r→r < m→Deal S' d l→Oth d l S S'→Q (.int r) S')→w [.ref d,.int m] S Q E
theorem sp_draw:DrawSpec (fn3 5 b__law_draw):=by
  intro S d l m Q E D h0 h1 k
  obtain ⟨seed,number,left,D⟩:=D
  have hne:=D.ne
  have hsz:∀ a b,(dealK a b l).length < sizeLine:=fun _ _=>small1000 (by show 3 ≤ 1000; decide)
  have fin:∀ num lft S1,DealAt S1 d l seed num lft→Oth d l S S1→¬ (num = 0∧0 < lft.length)→
      (if 0 < num then CDiv3 num m∧(dealK seed num l).length < sizeLine∧m ≠ 0∧Q (PV.int (num.fmod m)) (upd3 S1 d (SO.dct (dealK seed (num.fdiv m) l)))
       else IntMulOk seed 48271∧(2147483647:Int) ≠ 0∧IntMulOk ((seed * 48271 + 7919).fmod 2147483647) 40692∧(2147483399:Int) ≠ 0∧(dealK seed num l).length < sizeLine∧
        IntMulOk (((seed * 48271 + 7919).fmod 2147483647 * 40692 + 104729).fmod 2147483399) (((seed * 48271 + 7919).fmod 2147483647 * 40692 + 104729).fmod 2147483399)∧(2147483563:Int) ≠ 0∧
        IntMulOk ((seed * 48271 + 7919).fmod 2147483647) ((seed * 48271 + 7919).fmod 2147483647)∧(2147483629:Int) ≠ 0∧
        IntMulOk (((seed * 48271 + 7919).fmod 2147483647 * (seed * 48271 + 7919).fmod 2147483647).fmod 2147483629) 2147483563∧m ≠ 0∧
        Q (PV.int ((((seed * 48271 + 7919).fmod 2147483647 * (seed * 48271 + 7919).fmod 2147483647).fmod 2147483629 * 2147483563 + ((((seed * 48271 + 7919).fmod 2147483647 * 40692 + 104729).fmod 2147483399) * (((seed * 48271 + 7919).fmod 2147483647 * 40692 + 104729).fmod 2147483399)).fmod 2147483563).fmod m))
          (upd3 S1 d (SO.dct (dealK (((seed * 48271 + 7919).fmod 2147483647 * 40692 + 104729).fmod 2147483399) num l)))):=by
    intro num lft S1 D1 O1 hz
    split
    · rename_i hp
      rw [fmodP (Int.le_of_lt h0),fdivP (Int.le_of_lt h0)]
      refine ⟨cdiv h0 (by omega),hsz _ _,by omega,k _ _ (Int.emod_nonneg _ (by omega)) (Int.emod_lt_of_pos _ h0) ⟨seed,num / m,lft,upd3_same,by rw [upd3_ne hne.symm]; exact D1.l,D1.s0,D1.s1,Int.ediv_nonneg D1.nm (Int.le_of_lt h0),D1.lf,D1.ln⟩ (O1.trans .upd)⟩
    · have e1:∀ x:Int,x.fmod 2147483647 = x % 2147483647:=fun x=>fmodP (by decide)
      have e2:∀ x:Int,x.fmod 2147483399 = x % 2147483399:=fun x=>fmodP (by decide)
      simp only [e1,e2,fmodP (Int.le_of_lt h0)]
      have p1:=D1.s0
      have p2:=D1.s1
      refine ⟨mulR (by decide) (by decide),by decide,mulR (by decide) (by decide),by decide,hsz _ _,mulL (by omega) (by omega),by decide,mulL (by omega) (by omega),by decide,mulR (by decide) (by decide),by omega,
        k _ _ (Int.emod_nonneg _ (by omega)) (Int.emod_lt_of_pos _ h0) ⟨_,num,lft,upd3_same,by rw [upd3_ne hne.symm]; exact D1.l,by omega,by omega,D1.nm,D1.lf,D1.ln⟩ (O1.trans .upd)⟩
  unfold fn3 b__law_draw
  rw [show start3 5 [PV.ref d,PV.int m] = [some (.ref d),some (.int m),none,none,none] from rfl]
  simp only [cons3]
  refine ⟨fun n σ S'=>σ = [some (.ref d),some (.int m),none,none,none]∧∃ number left,DealAt S' d l seed number left∧left.length = n∧Oth d l S S',⟨_,rfl,number,left,D,rfl,.refl⟩,?_⟩
  rintro n σ S1 ⟨rfl,num,lft,D1,hn,O1⟩
  walk_at "x"
  simp only [D1.d,D1.l,v_number,v_left,v_seed,put_seed,put_number,upd3_same,Bool.false_bne,decide_eq_true_eq]
  have hlen:(List.map PV.int lft).length = lft.length:=List.length_map ..
  rw [hlen]
  split
  · rename_i hz
    subst hz
    split
    · rename_i hl
      refine ⟨fun σ S'=>σ = [some (.ref d),some (.int m),none,none,none]∧∃ number left,DealAt S' d l seed number left∧left.length < n∧Oth d l S S',?_,?_⟩
      · rintro σ' S' ⟨rfl,a,b,h2,h3,h4⟩
        exact ⟨_,h3,rfl,a,b,h2,rfl,h4⟩
      · have hl':0 < lft.length:=by omega
        obtain ⟨pre,x,rfl⟩:∃ pre x,lft = pre ++ [x]:=by
          refine ⟨lft.dropLast,lft.getLast (by intro e; rw [e] at hl'; simp at hl'),(List.dropLast_concat_getLast _).symm⟩
        refine ⟨trivial,?_⟩
        rw [show (List.map PV.int (pre ++ [x]))[(pre ++ [x]).length - 1]? = some (.int x) by simp,show (List.map PV.int (pre ++ [x])).dropLast = pre.map PV.int by simp]
        simp only [upd3_ne hne,D1.d,put_number]
        refine ⟨hsz _ _,trivial,x,pre,⟨upd3_same,by rw [upd3_ne hne.symm,upd3_same],D1.s0,D1.s1,D1.lf x (by simp),fun y hy=>D1.lf y (by simp [hy]),by have:=D1.ln; simp at this; omega⟩,?_,O1.trans (Oth.upl.trans .upd)⟩
        rw [← hn]; simp
    · rename_i hl
      exact fin 0 lft S1 D1 O1 (fun z=>hl (by omega))
  · rename_i hz
    rw [if_neg (by decide)]
    exact fin num lft S1 D1 O1 (fun z=>hz z.1)
end C
namespace L3
open PySem L2
noncomputable def Ext (S S':Sto):Prop:=∀ a o,S a = some o→S' a = some o
theorem Ext.refl {S:Sto}:Ext S S:=fun _ _ h=>h
theorem Ext.trans {S S1 S2:Sto} (a:Ext S S1) (b:Ext S1 S2):Ext S S2:=fun x o h=>b x o (a x o h)
theorem Ext.new {S:Sto} {p:Addr} {o:SO} (h:S p = none):Ext S (upd3 S p o):=fun x u hx=>by rw [upd3_ne (fun e=>by rw [e,h] at hx; cases hx)]; exact hx
theorem Ext.free {S S':Sto} (e:Ext S S') {p:Addr} (h:S' p = none):S p = none:=by
 cases q:S p with
 | none=>rfl
 | some o=>rw [e p o q] at h; cases h
theorem Ext.oth {d l:Addr} {S S':Sto} (e:Ext S S'):Oth d l S S':=fun a o h _ _=>e a o h
theorem compL_pure {g:Tg} {tc:TT3} {te:TE3} {σ':St3} {keep:Sto→Prop} {fin:List PV→Sto→Prop} {S:Sto} (f:PV→PV) (c:PV→Bool) (hk:keep S):∀ (items ys:List PV),
  (∀ x ∈ items,∃ σ2,g.put x σ' = some σ2∧(∀ Q:Bool→Sto→Prop,Q (c x) S→tc σ2 S Q noX)∧(c x = true→∀ Q:VK3,Q (f x) S→te σ2 S Q noX))→ys.length + items.length ≤ sizeLine→fin (ys ++ (items.filter c).map f) S→compL g tc te σ' keep fin items ys S
 | [],ys,_,hl,hf=>⟨hk,by simpa using hl,by simpa using hf⟩
 | x :: r,ys,h,hl,hf=>by
  obtain ⟨σ2,e,h1,h2⟩:=h x (by simp)
  refine ⟨hk,by simp at hl; omega,?_⟩
  rw [e]
  refine h1 _ ?_
  cases hc:c x with
  | true=>
   rw [if_pos rfl]
   refine h2 hc _ (compL_pure f c hk r (ys ++ [f x]) (fun y hy=>h y (by simp [hy])) (by simp at hl ⊢; omega) ?_)
   rw [List.filter_cons,hc,if_pos rfl] at hf
   simpa using hf
  | false=>
   rw [if_neg (by decide)]
   refine compL_pure f c hk r ys (fun y hy=>h y (by simp [hy])) (by simp at hl ⊢; omega) ?_
   rw [List.filter_cons,hc,if_neg (by decide)] at hf
   exact hf
theorem compL_map {g:Tg} {te:TE3} {σ':St3} {keep:Sto→Prop} {fin:List PV→Sto→Prop} {S:Sto} (f:PV→PV) {items:List PV} (hk:keep S)
  (h:∀ x ∈ items,∃ σ2,g.put x σ' = some σ2∧∀ Q:VK3,Q (f x) S→te σ2 S Q noX) (hl:items.length ≤ sizeLine) (hf:fin (items.map f) S):compL g yes3 te σ' keep fin items [] S:=by
 refine compL_pure f (fun _=>true) hk items [] (fun x hx=>?_) (by simpa using hl) (by rw [List.filter_eq_self.mpr (fun _ _=>rfl)]; exact hf)
 obtain ⟨σ2,e,k⟩:=h x hx
 exact ⟨σ2,e,fun Q q=>q,fun _=>k⟩
theorem compL_inv {g:Tg} {tc:TT3} {te:TE3} {σ':St3} {keep:Sto→Prop} {fin:List PV→Sto→Prop} {items:List PV} (Iv:List PV→List PV→Sto→Prop) (hk:∀ done ys S,Iv done ys S→keep S∧ys.length ≤ sizeLine)
  (step:∀ done x rest ys S (K:List PV→Sto→Prop),items = done ++ x :: rest→Iv done ys S→(∀ ys' S',Iv (done ++ [x]) ys' S'→K ys' S')→match g.put x σ' with
   | some σ2=>tc σ2 S (fun b S3=>if b = true then te σ2 S3 (fun y S4=>K (ys ++ [y]) S4) noX else K ys S3) noX
   | none=>False)
  (hf:∀ ys S,Iv items ys S→fin ys S):∀ (rest done ys:List PV) (S:Sto),items = done ++ rest→Iv done ys S→compL g tc te σ' keep fin rest ys S
 | [],done,ys,S,e,h=>by
  rw [List.append_nil] at e
  exact ⟨(hk _ _ _ h).1,(hk _ _ _ h).2,hf ys S (e ▸ h)⟩
 | x :: rest,done,ys,S,e,h=>by
  refine ⟨(hk _ _ _ h).1,(hk _ _ _ h).2,?_⟩
  exact step done x rest ys S (fun ys' S'=>compL g tc te σ' keep fin rest ys' S') e h fun ys' S' h'=>compL_inv Iv hk step hf rest (done ++ [x]) ys' S' (by rw [e]; simp) h'
theorem forL_inv {g:Tg} {tb:TS3} {D:Ends3} {keep:Sto→Prop} {items:List PV} (Iv:List PV→St3→Sto→Prop) (hk:∀ done σ S,Iv done σ S→keep S)
  (step:∀ done x rest σ S (K:St3→Sto→Prop),items = done ++ x :: rest→Iv done σ S→(∀ σ' S',Iv (done ++ [x]) σ' S'→K σ' S')→match g.put x σ with
   | some σ'=>tb { D with nx:=K,ct:=K,bk:=D.nx } σ' S
   | none=>False)
  (hd:∀ σ S,Iv items σ S→D.nx σ S):∀ (rest done:List PV) (σ:St3) (S:Sto),items = done ++ rest→Iv done σ S→forL g tb D keep rest σ S
 | [],done,σ,S,e,h=>by
  rw [List.append_nil] at e
  exact ⟨hk _ _ _ h,hd σ S (e ▸ h)⟩
 | x :: rest,done,σ,S,e,h=>
  ⟨hk _ _ _ h,step done x rest σ S (forL g tb D keep rest) e h fun σ' S' h'=>forL_inv Iv hk step hd rest (done ++ [x]) σ' S' (by rw [e]; simp) h'⟩
theorem forL_by {g:Tg} {tb:TS3} {D:Ends3} {keep:Sto→Prop} {items:List PV} {σ:St3} {S:Sto} (Iv:List PV→St3→Sto→Prop) (h0:Iv [] σ S) (hk:∀ done σ S,Iv done σ S→keep S)
  (step:∀ done x rest σ S (K:St3→Sto→Prop),items = done ++ x :: rest→Iv done σ S→(∀ σ' S',Iv (done ++ [x]) σ' S'→K σ' S')→match g.put x σ with
   | some σ'=>tb { D with nx:=K,ct:=K,bk:=D.nx } σ' S
   | none=>False)
  (hd:∀ σ S,Iv items σ S→D.nx σ S):forL g tb D keep items σ S:=forL_inv Iv hk step hd items [] σ S rfl h0
theorem compL_by {g:Tg} {tc:TT3} {te:TE3} {σ':St3} {keep:Sto→Prop} {fin:List PV→Sto→Prop} {items:List PV} {S:Sto} (Iv:List PV→List PV→Sto→Prop) (h0:Iv [] [] S) (hk:∀ done ys S,Iv done ys S→keep S∧ys.length ≤ sizeLine)
  (step:∀ done x rest ys S (K:List PV→Sto→Prop),items = done ++ x :: rest→Iv done ys S→(∀ ys' S',Iv (done ++ [x]) ys' S'→K ys' S')→match g.put x σ' with
   | some σ2=>tc σ2 S (fun b S3=>if b = true then te σ2 S3 (fun y S4=>K (ys ++ [y]) S4) noX else K ys S3) noX
   | none=>False)
  (hf:∀ ys S,Iv items ys S→fin ys S):compL g tc te σ' keep fin items [] S:=compL_inv Iv hk step hf items [] [] S rfl h0
theorem seqS {t u:TS3} {D:Ends3} {σ:St3} {S:Sto} (h:∀ N:St3→Sto→Prop,(∀ σ S,u D σ S→N σ S)→t { D with nx:=N } σ S):cons3 t u D σ S:=h (u D) fun _ _ q=>q
theorem fnS {n:Nat} {b:TS3} {args:List PV} {S:Sto} {Q:VK3} {E:XK3} (h:b { nx:=fun _ S'=>Q .non S',rt:=Q,ex:=noX } (start3 n args) S):fn3 n b args S Q E:=h
theorem cut3_map {α β:Type} (f:α→β) (xs:List α) (lo hi:Option Int):cut3 (xs.map f) lo hi = (cut3 xs lo hi).map f:=by
 unfold cut3
 rw [List.length_map,List.map_take,List.map_drop]
theorem cut3_len {α:Type} (xs:List α) (lo hi:Option Int):(cut3 xs lo hi).length ≤ xs.length:=by
 unfold cut3
 rw [List.length_take,List.length_drop]
 omega
theorem line100 {n:Nat} (h:n ≤ 1000):n ≤ sizeLine:=Nat.le_of_lt (small1000 h)
section
variable {α:Type} {a b c d e:α} {l:List α}
theorem at0:atI (a :: l) 0 = some a:=by simp [atI,ixN]
theorem at1:atI (a :: b :: l) 1 = some b:=atI_nat (j:=1) rfl
theorem at2:atI (a :: b :: c :: l) 2 = some c:=atI_nat (j:=2) rfl
theorem at3:atI (a :: b :: c :: d :: l) 3 = some d:=atI_nat (j:=3) rfl
theorem at4:atI (a :: b :: c :: d :: e :: l) 4 = some e:=atI_nat (j:=4) rfl
theorem atm1_1:atI [a] (-1) = some a:=rfl
theorem atm1_2:atI [a,b] (-1) = some b:=rfl
theorem atm1_3:atI [a,b,c] (-1) = some c:=rfl
theorem atm1_4:atI [a,b,c,d] (-1) = some d:=rfl
theorem atm1_5:atI [a,b,c,d,e] (-1) = some e:=rfl
theorem atm2_2:atI [a,b] (-2) = some a:=rfl
theorem atm2_3:atI [a,b,c] (-2) = some b:=rfl
theorem atm2_4:atI [a,b,c,d] (-2) = some c:=rfl
theorem atm2_5:atI [a,b,c,d,e] (-2) = some d:=rfl
end
theorem ints_len (lo:Int) (n:Nat):(numsFrom lo n).length = n:=by simp [numsFrom]
end L3
namespace C
open PySem L2 L3
noncomputable abbrev DealSpec (w:Sp3):Prop:=∀ {S:Sto} {ns:List Int} {b:Int} {Q:VK3} {E:XK3},ns.length ≤ 63→0 ≤ b→b < 1000→(∀ d l S',S d = none→S l = none→Deal S' d l→Ext S S'→Q (.ref d) S')→w [.cl (ns.map PV.int),.int b] S Q E
theorem sp_deal:DealSpec (fn3 5 b__law_deal):=by
 intro S ns b Q E hn h0 h1 k
 unfold fn3 b__law_deal
 rw [show start3 5 [PV.cl (ns.map PV.int),PV.int b] = [some (.cl (ns.map PV.int)),some (.int b),none,none,none] from rfl]
 walk_at "x"
 intro p hp
 rw [upd3_same]
 dsimp only
 rw [cut3_map]
 have hx:(cut3 ns (some b) (some 63)).length ≤ 63:=Nat.le_trans (cut3_len _ _ _) hn
 generalize cut3 ns (some b) (some 63) = xs at hx
 refine compL_map (fun v=>match v with | .int i=>.int (if 0 - i > i then 0 - i else i) | v=>v) upd3_same (fun x hx=>?_) (line100 (by rw [List.length_map]; omega)) ?_
 ·obtain ⟨i,hi,rfl⟩:=List.mem_map.mp hx
  refine ⟨[some (.int i)],rfl,fun Q q=>?_⟩
  walk_at "x"
  exact q
 intro p2 hp2
 rw [upd3_same]
 dsimp only
 rw [List.map_map]
 have e0:(xs.map ((fun v=>match v with | .int i=>.int (if 0 - i > i then 0 - i else i) | v=>v) ∘ PV.int)) = (xs.map fun i=>if 0 - i > i then 0 - i else i).map PV.int:=by
  rw [List.map_map]; rfl
 rw [e0]
 have hy:((xs.map fun i=>if 0 - i > i then 0 - i else i)).length ≤ 63:=by rw [List.length_map]; exact hx
 have hy0:∀ y ∈ xs.map (fun i:Int=>if 0 - i > i then 0 - i else i),0 ≤ y:=by
  intro y hy
  obtain ⟨i,_,rfl⟩:=List.mem_map.mp hy
  split <;> omega
 generalize (xs.map fun i=>if 0 - i > i then 0 - i else i) = ys at hy hy0
 have h2:p2 ≠ p:=fun e=>by rw [e,upd3_same] at hp2; cases hp2
 have hp2':S p2 = none:=by rw [← hp2,upd3_ne h2]
 refine forL_by (fun done σ S'=>S' = upd3 (upd3 S p (.lst (xs.map PV.int))) p2 (.lst (ys.map PV.int))∧∃ v2 n,0 ≤ n∧n < 2147483647∧σ = [some (.cl (ns.map PV.int)),some (.int b),v2,some (.ref p2),some (.int n)]) ⟨rfl,none,7919 + b,by omega,by omega,rfl⟩ (fun done σ S' h=>by rw [h.1]; exact upd3_same) ?_ ?_
 ·rintro done x rest σ S' K e ⟨rfl,v2,n,n0,n1,rfl⟩ hK
  obtain ⟨i,hi,rfl⟩:∃ i,i ∈ ys∧x = .int i:=by
   have:x ∈ ys.map PV.int:=by rw [e]; simp
   obtain ⟨i,hi,rfl⟩:=List.mem_map.mp this
   exact ⟨i,hi,rfl⟩
  walk_at "x"
  refine ⟨mulR (by decide) (by decide),by decide,by decide,hK _ _ ⟨rfl,_,_,?_,?_,rfl⟩⟩
  ·rw [fmodP (by decide)]; omega
  ·rw [fmodP (i:=(n * 48271 + _)) (by decide)]; omega
 ·rintro σ S' ⟨rfl,v2,n,n0,n1,rfl⟩
  walk_at "x"
  intro d hd
  have hd2:d ≠ p2:=fun e=>by rw [e,upd3_same] at hd; cases hd
  rw [upd3_ne hd2] at hd
  have hd1:d ≠ p:=fun e=>by rw [e,upd3_same] at hd; cases hd
  rw [upd3_ne hd1] at hd
  rw [upd3_ne hd2.symm,upd3_same]
  dsimp only
  refine compL_pure (fun v=>v) (fun v=>match v with | .int i=>decide (10 ^ 18 ≤ i) | _=>false) (by rw [upd3_ne hd2.symm,upd3_same]) _ [] (fun x hx=>?_) (by rw [List.length_map]; exact line100 (by simp; omega)) ?_
  ·obtain ⟨i,hi,rfl⟩:=List.mem_map.mp hx
   refine ⟨[some (.int i)],rfl,fun Q q=>?_,fun _ Q q=>?_⟩
   ·walk_at "x"
    exact ⟨⟨by decide,by decide,by decide⟩,q⟩
   ·walk_at "x"
    exact q
  intro p3 hp3
  rw [upd3_same]
  intro l hl
  have e3:([] ++ List.map (fun v:PV=>v) (List.filter (fun v=>match v with | .int i=>decide (10 ^ 18 ≤ i) | _=>false) (List.map PV.int ys))) = (ys.filter fun i=>decide (10 ^ 18 ≤ i)).map PV.int:=by
   rw [List.nil_append,List.map_id',List.filter_map]
   rfl
  rw [e3] at hl ⊢
  rw [← List.map_reverse]
  generalize hS3:upd3 (upd3 (upd3 (upd3 S p (SO.lst (List.map PV.int xs))) p2 (SO.lst (List.map PV.int ys))) d (SO.dct [])) p3 (SO.lst (List.map PV.int (List.filter (fun i=>decide (10 ^ 18 ≤ i)) ys))) = S3 at hl ⊢
  have hd3:S3 d = some (.dct []):=by rw [← hS3,upd3_ne (fun e=>by rw [← e,upd3_same] at hp3; cases hp3),upd3_same]
  have hld:l ≠ d:=fun e=>by rw [e,hd3] at hl; cases hl
  have hE3:Ext S S3:=by
   rw [← hS3]
   refine (Ext.new hp).trans ((Ext.new hp2).trans ((Ext.new ?_).trans (.new hp3)))
   rw [upd3_ne hd2,upd3_ne hd1]; exact hd
  refine ⟨by rw [upd3_ne hld.symm]; exact hd3,?_⟩
  have e4:keyed [(PV.str "seed",PV.int n),(PV.str "number",PV.int 0),(PV.str "left",PV.ref l)] = some (dealK n 0 l):=rfl
  rw [e4]
  have e5:merge3 [] (dealK n 0 l) = dealK n 0 l:=by simp [merge3,dealK,put3,sS,ofS_inj]
  dsimp only
  rw [e5]
  refine k d l _ hd (hE3.free hl) ⟨n,0,_,upd3_same,by rw [upd3_ne hld,upd3_same],n0,n1,Int.le_refl _,fun y hy=>?_,?_⟩ ?_
  ·exact hy0 y (List.mem_filter.mp (List.mem_reverse.mp hy)).1
  ·rw [List.length_reverse]
   exact Nat.le_trans (List.length_filter_le _ _) (by omega)
  ·intro a o ha
   have had:a ≠ d:=fun e=>by rw [e,hd] at ha; cases ha
   rw [upd3_ne had,upd3_ne (fun e=>by rw [e,hE3.free hl] at ha; cases ha)]
   exact hE3 a o ha
end C
namespace L3
open PySem L2
theorem dats_str (S:Sto):∀ zs:List Str,Dats S (zs.map PV.str) (zs.map PyData.str)
 | []=>.nil
 | z :: r=>.cons (.str z) (dats_str S r)
theorem canLay_strs:∀ {zs:List Str},(∀ z ∈ zs,PyData.strOk z = true)→PyData.canLayAll0 (zs.map PyData.str) = true
 | [],_=>rfl
 | z :: r,h=>by
  show (PyData.canLay0 (.str z) && PyData.canLayAll0 (r.map PyData.str)) = true
  rw [canLay_strs fun y hy=>h y (by simp [hy])]
  have:PyData.canLay0 (.str z) = true:=h z (by simp)
  rw [this]; rfl
theorem inAny_strs (z:Str) (zs:List Str):inAny (.str z) (zs.map PyData.str) = decide (z ∈ zs):=by
 unfold inAny
 rw [List.any_map,Bool.eq_iff_iff,List.any_eq_true,decide_eq_true_iff]
 constructor
 ·rintro ⟨y,hy,e⟩
  have e':(y == z) = true:=e
  exact (eq_of_beq e') ▸ hy
 ·intro h
  exact ⟨z,h,beq_self_eq_true z⟩
theorem in_strs {neg:Bool} {z:Str} {zs:List Str} {a:Addr} {S:Sto} {Q:VK3} (hS:S a = some (.lst (zs.map PV.str))) (hz:PyData.strOk z = true) (hzs:∀ y ∈ zs,PyData.strOk y = true) (q:Q (.bl (neg != decide (z ∈ zs))) S):in3 neg (.str z) (.ref a) S Q:=by
 unfold in3
 simp only [hS]
 exact ⟨_,_,.str z,dats_str S zs,hz,canLay_strs hzs,by show 0 ≤ 150; decide,by rw [inAny_strs]; exact q⟩
theorem in_tstrs {neg:Bool} {z:Str} {zs:List Str} {S:Sto} {Q:VK3} (hz:PyData.strOk z = true) (hzs:∀ y ∈ zs,PyData.strOk y = true) (q:Q (.bl (neg != decide (z ∈ zs))) S):in3 neg (.str z) (.tup (zs.map PV.str)) S Q:=by
 unfold in3
 exact ⟨_,_,.str z,dats_str S zs,hz,canLay_strs hzs,by show 0 ≤ 150; decide,by rw [inAny_strs]; exact q⟩
end L3
namespace C
open PySem L2 L3 Wd
noncomputable abbrev LowSpec (w:Sp3):Prop:=∀ {S:Sto} {t b:Int} {Q:VK3} {E:XK3},0 < b→b.natAbs < 2 ^ 8000→Q (.tup [.int (M3.lowT t b),.int (M3.lowB t b)]) S→w [.int t,.int b] S Q E
theorem sp_low:LowSpec (fn3 4 b__law_low):=by
 intro S t b Q E hb hs k
 unfold fn3 b__law_low
 rw [show start3 4 [PV.int t,PV.int b] = [some (.int t),some (.int b),none,none] from rfl]
 simp only [cons3]
 walk_at "x"
 refine ⟨fun n σ S'=>S' = S∧∃ x y:Int,σ = [some (.int t),some (.int b),some (.int x),some (.int y)]∧0 ≤ x∧0 ≤ y∧Int.gcd x y = Int.gcd t b∧y.toNat = n,⟨_,rfl,_,b,rfl,by split <;> omega,by omega,?_,rfl⟩,?_⟩
 ·split
  ·rw [show (0 - t) = -t by omega,Int.neg_gcd]
  ·rfl
 rintro n σ S' ⟨rfl,x,y,rfl,hx,hy,hg,rfl⟩
 walk_at "x"
 simp only [decide_eq_true_eq]
 split
 ·rename_i hp
  refine ⟨fun σ' S''=>S'' = S'∧∃ x' y':Int,σ' = [some (.int t),some (.int b),some (.int x'),some (.int y')]∧0 ≤ x'∧0 ≤ y'∧Int.gcd x' y' = Int.gcd t b∧y'.toNat < y.toNat,?_,?_⟩
  ·rintro σ' S'' ⟨rfl,x',y',rfl,h1,h2,h3,h4⟩
   exact ⟨_,h4,rfl,x',y',rfl,h1,h2,h3,rfl⟩
  ·walk_at "x"
   have e:x.fmod y = x % y:=fmodP hy
   have l1:=Int.emod_nonneg x (b:=y) (by omega)
   have l2:=Int.emod_lt_of_pos x hp
   refine ⟨by omega,trivial,y,x.fmod y,rfl,hy,by omega,?_,by omega⟩
   rw [M3.fmod_gcd]; exact hg
 ·rename_i hp
  have hy0:y = 0:=by omega
  subst hy0
  have hxg:x = (Int.gcd t b:Int):=by
   rw [← hg]
   rw [Int.gcd_zero_right]
   omega
  subst hxg
  have gp:(0:Int) < (Int.gcd t b:Int):=Int.natCast_pos.mpr (M3.gcd_pos (by omega))
  have gl:=M3.gcd_le (t:=t) (b:=b) (by omega)
  have cd:∀ z,CDiv3 z (Int.gcd t b:Int):=fun z=>⟨by omega,Nat.lt_of_le_of_lt (by omega) hs⟩
  refine ⟨cd _,cd _,?_⟩
  have d1:=(M3.fdiv_low (t:=t) (b:=b) (by omega))
  rw [if_neg (by omega)] at d1
  rw [d1.1,d1.2]
  exact k
structure Cost (x y:Int):Prop where
 low:M3.Low x y
 x0:0 ≤ x
 x1:x ≤ 999
 y1:y ≤ 9
theorem small8000 {n:Nat} (h:n < 2 ^ 64):n < 2 ^ 8000:=Nat.lt_trans h (Nat.pow_lt_pow_right (by decide) (by decide))
noncomputable abbrev CostSpec (w:Sp3):Prop:=∀ {S:Sto} {d l:Addr} {Q:VK3} {E:XK3},Deal S d l→(∀ x y S',Cost x y→Deal S' d l→Oth d l S S'→Q (.tup [.int x,.int y]) S')→w [.ref d] S Q E
theorem sp_cost {wd wl:Sp3} (sp_draw:DrawSpec wd) (sp_low:LowSpec wl):CostSpec (fn3 2 (b__law_cost wd wl)):=by
 intro S d l Q E D k
 unfold fn3 b__law_cost
 rw [show start3 2 [PV.ref d] = [some (.ref d),none] from rfl]
 walk_at "x"
 refine sp_draw D (by decide) (by decide) fun r S1 r0 r1 D1 O1=>?_
 simp only [Bool.false_bne,decide_eq_true_eq]
 split
 ·exact k 0 1 S1 ⟨⟨by decide,by decide⟩,by decide,by decide,by decide⟩ D1 O1
 ·split
  ·refine sp_draw D1 (by decide) (by decide) fun r2 S2 a0 a1 D2 O2=>?_
   exact k _ 1 S2 ⟨⟨by decide,Int.gcd_one_right _⟩,by omega,by omega,by decide⟩ D2 (O1.trans O2)
  ·refine sp_draw D1 (by decide) (by decide) fun r2 S2 a0 a1 D2 O2=>sp_draw D2 (by decide) (by decide) fun r3 S3 b0 b1 D3 O3=>?_
   refine sp_low (by omega) (small8000 (by omega)) ?_
   have z:=M3.low_size (t:=r2) (b:=1 + r3) (T:=999) (B:=9) (by omega) (by omega) (by omega) (by omega) (by omega) (by decide) (by decide)
   refine k _ _ S3 ⟨M3.low_low (by omega),?_,z.2.1,z.2.2.2⟩ D3 (O1.trans (O2.trans O3))
   unfold M3.lowT
   rw [if_neg (by omega)]
   exact Int.ediv_nonneg a0 (by omega)
theorem at_letter {r:Int} (h0:0 ≤ r) (h1:r < 26):∃ c,atI abc.cps.toList r = some c∧97 ≤ c∧c ≤ 122:=by
 obtain ⟨n,rfl⟩:=Int.eq_ofNat_of_zero_le h0
 have q:=at_abc n
 rw [Nat.mod_eq_of_lt (by omega)] at q
 exact ⟨_,q,by omega,by omega⟩
theorem isW_ok {z:Str} (h:IsW z):PyData.strOk z = true:=by
 unfold PyData.strOk
 rw [Array.all_eq_true']
 intro c hc
 have:=h.sm c (by simpa using hc)
 simp; omega
theorem kept_ok:∀ z ∈ keptS,PyData.strOk z = true:=by decide +kernel
theorem texts_map:∀ zs:List Str,texts (zs.map PV.str) = some zs
 | []=>rfl
 | z :: r=>by show (texts (r.map PV.str)).map (z :: ·) = _; rw [texts_map r]; rfl
theorem empty_len:("":Str).length = 0:=by decide +kernel
theorem sgn_bound {cs:List Nat} (h:cs.length ≤ 1000):((cs.map sgn).map (·.length)).sum + (cs.map sgn).length * ("":Str).length ≤ 1000000:=by
 rw [sum_sgn,empty_len]
 omega
theorem sp_letters {w__law_draw:Sp3} (sp_draw:DrawSpec w__law_draw) {S:Sto} {d l:Addr} {σ:St3} {n:Int} {fin:List PV→Sto→Prop} (D:Deal S d l) (hn:n.toNat ≤ 100) (h1:lk σ 1 = some (.ref d)) (h2:lk σ 2 = some (.str abc)) (hσ:∃ x,σ = [x,some (.ref d),some (.str abc)])
  (k:∀ (cs:List Nat) S',cs.length = n.toNat→(∀ c ∈ cs,97 ≤ c∧c ≤ 122)→Deal S' d l→Oth d l S S'→fin ((cs.map sgn).map PV.str) S') :
  compL (Tg.n 0) yes3 (op3 idx3 (v3 2) (call3 w__law_draw [v3 1,c3 (.int 26)])) σ (fun _=>True) fin (numsFrom 0 n.toNat) [] S:=by
 obtain ⟨x0,rfl⟩:=hσ
 refine compL_by (fun done ys S'=>∃ cs:List Nat,ys = (cs.map sgn).map PV.str∧cs.length = done.length∧done.length ≤ n.toNat∧(∀ c ∈ cs,97 ≤ c∧c ≤ 122)∧Deal S' d l∧Oth d l S S') ⟨[],rfl,rfl,Nat.zero_le _,by simp,D,.refl⟩ ?_ ?_ ?_
 ·rintro done ys S' ⟨cs,rfl,e,hd,_⟩
  exact ⟨trivial,line100 (by rw [List.length_map,List.length_map,e]; omega)⟩
 ·rintro done x rest ys S' K e ⟨cs,rfl,e2,hd,hc,D',O'⟩ hK
  have hlen:done.length + 1 ≤ n.toNat:=by
   have:=congrArg List.length e
   rw [ints_len,List.length_append,List.length_cons] at this
   omega
  walk_at "x"
  simp only [yes3,if_true]
  refine sp_draw D' (by decide) (by decide) fun r S2 r0 r1 D2 O2=>⟨abc_len.1,?_⟩
  obtain ⟨c,ec,c0,c1⟩:=at_letter r0 r1
  rw [ec]
  refine hK _ _ ⟨cs ++ [c],by simp,by simp [e2],by simpa using hlen,fun y hy=>?_,D2,O'.trans O2⟩
  rcases List.mem_append.mp hy with hy | hy
  ·exact hc y hy
  ·rw [List.mem_singleton.mp hy]; exact ⟨c0,c1⟩
 ·rintro ys S' ⟨cs,rfl,e,hd,hc,D',O'⟩
  exact k cs S' (by rw [e,ints_len]) hc D' O'
theorem one_tail {f:Str→List Nat} (r:List Nat):∀ xs:List Str,(xs.map f).Nodup→(xs.filter fun z=>f z == r).length ≤ 1
 | [],_=>Nat.zero_le _
 | x :: xs,h=>by
  rw [List.map_cons,List.nodup_cons] at h
  rw [List.filter_cons]
  by_cases e:(f x == r) = true
  ·rw [if_pos e]
   have no:(xs.filter fun z=>f z == r) = []:=by
    refine List.filter_eq_nil_iff.mpr fun z hz q=>h.1 ?_
    rw [eq_of_beq e,← eq_of_beq q]
    exact List.mem_map.mpr ⟨z,hz,rfl⟩
   rw [no]
   exact Nat.le_refl _
  ·rw [if_neg e]
   exact one_tail r xs h.2
theorem kept_one (r:List Nat):(keptS.filter fun z=>z.cps.toList.tail == r).length ≤ 1:=one_tail (f:=fun z=>z.cps.toList.tail) r keptS (by decide +kernel)
theorem cand_free2 (r:List Nat) (c:Nat) (ns:List Str) (h:ns.length < 17):∃ j,j < 26∧cand r (c + j) ∉ keptS ++ ns:=by
 obtain ⟨j,hj,free⟩:=cand_free r c ((keptS.filter fun z=>z.cps.toList.tail == r) ++ ns) (by rw [List.length_append]; have:=kept_one r; omega)
 refine ⟨j,hj,fun hm=>free ?_⟩
 rcases List.mem_append.mp hm with q | q
 ·exact List.mem_append_left _ (List.mem_filter.mpr ⟨q,by simp [cand]⟩)
 ·exact List.mem_append_right _ q
noncomputable abbrev WordsSpec (w:Sp3):Prop:=∀ {S:Sto} {d l:Addr} {m:Int} {Q:VK3} {E:XK3},Deal S d l→0 ≤ m→m ≤ 17→(∀ p (ns:List Str) S',ns.length = m.toNat→ns.Nodup→(∀ z ∈ ns,IsW z∧z ∉ keptS)→S p = none→p ≠ d→p ≠ l→S' p = some (.lst (ns.map PV.str))→Deal S' d l→Oth d l S S'→Q (.ref p) S')→w [.ref d,.int m] S Q E
theorem sp_words {wd:Sp3} (sp_draw:DrawSpec wd):WordsSpec (fn3 11 (b__law_words wd)):=by
 intro S d l m Q E D h0 h1 k
 unfold b__law_words
 refine fnS ?_
 rw [show start3 11 [PV.ref d,PV.int m] = [some (.ref d),some (.int m),none,none,none,none,none,none,none,none,none] from rfl]
 refine seqS fun N hN=>?_
 walk_at "x"
 refine hN _ _ (seqS fun N hN=>?_)
 walk_at "x"
 intro pT hT
 have dT:=D.free hT
 have D0:Deal (upd3 S pT (.lst (keptS.map PV.str))) d l:=D.new hT
 have hT0:(upd3 S pT (.lst (keptS.map PV.str))) pT = some (.lst (keptS.map PV.str)):=upd3_same
 have O0:Oth d l S (upd3 S pT (.lst (keptS.map PV.str))):=.new hT
 have eK:[PV.str "jars",PV.str "deed",PV.str "rest",PV.str "pay",PV.str "put",PV.str "then",PV.str "either",PV.str "take",PV.str "often",PV.str "use"] = keptS.map PV.str:=rfl
 rw [eK]
 generalize upd3 S pT (.lst (keptS.map PV.str)) = S0 at D0 hT0 O0 ⊢
 refine hN _ _ (seqS fun N hN=>?_)
 walk_at "x"
 refine ⟨trivial,sp_draw D0 (by decide) (by decide) fun n S1 n0 n1 D1 O1=>⟨by omega,by omega,?_⟩⟩
 refine sp_letters sp_draw D1 (by omega) rfl rfl ⟨_,rfl⟩ fun cs S2 hl hc D2 O2 pj hj=>?_
 simp only [join3,upd3_same,texts_map]
 refine ⟨sgn_bound (by omega),?_⟩
 rw [show Txt.join (Str.ofString "") (cs.map sgn) = ⟨cs.toArray⟩ from join_signs cs]
 refine hN _ _ (seqS fun N hN=>?_)
 walk_at "x"
 have hcl:cs.length ≤ 5:=by omega
 have lc:(⟨cs.toArray⟩:Str).length = cs.length:=List.size_toArray
 refine ⟨by rw [lc]; exact line100 (by omega),sp_draw (D2.new hj) (by rw [lc]; omega) (by rw [lc]; omega) fun at' S3 a0 a1 D3 O3=>sp_draw D3 (by decide) (by decide) fun tu S4 t0 t1 D4 O4=>sp_draw D4 (by decide) (by decide) fun nr S5 r0 r1 D5 O5=>?_⟩
 rw [lc] at a1
 obtain ⟨an,rfl⟩:=Int.eq_ofNat_of_zero_le a0
 obtain ⟨tn,rfl⟩:=Int.eq_ofNat_of_zero_le t0
 refine hN _ _ (seqS fun N hN=>?_)
 walk_at "x"
 intro q hq
 have dq:=D5.free hq
 have OA:Oth d l S0 S5:=O1.trans (O2.trans ((Oth.new hj).trans (O3.trans (O4.trans O5))))
 have hT5:=OA _ _ hT0 dT.1 dT.2
 have hTq:pT ≠ q:=fun e=>by rw [e,hq] at hT5; cases hT5
 have hSq:S q = none:=by
  cases e:S q with
  | none=>rfl
  | some o=>rw [OA _ _ (O0 _ _ e dq.1 dq.2) dq.1 dq.2] at hq; cases hq
 refine hN _ _ (seqS fun N hN=>?_)
 simp only [for3,rng1,v3,lk]
 refine ⟨by omega,by omega,?_⟩
 refine forL_by (fun done σ S'=>∃ (ns:List Str) (v4 v10:Option PV) (near:Bool),σ = [some (.ref d),some (.int m),some (.str abc),some (.ref pT),v4,some (.str ⟨cs.toArray⟩),some (.int an),some (.int tn),some (.bl near),some (.ref q),v10]∧ns.length = done.length∧ns.Nodup∧(∀ z ∈ ns,IsW z∧z ∉ keptS)∧S' q = some (.lst (ns.map PV.str))∧S' pT = some (.lst (keptS.map PV.str))∧Deal S' d l∧Oth d l S S')
  ⟨[],_,_,_,rfl,rfl,List.nodup_nil,(fun z hz=>nomatch hz),upd3_same,by rw [upd3_ne hTq]; exact hT5,D5.new hq,O0.trans (OA.trans (.new hq))⟩ (fun _ _ _ _=>trivial) ?_ ?_
 ·rintro done x rest σ S6 K e ⟨ns,v4,v10,near,rfl,hl6,nd6,w6,hq6,hT6,D6,O6⟩ hK
  have hlen:done.length < m.toNat:=by
   have:=congrArg List.length e
   rw [ints_len,List.length_append,List.length_cons] at this
   omega
  have hx:x = .int (0 + (done.length:Nat)):=by
   have h2:=congrArg (fun l=>l[done.length]?) e
   simp only [List.getElem?_append_right (Nat.le_refl _),Nat.sub_self,List.getElem?_cons_zero] at h2
   unfold numsFrom at h2
   rw [List.getElem?_map,List.getElem?_range hlen] at h2
   simpa using h2.symm
  subst hx
  -- the tail: a word is changed till it is new,then laid down
  have ql:∀ (z:Str) (v4:Option PV) (S7:Sto),IsW z→S7 q = some (.lst (ns.map PV.str))→S7 pT = some (.lst (keptS.map PV.str))→Deal S7 d l→Oth d l S S7→
    cons3 (while3 (or3 (tst (op3 (in3 false) (v3 10) (v3 3))) (tst (op3 (in3 false) (v3 10) (v3 9)))) (set3 10 (op3 add3 (op3 idx3 (v3 2) (op3 mod3 (op3 add3 (bm3 "str" index3 (v3 2) [(op3 idx3 (v3 10) (c3 (.int 0)))]) (c3 (.int 1))) (c3 (.int 26)))) (slice3 (v3 10) (os3 (c3 (.int 1))) on3))))
     (expr3 (bm3 "list" append3 (v3 9) [(v3 10)])) { nx:=K,rt:=Q,ex:=noX,bk:=N,ct:=K } [some (.ref d),some (.int m),some (.str abc),some (.ref pT),v4,some (.str ⟨cs.toArray⟩),some (.int an),some (.int tn),some (.bl near),some (.ref q),some (.str z)] S7:=by
   intro z v4 S7 hz hq7 hT7 D7 O7
   obtain ⟨i,r,rfl,hi,hr5,hrs⟩:=hz.cand
   obtain ⟨j,hj,free⟩:=cand_free2 r i ns (by omega)
   refine ⟨fun mm σ S'=>∃ t,σ = [some (.ref d),some (.int m),some (.str abc),some (.ref pT),v4,some (.str ⟨cs.toArray⟩),some (.int an),some (.int tn),some (.bl near),some (.ref q),some (.str (cand r (i + t)))]∧S' = S7∧t ≤ j∧mm = j - t,⟨j,0,rfl,rfl,Nat.zero_le _,rfl⟩,?_⟩
   rintro mm σ S' ⟨t,rfl,rfl,ht,rfl⟩
   have hw:=isW_cand hr5 hrs (i + t)
   have nsok:∀ y ∈ ns,PyData.strOk y = true:=fun y hy=>isW_ok (w6 y hy).1
   have go:t < j→∃ N:St3→Sto→Prop,(∀ σ' S'',N σ' S''→∃ m',m' < j - t∧∃ t',σ' = [some (.ref d),some (.int m),some (.str abc),some (.ref pT),v4,some (.str ⟨cs.toArray⟩),some (.int an),some (.int tn),some (.bl near),some (.ref q),some (.str (cand r (i + t')))]∧S'' = S'∧t' ≤ j∧m' = j - t')∧
     N ([some (.ref d),some (.int m),some (.str abc),some (.ref pT),v4,some (.str ⟨cs.toArray⟩),some (.int an),some (.int tn),some (.bl near),some (.ref q),some (.str (cand r (i + (t + 1))))]) S':=fun lt=>
    ⟨fun σ' S''=>σ' = [some (.ref d),some (.int m),some (.str abc),some (.ref pT),v4,some (.str ⟨cs.toArray⟩),some (.int an),some (.int tn),some (.bl near),some (.ref q),some (.str (cand r (i + (t + 1))))]∧S'' = S',fun σ' S'' ⟨e1,e2⟩=>⟨j - (t + 1),by omega,t + 1,e1,e2,by omega,rfl⟩,rfl,rfl⟩
   have e26:((((i + t) % 26:Nat):Int) + 1).fmod 26 = (((i + t + 1) % 26:Nat):Int):=by rw [fmodP (by decide)]; omega
   walk_at "x"
   refine in_strs hT7 (isW_ok hw) kept_ok ?_
   simp only [Bool.false_bne,decide_eq_true_eq]
   split
   ·rename_i g
    have lt:t < j:=Nat.lt_of_le_of_ne ht fun e=>by subst e; exact free (List.mem_append_left _ g)
    obtain ⟨N,hN,hn⟩:=go lt
    rw [if_pos trivial]
    refine ⟨N,hN,trivial,hw.line,?_⟩
    rw [cand_zero]
    simp only [index3,abc_ix _ (Nat.mod_lt _ (by decide))]
    refine ⟨by decide,abc_len.1,?_⟩
    rw [e26,at_abc (i + t + 1)]
    refine ⟨hw.line,?_,?_⟩
    ·rw [cand_rest]
     exact line100 (show 1 + r.toArray.size ≤ 1000 by rw [List.size_toArray]; omega)
    ·rw [cand_rest,cand_next]
     exact hn
   ·rename_i g
    refine in_strs hq7 (isW_ok hw) nsok ?_
    simp only [Bool.false_bne,decide_eq_true_eq]
    split
    ·rename_i g2
     have lt:t < j:=Nat.lt_of_le_of_ne ht fun e=>by subst e; exact free (List.mem_append_right _ g2)
     obtain ⟨N,hN,hn⟩:=go lt
     refine ⟨N,hN,trivial,hw.line,?_⟩
     rw [cand_zero]
     simp only [index3,abc_ix _ (Nat.mod_lt _ (by decide))]
     refine ⟨by decide,abc_len.1,?_⟩
     rw [e26,at_abc (i + t + 1)]
     refine ⟨hw.line,?_,?_⟩
     ·rw [cand_rest]
      exact line100 (show 1 + r.toArray.size ≤ 1000 by rw [List.size_toArray]; omega)
     ·rw [cand_rest,cand_next]
      exact hn
    ·rename_i g2
     simp only [hq7]
     refine ⟨trivial,by rw [List.length_map]; exact small1000 (by omega),hK _ _ ⟨ns ++ [cand r (i + t)],_,_,_,rfl,by simp [hl6],List.nodup_append.mpr ⟨nd6,by simp,fun a ha b hb e=>?_⟩,fun z hz=>?_,by rw [List.map_append]; exact upd3_same,by rw [upd3_ne hTq]; exact hT7,D7.upd dq.1 dq.2,fun a o ha h1 h2=>?_⟩⟩
     ·rw [List.mem_singleton.mp hb] at e
      exact g2 (e ▸ ha)
     ·rcases List.mem_append.mp hz with hz | hz
      ·exact w6 z hz
      ·rw [List.mem_singleton.mp hz]
       exact ⟨hw,g⟩
     ·rw [upd3_ne (fun e=>by rw [e,hSq] at ha; cases ha)]
      exact O7 a o ha h1 h2
  obtain ⟨pw,pl1,pl2⟩:=isW_put hcl hc (a:=an) (i:=(tn + done.length) % 26) (by omega) (Nat.mod_lt _ (by decide))
  have e26:((tn:Int) + (0 + (done.length:Int))).fmod 26 = (((tn + done.length) % 26:Nat):Int):=by rw [fmodP (by decide)]; omega
  have lin:(⟨cs.toArray⟩:Str).length ≤ sizeLine:=by rw [lc]; exact line100 (by omega)
  simp only [Tg.put]
  refine seqS fun N2 hN2=>?_
  walk_at "x"
  refine ⟨lin,by decide,abc_len.1,?_⟩
  rw [e26,at_abc (tn + done.length)]
  refine ⟨Nat.le_trans (Nat.add_le_add pl1 (Nat.le_refl 1)) (by decide),lin,Nat.le_trans (Nat.le_of_eq (Array.size_append).symm) (Nat.le_trans pw.len (by decide)),?_⟩
  refine hN2 _ _ (seqS fun N3 hN3=>?_)
  walk_at "x"
  split
  ·refine ⟨trivial,sp_draw D6 (by decide) (by decide) fun n2 Sa m0 m1 Da Oa=>⟨by omega,by omega,?_⟩⟩
   refine sp_letters sp_draw Da (by omega) rfl rfl ⟨_,rfl⟩ fun cs2 Sb hl2 hc2 Db Ob pj2 hj2=>?_
   simp only [join3,upd3_same,texts_map]
   refine ⟨sgn_bound (by omega),?_⟩
   rw [show Txt.join (Str.ofString "") (cs2.map sgn) = ⟨cs2.toArray⟩ from join_signs cs2]
   refine hN3 _ _ ?_
   have wz:IsW (⟨cs2.toArray⟩:Str):=⟨fun e=>by have e':cs2 = []:=e; rw [e'] at hl2; simp at hl2; omega,by show cs2.length ≤ 6; omega,hc2⟩
   have OB:Oth d l S6 (upd3 Sb pj2 (.lst ((cs2.map sgn).map PV.str))):=Oa.trans (Ob.trans (.new hj2))
   exact ql _ _ _ wz (OB _ _ hq6 dq.1 dq.2) (OB _ _ hT6 dT.1 dT.2) (Db.new hj2) (O6.trans OB)
  ·exact hN3 _ _ (ql _ _ S6 pw hq6 hT6 D6 O6)
 ·rintro σ S6 ⟨ns,v4,v10,near,rfl,hl6,nd6,w6,hq6,hT6,D6,O6⟩
  refine hN _ _ ?_
  walk_at "x"
  exact k q ns S6 (by rw [hl6,ints_len]) nd6 w6 hSq dq.1 dq.2 hq6 D6 O6
inductive Bd where
 | rest | pay (x y:Int) | put (z:Str) (m:Int) | use (z:Str) | oft (a:Bd) | thn (a b:Bd) | eit (a b:Bd) | tak (z:Str) (m:Int) (a b:Bd)
noncomputable def Bd.pv:Bd→PV
 | .rest=>.tup [.str "rest"]
 | .pay x y=>.tup [.str "pay",.tup [.int x,.int y]]
 | .put z m=>.tup [.str "put",.str z,.int m]
 | .use z=>.tup [.str "use",.str z]
 | .oft a=>.tup [.str "often",a.pv]
 | .thn a b=>.tup [.str "then",a.pv,b.pv]
 | .eit a b=>.tup [.str "either",a.pv,b.pv]
 | .tak z m a b=>.tup [.str "take",.str z,.int m,a.pv,b.pv]
noncomputable def Bd.dep:Bd→Nat
 | .oft a=>a.dep + 1
 | .thn a b=>max a.dep b.dep + 1
 | .eit a b=>max a.dep b.dep + 1
 | .tak _ _ a b=>max a.dep b.dep + 1
 | _=>1
noncomputable def Bd.size:Bd→Nat
 | .oft a=>a.size + 1
 | .thn a b=>a.size + b.size + 1
 | .eit a b=>a.size + b.size + 1
 | .tak _ _ a b=>a.size + b.size + 1
 | _=>1
noncomputable def Bd.good (js us:List Str):Bd→Prop
 | .rest=>True
 | .pay x y=>Cost x y
 | .put z m=>z ∈ js∧1 ≤ m∧m ≤ 9
 | .use z=>z ∈ us
 | .oft a=>a.good js us
 | .thn a b=>a.good js us∧b.good js us
 | .eit a b=>a.good js us∧b.good js us
 | .tak z m a b=>z ∈ js∧1 ≤ m∧m ≤ 9∧a.good js us∧b.good js us
theorem Bd.dep_pos (t:Bd):1 ≤ t.dep:=by cases t <;> simp [Bd.dep]
theorem Bd.dep_size:∀ t:Bd,t.dep ≤ t.size
 | .rest=>Nat.le_refl _
 | .pay _ _=>Nat.le_refl _
 | .put _ _=>Nat.le_refl _
 | .use _=>Nat.le_refl _
 | .oft a=>by have:=a.dep_size; simp only [Bd.dep,Bd.size]; omega
 | .thn a b=>by have:=a.dep_size; have:=b.dep_size; simp only [Bd.dep,Bd.size]; omega
 | .eit a b=>by have:=a.dep_size; have:=b.dep_size; simp only [Bd.dep,Bd.size]; omega
 | .tak _ _ a b=>by have:=a.dep_size; have:=b.dep_size; simp only [Bd.dep,Bd.size]; omega
theorem at_draw {α:Type} {xs:List α} {r:Int} (h0:0 ≤ r) (h1:r < xs.length):∃ v,atI xs r = some v∧v ∈ xs:=by
 obtain ⟨n,rfl⟩:=Int.eq_ofNat_of_zero_le h0
 have hn:n < xs.length:=by omega
 exact ⟨xs[n],atI_nat (by simp [hn]),List.getElem_mem hn⟩
noncomputable def Bd.leaf:Bd→Prop
 | .rest=>True
 | .pay _ _=>True
 | .put _ _=>True
 | _=>False
theorem Bd.leaf_dep {t:Bd} (h:t.leaf):t.dep = 1∧t.size = 1:=by cases t <;> first | exact ⟨rfl,rfl⟩ | exact h.elim
noncomputable abbrev LeafSpec (w:Sp3):Prop:=∀ {S:Sto} {d l:Addr} {js:List Str} {Q:VK3} {E:XK3},Deal S d l→js.length < 2 ^ 61→(∀ (t:Bd) S',t.leaf→t.good js []→Deal S' d l→Oth d l S S'→Q t.pv S')→w [.ref d,.tup (js.map PV.str)] S Q E
theorem sp_leaf {wd wc:Sp3} (sp_draw:DrawSpec wd) (sp_cost:CostSpec wc):LeafSpec (fn3 4 (b__law_leaf wd wc)):=by
 intro S d l js Q E D hj k
 unfold b__law_leaf
 refine fnS ?_
 rw [show start3 4 [PV.ref d,PV.tup (js.map PV.str)] = [some (.ref d),some (.tup (js.map PV.str)),none,none] from rfl]
 refine seqS fun N hN=>?_
 walk_at "x"
 refine sp_draw D (by decide) (by decide) fun r S1 r0 r1 D1 O1=>?_
 refine hN _ _ (seqS fun N hN=>?_)
 walk_at "x"
 simp only [Bool.false_bne,decide_eq_true_eq]
 split
 ·exact k .rest S1 trivial trivial D1 O1
 refine hN _ _ (seqS fun N hN=>?_)
 walk_at "x"
 simp only [Bool.false_bne,decide_eq_true_eq,List.length_map]
 have pay:wc [.ref d] S1 (fun x S=>Q (.tup [.str "pay",x]) S) noX:=sp_cost D1 fun x y S2 c D2 O2=>k (.pay x y) S2 trivial c D2 (O1.trans O2)
 split
 ·rw [if_pos trivial]; exact pay
 split
 ·exact pay
 rename_i hr hz
 refine hN _ _ (seqS fun N hN=>?_)
 walk_at "x"
 refine sp_draw D1 (by decide) (by decide) fun r2 S2 a0 a1 D2 O2 p hp=>sp_draw (D2.new hp) (by decide) (by decide) fun r3 S3 b0 b1 D3 O3=>?_
 have dp:=D2.free hp
 have hp3:=O3 _ _ (upd3_same (S:=S2) (o:=.lst [.int 1,.int 2,.int (1 + r2)])) dp.1 dp.2
 simp only [hp3]
 obtain ⟨v,hv,hm⟩:=at_draw (xs:=[PV.int 1,.int 2,.int (1 + r2)]) b0 (by simpa using b1)
 rw [hv]
 obtain ⟨m,rfl,m0,m1⟩:∃ m,v = .int m∧1 ≤ m∧m ≤ 9:=by
  simp only [List.mem_cons,List.not_mem_nil,or_false] at hm
  rcases hm with rfl | rfl | rfl
  ·exact ⟨1,rfl,by omega,by omega⟩
  ·exact ⟨2,rfl,by omega,by omega⟩
  ·exact ⟨1 + r2,rfl,by omega,by omega⟩
 refine hN _ _ ?_
 walk_at "x"
 simp only [List.length_map]
 refine sp_draw D3 (by omega) (by omega) fun r4 S4 c0 c1 D4 O4=>?_
 obtain ⟨w,hw,hwm⟩:=at_draw (xs:=js.map PV.str) c0 (by rw [List.length_map]; exact c1)
 dsimp only
 rw [hw]
 obtain ⟨z,hz,rfl⟩:=List.mem_map.mp hwm
 exact k (.put z m) S4 trivial ⟨hz,m0,m1⟩ D4 (O1.trans (O2.trans ((Oth.new hp).trans (O3.trans O4))))
noncomputable def OthX (d l x:Addr) (S S':Sto):Prop:=∀ a o,S a = some o→a ≠ d→a ≠ l→a ≠ x→S' a = some o
theorem _root_.L3.Oth.x {d l x:Addr} {S S':Sto} (h:Oth d l S S'):OthX d l x S S':=fun a o e h1 h2 _=>h a o e h1 h2
theorem OthX.trans {d l x:Addr} {S S1 S2:Sto} (a:OthX d l x S S1) (b:OthX d l x S1 S2):OthX d l x S S2:=fun y o h h1 h2 h3=>b y o (a y o h h1 h2 h3) h1 h2 h3
theorem OthX.upd {d l x:Addr} {S:Sto} {o:SO}:OthX d l x S (upd3 S x o):=fun y u h h1 h2 h3=>by rw [upd3_ne h3]; exact h
noncomputable abbrev BodySpec (n:Nat) (w:Sp3):Prop:=∀ {S:Sto} {d l x:Addr} {js:List Str} {left down:Int} {Q:VK3} {E:XK3},Deal S d l→S x = some (.lst [.int left])→x ≠ d→x ≠ l→js.length < 2 ^ 61→0 ≤ left→left < 2 ^ 61→0 ≤ down→down < n→
  (∀ (t:Bd) S' left',t.good js []→(t.dep:Int) ≤ down + 1→0 ≤ left'→(t.size:Int) + left' ≤ left + 1→Deal S' d l→S' x = some (.lst [.int left'])→OthX d l x S S'→Q t.pv S')→w [.ref d,.tup (js.map PV.str),.ref x,.int down] S Q E
theorem sp_body {wd wl rb:Sp3} (sp_draw:DrawSpec wd) (sp_leaf:LeafSpec wl) (n:Nat) (ih:BodySpec n rb):BodySpec (n + 1) (fn3 8 (b__law_body wd wl rb)):=by
 intro S d l x js left down Q E D hx hxd hxl hj h0 h1 h2 h3 k
 unfold b__law_body
 refine fnS ?_
 rw [show start3 8 [PV.ref d,PV.tup (js.map PV.str),PV.ref x,PV.int down] = [some (.ref d),some (.tup (js.map PV.str)),some (.ref x),some (.int down),none,none,none,none] from rfl]
 refine seqS fun N hN=>?_
 walk_at "x"
 refine sp_draw D (by decide) (by decide) fun r S1 r0 r1 D1 O1=>?_
 have hx1:=O1 _ _ hx hxd hxl
 refine hN _ _ (seqS fun N hN=>?_)
 walk_at "x"
 have a0:atI [PV.int left] 0 = some (.int left):=rfl
 simp only [Bool.false_bne,decide_eq_true_eq,hx1,a0]
 have lf:wl [.ref d,.tup (js.map PV.str)] S1 Q noX:=sp_leaf D1 hj fun t S2 hl hg D2 O2=>k t S2 left hg (by rw [(Bd.leaf_dep hl).1]; omega) h0 (by rw [(Bd.leaf_dep hl).2]; omega) D2 (O2 _ _ hx1 hxd hxl) (O1.x.trans O2.x)
 split
 ·rw [if_pos trivial]; exact lf
 split
 ·rw [if_pos trivial]; exact lf
 split
 ·exact lf
 rename_i hd hl hf
 refine hN _ _ (seqS fun N hN=>?_)
 simp only [if3,tst,op3,v3,c3,lk,lt3,int3,decide_eq_true_eq]
 have ix0:ixN [PV.int left].length 0 = some 0:=rfl
 split
 ·refine seqS fun N2 hN2=>?_
  walk_at "x"
  simp only [hx1,a0,ix0]
  refine hN2 _ _ ?_
  walk_at "x"
  refine ih (left:=left - 1) (D1.upd hxd hxl) upd3_same hxd hxl hj (by omega) (by omega) (by omega) (by omega) fun t S2 l2 hg hdp q0 q1 D2 hx2 O2=>?_
  exact k (.oft t) S2 l2 hg (by simp only [Bd.dep]; omega) q0 (by simp only [Bd.size]; omega) D2 hx2 (O1.x.trans (OthX.upd.trans O2))
 ·refine hN _ _ (seqS fun N hN=>?_)
  walk_at "x"
  simp only [hx1,a0,ix0]
  refine hN _ _ (seqS fun N hN=>?_)
  walk_at "x"
  refine ih (left:=left - 2) (D1.upd hxd hxl) upd3_same hxd hxl hj (by omega) (by omega) (by omega) (by omega) fun ta S2 l2 ga da q0 q1 D2 hx2 O2=>?_
  refine hN _ _ (seqS fun N hN=>?_)
  walk_at "x"
  refine ih (left:=l2) D2 hx2 hxd hxl hj q0 (by omega) (by omega) (by omega) fun tb S3 l3 gb db p0 p1 D3 hx3 O3=>?_
  have OA:OthX d l x S S3:=O1.x.trans (OthX.upd.trans (O2.trans O3))
  refine hN _ _ (seqS fun N hN=>?_)
  walk_at "x"
  simp only [decide_eq_true_eq]
  split
  ·exact k (.thn ta tb) S3 l3 ⟨ga,gb⟩ (by simp only [Bd.dep]; omega) p0 (by simp only [Bd.size]; omega) D3 hx3 OA
  refine hN _ _ (seqS fun N hN=>?_)
  walk_at "x"
  simp only [Bool.false_bne,decide_eq_true_eq,List.length_map]
  have ei:Q (Bd.eit ta tb).pv S3:=k (.eit ta tb) S3 l3 ⟨ga,gb⟩ (by simp only [Bd.dep]; omega) p0 (by simp only [Bd.size]; omega) D3 hx3 OA
  split
  ·rw [if_pos trivial]; exact ei
  split
  ·exact ei
  rename_i hz8 hz
  refine hN _ _ (seqS fun N hN=>?_)
  walk_at "x"
  refine sp_draw D3 (by decide) (by decide) fun r2 S4 e0 e1 D4 O4 p hp=>sp_draw (D4.new hp) (by decide) (by decide) fun r3 S5 b0 b1 D5 O5=>?_
  have dp:=D4.free hp
  have hp3:=O5 _ _ (upd3_same (S:=S4) (o:=.lst [.int 1,.int 1,.int 2,.int (1 + r2)])) dp.1 dp.2
  simp only [hp3]
  obtain ⟨v,hv,hm⟩:=at_draw (xs:=[PV.int 1,.int 1,.int 2,.int (1 + r2)]) b0 (by simpa using b1)
  rw [hv]
  obtain ⟨m,rfl,m0,m1⟩:∃ m,v = .int m∧1 ≤ m∧m ≤ 9:=by
   simp only [List.mem_cons,List.not_mem_nil,or_false] at hm
   rcases hm with rfl | rfl | rfl | rfl
   ·exact ⟨1,rfl,by omega,by omega⟩
   ·exact ⟨1,rfl,by omega,by omega⟩
   ·exact ⟨2,rfl,by omega,by omega⟩
   ·exact ⟨1 + r2,rfl,by omega,by omega⟩
  refine hN _ _ ?_
  walk_at "x"
  simp only [List.length_map]
  refine sp_draw D5 (by omega) (by omega) fun r4 S6 c0 c1 D6 O6=>?_
  obtain ⟨w,hw,hwm⟩:=at_draw (xs:=js.map PV.str) c0 (by rw [List.length_map]; exact c1)
  dsimp only
  rw [hw]
  obtain ⟨z,hz,rfl⟩:=List.mem_map.mp hwm
  have hx4:=O4 _ _ hx3 hxd hxl
  have hxp:x ≠ p:=fun e=>by rw [e,hp] at hx4; cases hx4
  have hx6:=O6 _ _ (O5 _ _ (show upd3 S4 p _ x = some (.lst [.int l3]) by rw [upd3_ne hxp]; exact hx4) hxd hxl) hxd hxl
  exact k (.tak z m ta tb) S6 l3 ⟨hz,m0,m1,ga,gb⟩ (by simp only [Bd.dep]; omega) p0 (by simp only [Bd.size]; omega) D6 hx6 (OA.trans (O4.x.trans ((Oth.new hp).x.trans (O5.x.trans O6.x))))
end C
local macro_rules | `(tactic| walk_at "w")=>`(tactic| simp only [L3.cons3,L3.set3,L3.ret3,L3.expr3,L3.if3,L3.nil3,L3.op3,L3.v3,L3.c3,L3.lk,L3.args3,L3.callB3,L3.call3,L3.bm3,L3.tst,L3.and3,L3.or3,L3.not3,L3.andv3,L3.orv3,L3.notv3,L3.ife3,L3.sub3,L3.par3,L3.three3,L3.tup3,L3.lst3,L3.un3,L3.neg3,L3.idx3,L3.key3,L3.slice3,L3.on3,L3.os3,L3.slr3,L3.int3,L3.intc3,L3.sub3',L3.mod3,L3.fdiv3,L3.pow3,L3.lt3,L3.le3,L3.gt3,L3.ge3,L3.eq3,L3.is3,L3.add3,L3.mul3,L3.len3,L3.abs3,L3.max23,L3.min23,L3.tint3,L3.ttuple3,L3.tlist3,L3.seq3,List.set_cons_zero,List.set_cons_succ,List.set_nil,L3.ty3,L3.setIt3,L3.pop3,L3.comp3,L3.iter3,L3.srcOf,L3.for3,L3.blk3,L3.Tg.put,L3.Tg.puts,L3.asg3,L3.disp3,L3.pairs3,L3.lrev3,L3.rng1,L3.rng2,L3.enum3,L3.zip3,L3.append3,L3.extend3,L3.rev3,List.reduceReplicate,List.map_cons,List.map_nil,List.cons_append,List.nil_append,L3.at0,L3.at1,L3.at2,L3.at3,L3.at4,L3.atm1_1,L3.atm1_2,L3.atm1_3,L3.atm1_4,L3.atm1_5,L3.atm2_2,L3.atm2_3,L3.atm2_4,L3.atm2_5,L3.ofS_inj,String.reduceEq,decide_true,decide_false,Bool.false_bne,Bool.true_bne,Bool.not_true,Bool.not_false,if_true,if_false,Bool.false_eq_true,reduceIte,ite_true,ite_false,L3.callX3,L3.raise3,L3.xfld3])
local macro_rules | `(tactic| walk_at "y")=>`(tactic| ((try walk_at "x"); (try walk_at "w")))
namespace C
open PySem L2 L3 Wd
noncomputable def Bd.pcount:Bd→Nat
 | .thn a b=>a.pcount * b.pcount
 | .eit a b=>a.pcount + b.pcount
 | .tak _ _ a b=>a.pcount + b.pcount
 | _=>1
noncomputable def Bd.rcount:Bd→Nat
 | .oft a=>a.pcount + a.rcount
 | .thn a b=>a.rcount + b.rcount
 | .eit a b=>a.rcount + b.rcount
 | .tak _ _ a b=>a.rcount + b.rcount
 | _=>0
theorem Bd.pcount_le:∀ t:Bd,t.pcount ≤ 2 ^ t.size
 | .rest=>by simp [Bd.pcount,Bd.size]
 | .pay _ _=>by simp [Bd.pcount,Bd.size]
 | .put _ _=>by simp [Bd.pcount,Bd.size]
 | .use _=>by simp [Bd.pcount,Bd.size]
 | .oft a=>by simp only [Bd.pcount,Bd.size]; exact Nat.one_le_two_pow
 | .thn a b=>by
  simp only [Bd.pcount,Bd.size]
  refine Nat.le_trans (Nat.mul_le_mul a.pcount_le b.pcount_le) ?_
  rw [← Nat.pow_add]
  exact Nat.pow_le_pow_right (by decide) (by omega)
 | .eit a b=>by
  simp only [Bd.pcount,Bd.size]
  have h1:2 ^ a.size ≤ 2 ^ (a.size + b.size):=Nat.pow_le_pow_right (by decide) (by omega)
  have h2:2 ^ b.size ≤ 2 ^ (a.size + b.size):=Nat.pow_le_pow_right (by decide) (by omega)
  have:=a.pcount_le
  have:=b.pcount_le
  rw [Nat.pow_succ]
  omega
 | .tak _ _ a b=>by
  simp only [Bd.pcount,Bd.size]
  have h1:2 ^ a.size ≤ 2 ^ (a.size + b.size):=Nat.pow_le_pow_right (by decide) (by omega)
  have h2:2 ^ b.size ≤ 2 ^ (a.size + b.size):=Nat.pow_le_pow_right (by decide) (by omega)
  have:=a.pcount_le
  have:=b.pcount_le
  rw [Nat.pow_succ]
  omega
theorem Bd.pcount_lt {t:Bd} (h:t.size ≤ 60):(t.pcount:Int) < 2 ^ 64:=by
 have h1:=t.pcount_le
 have h2:2 ^ t.size ≤ 2 ^ 60:=Nat.pow_le_pow_right (by decide) h
 omega
noncomputable abbrev PCountSpec (n:Nat) (w:Sp3):Prop:=∀ {S:Sto} {t:Bd} {Q:VK3} {E:XK3},t.dep ≤ n→t.size ≤ 60→Q (.int t.pcount) S→w [t.pv] S Q E
theorem sp_pcount {s0:Sp3} (n:Nat) (ih:PCountSpec n s0):PCountSpec (n + 1) (fn3 1 (b__law_pass_count s0)):=by
 intro S t Q E hd hs k
 unfold b__law_pass_count
 refine fnS ?_
 rw [show start3 1 [t.pv] = [some t.pv] from rfl]
 cases t with
 | thn a b=>
  simp only [Bd.dep,Bd.size] at hd hs
  simp only [Bd.pv]
  walk_at "w"
  refine ih (by omega) (by omega) (ih (by omega) (by omega) ⟨mulL (by omega) (Bd.pcount_lt (by omega)),?_⟩)
  simpa [Bd.pcount] using k
 | eit a b=>
  simp only [Bd.dep,Bd.size] at hd hs
  simp only [Bd.pv]
  walk_at "w"
  refine ih (by omega) (by omega) (ih (by omega) (by omega) ?_)
  simpa [Bd.pcount] using k
 | tak z m a b=>
  simp only [Bd.dep,Bd.size] at hd hs
  simp only [Bd.pv]
  walk_at "w"
  refine ih (by omega) (by omega) (ih (by omega) (by omega) ?_)
  simpa [Bd.pcount] using k
 | _=>
  simp only [Bd.pv]
  walk_at "w"
  exact k
noncomputable abbrev RCountSpec (n:Nat) (w:Sp3):Prop:=∀ {S:Sto} {t:Bd} {Q:VK3} {E:XK3},t.dep ≤ n→t.size ≤ 60→Q (.int t.rcount) S→w [t.pv] S Q E
theorem three_ok:∀ y ∈ (["then","either","take"]:List Str),PyData.strOk y = true:=by decide +kernel
theorem heads_ok:∀ y ∈ (["rest","pay","put","use","often","then","either","take"]:List Str),PyData.strOk y = true:=by decide +kernel
theorem sp_rcount {x0 s0:Sp3} (n m:Nat) (hp:PCountSpec m x0) (ih:RCountSpec n s0) (hnm:n ≤ m):RCountSpec (n + 1) (fn3 1 (b__law_round_count x0 s0)):=by
 intro S t Q E hd hs k
 unfold b__law_round_count
 refine fnS ?_
 rw [show start3 1 [t.pv] = [some t.pv] from rfl]
 have e3:[PV.str "then",PV.str "either",PV.str "take"] = (["then","either","take"]:List Str).map PV.str:=rfl
 cases t with
 | oft a=>
  simp only [Bd.dep,Bd.size] at hd hs
  simp only [Bd.pv]
  walk_at "y"
  refine hp (by omega) (by omega) (ih (by omega) (by omega) ?_)
  simpa [Bd.rcount] using k
 | thn a b=>
  simp only [Bd.dep,Bd.size] at hd hs
  simp only [Bd.pv]
  walk_at "y"
  rw [e3]
  refine in_tstrs (heads_ok _ (by simp)) three_ok ?_
  simp [ofS_inj]
  refine ih (by omega) (by omega) (ih (by omega) (by omega) ?_)
  simpa [Bd.rcount] using k
 | eit a b=>
  simp only [Bd.dep,Bd.size] at hd hs
  simp only [Bd.pv]
  walk_at "y"
  rw [e3]
  refine in_tstrs (heads_ok _ (by simp)) three_ok ?_
  simp [ofS_inj]
  refine ih (by omega) (by omega) (ih (by omega) (by omega) ?_)
  simpa [Bd.rcount] using k
 | tak z m a b=>
  simp only [Bd.dep,Bd.size] at hd hs
  simp only [Bd.pv]
  walk_at "y"
  rw [e3]
  refine in_tstrs (heads_ok _ (by simp)) three_ok ?_
  simp [ofS_inj]
  refine ih (by omega) (by omega) (ih (by omega) (by omega) ?_)
  simpa [Bd.rcount] using k
 | _=>
  simp only [Bd.pv]
  walk_at "y"
  rw [e3]
  refine in_tstrs (heads_ok _ (by simp)) three_ok ?_
  simp [ofS_inj]
  simpa [Bd.rcount] using k
noncomputable abbrev DeedBodySpec (w:Sp3):Prop:=∀ {S:Sto} {d l:Addr} {js:List Str} {size bound:Int} {Q:VK3} {E:XK3},Deal S d l→js.length < 2 ^ 61→1 ≤ size→size ≤ 60→
  (∀ (t:Bd) S',t.good js []→t.dep ≤ 6→t.size ≤ 60→(t.size:Int) ≤ max size 4→((t.pcount:Int) + t.rcount ≤ bound ∨ (t.pcount:Int) + t.rcount ≤ 2)→Deal S' d l→Oth d l S S'→Q t.pv S')→w [.ref d,.tup (js.map PV.str),.int size,.int bound] S Q E
theorem sp_deed_body {x0 x1 x2 x3:Sp3} (n:Nat) (hn:6 ≤ n) (sp_body:BodySpec n x0) (sp_pc:PCountSpec n x1) (sp_rc:RCountSpec n x2) (sp_leaf:LeafSpec x3):DeedBodySpec (fn3 5 (b__law_deed_body x0 x1 x2 x3)):=by
 intro S d l js size bound Q E D hj h1 h2 k
 unfold b__law_deed_body
 refine fnS ?_
 rw [show start3 5 [PV.ref d,PV.tup (js.map PV.str),PV.int size,PV.int bound] = [some (.ref d),some (.tup (js.map PV.str)),some (.int size),some (.int bound),none] from rfl]
 refine seqS fun N hN=>?_
 walk_at "x"
 intro p hp
 have dp:=D.free hp
 refine sp_body (D.new hp) upd3_same dp.1 dp.2 hj (by omega) (by omega) (by decide) (by omega) fun t S1 l1 hg hd q0 q1 D1 hx1 O1=>?_
 have O1':Oth d l S S1:=fun a o ha h1 h2=>O1 a o (by rw [upd3_ne (fun e=>by rw [e,hp] at ha; cases ha)]; exact ha) h1 h2 (fun e=>by rw [e,hp] at ha; cases ha)
 refine hN _ _ (seqS fun N hN=>?_)
 simp only [if3,tst,op3,call3,args3,v3,lk,List.set_cons_zero,List.set_cons_succ,gt3,add3,int3]
 refine sp_pc (by omega) (by omega) (sp_rc (by omega) (by omega) ?_)
 simp only [decide_eq_true_eq]
 split
 ·walk_at "x"
  refine sp_leaf D1 hj fun t2 S2 hl2 hg2 D2 O2=>sp_leaf D2 hj fun t3 S3 hl3 hg3 D3 O3=>?_
  refine hN _ _ ?_
  walk_at "x"
  have e2:=Bd.leaf_dep hl2
  have e3:=Bd.leaf_dep hl3
  refine k (.thn (.oft t2) t3) S3 ⟨hg2,hg3⟩ (by simp only [Bd.dep]; omega) (by simp only [Bd.size]; omega) (by simp only [Bd.size]; omega) (.inr ?_) D3 (O1'.trans (O2.trans O3))
  have c2:t2.pcount = 1∧t2.rcount = 0:=by cases t2 <;> first | exact ⟨rfl,rfl⟩ | exact hl2.elim
  have c3:t3.pcount = 1∧t3.rcount = 0:=by cases t3 <;> first | exact ⟨rfl,rfl⟩ | exact hl3.elim
  simp only [Bd.pcount,Bd.rcount,c2,c3]
  decide
 ·rename_i hb
  walk_at "x"
  refine hN _ _ ?_
  walk_at "x"
  exact k t S1 hg (by omega) (by omega) (by omega) (.inl (by omega)) D1 O1'
structure Sh (S:Sto) (v:PV) (d:PyData) (n k:Nat):Prop where
 dat:Dat S v d
 lay:d.canLay0 = true
 shw:d.showable = true
 dep:d.depth ≤ k
 len:d.shown.length ≤ n
structure Shs (S:Sto) (vs:List PV) (ds:List PyData) (n k:Nat):Prop where
 dat:Dats S vs ds
 lay:PyData.canLayAll0 ds = true
 shw:PyData.showableAll ds = true
 dep:PyData.depthAll ds ≤ k
 len:piled (PyData.shownAll ds) ≤ n
theorem Sh.le {S:Sto} {v:PV} {d:PyData} {n k m j:Nat} (h:Sh S v d n k) (a:n ≤ m) (b:k ≤ j):Sh S v d m j:=⟨h.dat,h.lay,h.shw,Nat.le_trans h.dep b,Nat.le_trans h.len a⟩
theorem Shs.le {S:Sto} {v:List PV} {d:List PyData} {n k m j:Nat} (h:Shs S v d n k) (a:n ≤ m) (b:k ≤ j):Shs S v d m j:=⟨h.dat,h.lay,h.shw,Nat.le_trans h.dep b,Nat.le_trans h.len a⟩
theorem Sh.int {S:Sto} {i:Int} (h:i.natAbs.log2 < 1920):Sh S (.int i) (.int i) 1921 0:=
 ⟨.int i,by simp [PyData.canLay0],by simpa [PyData.showable] using h,by simp [PyData.depth],by rw [PyData.shown_int]; exact PyProof.Rows.int_text_len_1921 h⟩
theorem Sh.str {S:Sto} {z:Str} (h:PyData.strOk z = true):Sh S (.str z) (.str z) (10 * z.length + 2) 0:=
 ⟨.str z,by simpa [PyData.canLay0] using h,by simp [PyData.showable],by simp [PyData.depth],by
  rw [PyData.shown_str]
  refine StrLaws.reprText_len z fun c hc=>?_
  have h3:=Array.all_eq_true_iff_forall_mem.mp h c (Array.mem_toList_iff.mp hc)
  have h4:c < 0x110000:=by simpa using h3
  have e:(16:Nat) ^ 8 = 4294967296:=by decide
  omega⟩
theorem Shs.nil {S:Sto}:Shs S [] [] 0 0:=⟨.nil,by simp [PyData.canLayAll0],by simp [PyData.showableAll],by simp [PyData.depthAll],by simp [PyData.shownAll,piled]⟩
theorem Sh.cons {S:Sto} {v:PV} {d:PyData} {n k:Nat} {vs:List PV} {ds:List PyData} {m:Nat} (a:Sh S v d n k) (b:Shs S vs ds m k):Shs S (v :: vs) (d :: ds) (n + 2 + m) k:=
 ⟨.cons a.dat b.dat,by simp [PyData.canLayAll0,a.lay,b.lay],by simp [PyData.showableAll,a.shw,b.shw],by simp only [PyData.depthAll]; exact Nat.max_le.mpr ⟨a.dep,b.dep⟩,by
  rw [PyData.shownAll_cons,piled_cons]
  have:=a.len
  have:=b.len
  omega⟩
theorem Sh.tup {S:Sto} {n k:Nat} {vs:List PV} {ds:List PyData} (a:Shs S vs ds n k):Sh S (.tup vs) (.tuple ds) (n + 3) (k + 1):=
 ⟨.tup a.dat,by simp [PyData.canLay0,a.lay],by simp [PyData.showable,a.shw],by simp only [PyData.depth]; exact Nat.succ_le_succ a.dep,by
  rw [PyData.shown_tuple,strLen_append,strLen_append]
  have e1:((("(":String):Str)).length = 1:=rfl
  have e3:(((if ds.length == 1 then ",)" else ")":String):Str)).length ≤ 2:=by split <;> decide
  have q:=a.len
  rcases ds with _ | ⟨d,ds⟩
  ·have:(Str.join ", " (PyData.shownAll [])).length = 0:=by simp [PyData.shownAll]; rfl
   omega
  ·have:=join_length_add (PyData.shownAll (d :: ds)) (by simp [PyData.shownAll])
   omega⟩
theorem Shs.map {α:Type} {S:Sto} {n k:Nat} (f:α→PV) (g:α→PyData):∀ {xs:List α},(∀ x ∈ xs,Sh S (f x) (g x) n k)→Shs S (xs.map f) (xs.map g) (xs.length * (n + 2)) k
 | [],_=>Shs.nil.le (Nat.zero_le _) (Nat.zero_le _)
 | x :: r,h=>((h x (by simp)).cons (Shs.map f g fun y hy=>h y (by simp [hy]))).le (by rw [List.length_cons,Nat.succ_mul]; omega) (Nat.le_refl _)
theorem Sh.dict {S:Sto} {v:PV} {d:PyData} {n k:Nat} (h:Sh S v d n k):d.hasDict = false:=PyData.hasDict_of_canLay d h.lay
theorem line24:(2:Nat) ^ 24 ≤ sizeLine:=by decide
theorem repr_tup {S:Sto} {vs:List PV} {d:PyData} {n k:Nat} {Q:VK3} (h:Sh S (.tup vs) d n k) (hn:n ≤ 2 ^ 24) (hk:k ≤ 100) (q:Q (.str d.shown) S):repr3 [.tup vs] S Q:=by
 unfold repr3
 exact ⟨d,h.dat,h.shw,h.dict,Nat.le_trans h.dep hk,Nat.le_trans h.len (Nat.le_trans hn line24),q⟩
theorem small_log {i:Int} (h:i.natAbs < 2 ^ 64):i.natAbs.log2 < 1920:=by
 by_cases h0:i.natAbs = 0
 ·rw [h0]; decide
 ·exact (Nat.log2_lt h0).mpr (Nat.lt_trans h (Nat.pow_lt_pow_right (by decide) (by decide)))
theorem Sh.w {S:Sto} {z:Str} (h:IsW z):Sh S (.str z) (.str z) 62 0:=(Sh.str (isW_ok h)).le (by have:=h.len; omega) (Nat.le_refl _)
theorem Sh.s {S:Sto} (z:String) (k:Nat) (h:PyData.strOk (z:Str) = true) (hl:(z:Str).length ≤ 6):Sh S (.str z) (.str z) 62 k:=(Sh.str h).le (by omega) (Nat.zero_le _)
theorem Shs.nil' {S:Sto} (k:Nat):Shs S [] [] 0 k:=.le .nil (Nat.le_refl _) (Nat.zero_le _)
theorem Sh.i {S:Sto} {i:Int} (h:i.natAbs < 2 ^ 64):Sh S (.int i) (.int i) 1921 0:=Sh.int (small_log h)
noncomputable def dpv (p:Str × Bd):PV:=.tup [.str p.1,p.2.pv]
noncomputable def hpv (js:List Str) (ds:List (Str × Bd)):PV:=.tup [.tup (js.map PV.str),.tup (ds.map dpv)]
structure HGood (js:List Str) (us:List Str) (ds:List (Str × Bd)):Prop where
 jl:js.length ≤ 16
 dl:ds.length ≤ 16
 jw:∀ z ∈ js,IsW z
 uw:∀ z ∈ us,IsW z
 dw:∀ p ∈ ds,IsW p.1
 gd:∀ p ∈ ds,p.2.good js us
 dp:∀ p ∈ ds,p.2.dep ≤ 60
 sz:∀ p ∈ ds,p.2.size ≤ 60
theorem Deal.ext {S S':Sto} {d l:Addr} (D:Deal S d l) (e:Ext S S'):Deal S' d l:=by
 obtain ⟨s,n,f,D⟩:=D
 exact ⟨s,n,f,e _ _ D.d,e _ _ D.l,D.s0,D.s1,D.nm,D.lf,D.ln⟩
theorem _root_.L3.Oth.free {d l p:Addr} {S S':Sto} (O:Oth d l S S') (h:S' p = none) (h1:p ≠ d) (h2:p ≠ l):S p = none:=by
 cases e:S p with
 | none=>rfl
 | some o=>rw [O p o e h1 h2] at h; cases h
theorem _root_.L3.Oth.put {d l p:Addr} {S S':Sto} {o:SO} (O:Oth d l S S') (h:S p = none):Oth d l S (upd3 S' p o):=fun x u hx h1 h2=>by rw [upd3_ne (fun e=>by rw [e,h] at hx; cases hx)]; exact O x u hx h1 h2
theorem _root_.L3.Ext.put {p:Addr} {S S':Sto} {o:SO} (O:Ext S S') (h:S p = none):Ext S (upd3 S' p o):=fun x u hx=>by rw [upd3_ne (fun e=>by rw [e,h] at hx; cases hx)]; exact O x u hx
theorem cut_lo {α:Type} {xs:List α} {n:Nat} (h:n ≤ xs.length):cut3 xs none (some (n:Int)) = xs.take n:=by
 unfold cut3
 rw [HT.sIx_none,HT.sIx_nat,List.drop_zero,Nat.min_eq_left h]
 rfl
theorem num_mem {x:PV} {n:Nat} {a b:List PV} (e:numsFrom 0 n = a ++ x :: b):x = .int a.length∧a.length < n:=by
 have h1:(numsFrom 0 n)[a.length]? = some x:=by rw [e]; simp
 unfold numsFrom at h1
 rw [List.getElem?_map] at h1
 have hl:a.length < n:=by
  have:=congrArg List.length e
  rw [ints_len,List.length_append,List.length_cons] at this
  omega
 rw [List.getElem?_range hl] at h1
 simp at h1
 exact ⟨h1.symm,hl⟩
theorem at_nat {α:Type} {xs:List α} {n:Nat} {v:α} (h:xs[n]? = some v):atI xs (n:Int) = some v:=atI_nat h
noncomputable def Bd.sides:Bd→List Bd
 | .oft a=>[a]
 | .thn a b=>[a,b]
 | .eit a b=>[a,b]
 | .tak _ _ a b=>[a,b]
 | _=>[]
noncomputable def Bd.parts:Bd→List Bd
 | .oft a=>.oft a :: a.parts
 | .thn a b=>.thn a b :: (a.parts ++ b.parts)
 | .eit a b=>.eit a b :: (a.parts ++ b.parts)
 | .tak z m a b=>.tak z m a b :: (a.parts ++ b.parts)
 | t=>[t]
theorem Bd.parts_eq (t:Bd):t.parts = t :: t.sides.flatMap Bd.parts:=by cases t <;> simp [Bd.parts,Bd.sides]
theorem Bd.parts_len:∀ t:Bd,t.parts.length = t.size
 | .rest=>rfl
 | .pay _ _=>rfl
 | .put _ _=>rfl
 | .use _=>rfl
 | .oft a=>by simp only [Bd.parts,Bd.size,List.length_cons,a.parts_len]
 | .thn a b=>by simp only [Bd.parts,Bd.size,List.length_cons,List.length_append,a.parts_len,b.parts_len]
 | .eit a b=>by simp only [Bd.parts,Bd.size,List.length_cons,List.length_append,a.parts_len,b.parts_len]
 | .tak _ _ a b=>by simp only [Bd.parts,Bd.size,List.length_cons,List.length_append,a.parts_len,b.parts_len]
theorem Bd.side_dep {t u:Bd} (h:u ∈ t.sides):u.dep < t.dep∧u.size < t.size:=by
 cases t <;> simp [Bd.sides] at h
 ·subst h; simp [Bd.dep,Bd.size]
 all_goals (rcases h with rfl | rfl <;> simp only [Bd.dep,Bd.size] <;> omega)
noncomputable abbrev SidesSpec (w:Sp3):Prop:=∀ {S:Sto} {t:Bd} {Q:VK3} {E:XK3},Q (.tup (t.sides.map Bd.pv)) S→w [t.pv] S Q E
theorem sp_sides:SidesSpec (fn3 1 b_sides_of):=by
 intro S t Q E k
 unfold b_sides_of
 refine fnS ?_
 rw [show start3 1 [t.pv] = [some t.pv] from rfl]
 cases t <;> (unfold Bd.pv; walk_at "y"; simp only [kget3,op3,v3,lk,c3,idx3,at0,key3,callB3,args3,len3,k_SIDES_FROM,List.find?,sS,String.reduceEq,decide_true,decide_false,Option.map,Option.getD]; exact k)
noncomputable abbrev PartsInSpec (n:Nat) (w:Sp3):Prop:=∀ {S:Sto} {t:Bd} {Q:VK3} {E:XK3},t.dep ≤ n→t.size ≤ 900→(∀ p S',S p = none→Ext S S'→S' p = some (.lst (t.parts.map Bd.pv))→Q (.ref p) S')→w [t.pv] S Q E
theorem sp_parts {xs s0:Sp3} (sp_sides:SidesSpec xs) (n:Nat) (ih:PartsInSpec n s0):PartsInSpec (n + 1) (fn3 3 (b_parts_in xs s0)):=by
 intro S t Q E hd hs k
 unfold b_parts_in
 refine fnS ?_
 rw [show start3 3 [t.pv] = [some t.pv,none,none] from rfl]
 refine seqS fun N hN=>?_
 walk_at "x"
 intro p hp
 have X0:Ext S (upd3 S p (.lst [t.pv])):=.new hp
 have hp0:(upd3 S p (.lst [t.pv])) p = some (.lst [t.pv]):=upd3_same
 generalize upd3 S p (.lst [t.pv]) = S0 at X0 hp0
 refine hN _ _ (seqS fun N hN=>?_)
 simp only [for3,iter3,call3,args3,v3,lk]
 refine sp_sides ?_
 simp only [srcOf]
 refine forL_by (fun done σ S'=>∃ (ts:List Bd) (x:Option PV) (rs:List Bd),done = ts.map Bd.pv∧t.sides = ts ++ rs∧σ = [some t.pv,some (.ref p),x]∧Ext S S'∧S' p = some (.lst ((t :: ts.flatMap Bd.parts).map Bd.pv))) ⟨[],_,t.sides,rfl,rfl,rfl,X0,hp0⟩ (fun _ _ _ _=>trivial) ?_ ?_
 ·rintro done x rest σ S1 K e ⟨ts,y,rs,rfl,es,rfl,X1,h1⟩ hK
  rw [es,List.map_append] at e
  have e2:=List.append_cancel_left e
  rcases rs with _ | ⟨r,rs⟩
  ·cases e2
  rw [List.map_cons,List.cons.injEq] at e2
  obtain ⟨rfl,e3⟩:=e2
  have hr:r ∈ t.sides:=by rw [es]; simp
  have hrd:=Bd.side_dep hr
  walk_at "x"
  refine ⟨by rw [h1]; trivial,ih (t:=r) (by omega) (by omega) fun q S2 hq X2 h2=>?_⟩
  simp only [X2 _ _ h1,h2]
  have hlen:(t :: ts.flatMap Bd.parts).length + r.parts.length ≤ t.size:=by
   rw [← Bd.parts_len t,Bd.parts_eq t,es,List.flatMap_append,List.flatMap_cons]
   simp only [List.length_cons,List.length_append]
   omega
  refine ⟨line100 (by simp only [List.length_map] at *; omega),?_⟩
  refine hK _ _ ⟨ts ++ [r],_,rs,by simp,by rw [es]; simp,rfl,(X1.trans X2).put hp,?_⟩
  rw [upd3_same,List.flatMap_append]
  simp
 ·rintro σ S1 ⟨ts,y,rs,e,es,rfl,X1,h1⟩
  refine hN _ _ ?_
  walk_at "x"
  have ez:rs = []:=by
   have:=congrArg List.length e
   rw [es] at this
   simp at this
   exact this
  subst ez
  rw [List.append_nil] at es
  rw [← es,← Bd.parts_eq] at h1
  exact k p S1 hp X1 h1
noncomputable def heads:List Str:=["rest","pay","put","use","often","then","either","take"]
theorem heads_ok2:∀ z ∈ heads,PyData.strOk z = true:=by decide +kernel
structure TwiceSpec (w:Sp3):Prop where
 t:∀ {S:Sto} {z:Str} {zs:List Str} {Q:VK3} {E:XK3},PyData.strOk z = true→(∀ y ∈ zs,PyData.strOk y = true)→z ∉ zs→Q .non S→w [.str z,.tup (zs.map PV.str)] S Q E
 l:∀ {S:Sto} {a:Addr} {z:Str} {zs:List Str} {Q:VK3} {E:XK3},S a = some (.lst (zs.map PV.str))→PyData.strOk z = true→(∀ y ∈ zs,PyData.strOk y = true)→z ∉ zs→Q .non S→w [.str z,.ref a] S Q E
inductive Usable (S:Sto) (us:List Str):PV→Prop
 | no:us = []→Usable S us .non
 | lst {a:Addr}:S a = some (.lst (us.map PV.str))→(∀ y ∈ us,PyData.strOk y = true)→Usable S us (.ref a)
structure HOk (n:Nat) (js us:List Str) (ds:List (Str × Bd)):Prop extends HGood js us ds where
 jn:js.Nodup
 dn:(ds.map Prod.fst).Nodup
 dq:∀ p ∈ ds,p.2.dep ≤ n
inductive NamesAt (S:Sto) (d l:Addr) (us:List Str):PV→Prop
 | ref {a:Addr}:S a = some (.lst (us.map PV.str))→a ≠ d→a ≠ l→NamesAt S d l us (.ref a)
 | tup:NamesAt S d l us (.tup (us.map PV.str))
inductive Thg (L:Nat):Nat→PV→Prop
 | int {n:Nat} (i:Int):Thg L n (.int i)
 | tup {n:Nat} {xs:List PV}:xs.length ≤ L→(∀ x ∈ xs,Thg L n x)→Thg L (n + 1) (.tup xs)
theorem Thg.mono {L M n m:Nat} {v:PV} (h:Thg L n v) (hL:L ≤ M):n ≤ m→Thg M m v:=by
 induction h generalizing m with
 | int i=>exact fun _=>.int i
 | @tup n xs hl _ ih=>
  intro hm
  cases m with
  | zero=>omega
  | succ m=>exact .tup (Nat.le_trans hl hL) fun x hx=>ih x hx (by omega)
inductive Thx (L:Nat):Nat→PV→Prop
 | int {n:Nat} (i:Int):Thx L n (.int i)
 | str {n:Nat} {z:Str}:PyData.strOk z = true→Thx L n (.str z)
 | tup {n:Nat} {xs:List PV}:xs.length ≤ L→(∀ x ∈ xs,Thx L n x)→Thx L (n + 1) (.tup xs)
theorem Thg.x {L n:Nat} {v:PV} (h:Thg L n v):Thx L n v:=by
 induction h with
 | int i=>exact .int i
 | tup hl _ ih=>exact .tup hl ih
noncomputable def isTr:Bd→PV→Bool
 | .oft a,.tup gs=>gs.all fun g=>match g with | .tup [.int m,tr]=>decide (1 ≤ m) && isTr a tr | _=>false
 | .thn a b,.tup [x,y]=>isTr a x && isTr b y
 | .eit a b,.tup [.int i,y]=>if i = 0 then isTr a y else if i = 1 then isTr b y else false
 | .tak _ _ a b,.tup [.int i,y]=>if i = 0 then isTr a y else if i = 1 then isTr b y else false
 | .rest,.tup []=>true
 | .pay _ _,.tup []=>true
 | .put _ _,.tup []=>true
 | .use _,.tup []=>true
 | _,_=>false
noncomputable def isGo (a:Bd):PV→Bool
 | .tup [.int m,tr]=>decide (1 ≤ m) && isTr a tr
 | _=>false
theorem isTr_thn (a b:Bd) (x y:PV):isTr (.thn a b) (.tup [x,y]) = (isTr a x && isTr b y):=rfl
theorem isTr_eit (a b:Bd) (i:Int) (y:PV):isTr (.eit a b) (.tup [.int i,y]) = if i = 0 then isTr a y else if i = 1 then isTr b y else false:=rfl
theorem isTr_tak (z:Str) (m:Int) (a b:Bd) (i:Int) (y:PV):isTr (.tak z m a b) (.tup [.int i,y]) = if i = 0 then isTr a y else if i = 1 then isTr b y else false:=rfl
theorem isTr_oft (a:Bd) (gs:List PV):isTr (.oft a) (.tup gs) = gs.all (isGo a):=rfl
section
variable {S:Sto} {Q:VK3} {i:Int} {xs:List PV} {b:Bool}
end
noncomputable def isInt:PV→Bool | .int _=>true | _=>false
noncomputable abbrev ChosenSpec (w:Sp3):Prop:=∀ {S:Sto} {a b:Bd} {hd:List PV} {i:Int} {y:PV} {Q:VK3} {E:XK3},(i = 0 ∨ i = 1)→hd.length ≤ 3→Q (if i = 0 then a.pv else b.pv) S→w [.tup (hd ++ [a.pv,b.pv]),.tup [.int i,y]] S Q E
theorem sp_chosen:ChosenSpec (fn3 2 b_chosen):=by
 intro S a b hd i y Q E hi hl k
 unfold b_chosen
 refine fnS ?_
 rw [show start3 2 [PV.tup (hd ++ [a.pv,b.pv]),PV.tup [.int i,y]] = [some (.tup (hd ++ [a.pv,b.pv])),some (.tup [.int i,y])] from rfl]
 walk_at "y"
 have e:atI (hd ++ [a.pv,b.pv]) (-2 + i) = some (if i = 0 then a.pv else b.pv):=by
  unfold atI ixN
  rcases hi with rfl | rfl
  ·rw [if_neg (by omega),if_pos (by simp; omega)]
   have:(-2 + 0 + ((hd ++ [a.pv,b.pv]).length:Int)).toNat = hd.length:=by simp; omega
   rw [this,if_pos rfl]
   show (hd ++ [a.pv,b.pv])[hd.length]? = some a.pv
   simp
  ·rw [if_neg (by omega),if_pos (by simp; omega)]
   have:(-2 + 1 + ((hd ++ [a.pv,b.pv]).length:Int)).toNat = hd.length + 1:=by simp; omega
   rw [this,if_neg (by decide)]
   show (hd ++ [a.pv,b.pv])[hd.length + 1]? = some b.pv
   simp
 rw [e]
 exact k
theorem two_of {xs:List PV} (h:xs.length = 2):∃ x y,xs = [x,y]:=by
 match xs,h with
 | [x,y],_=>exact ⟨x,y,rfl⟩
theorem isTr_thn_tup {a b:Bd} {xs:List PV} (h:xs.length ≠ 2):isTr (.thn a b) (.tup xs) = false:=by
 match xs,h with
 | [],_=>rfl
 | [_],_=>rfl
 | [_,_],h=>exact absurd rfl h
 | _ :: _ :: _ :: _,_=>rfl
theorem isTr_eit_tup {a b:Bd} {xs:List PV} (h:xs.length ≠ 2):isTr (.eit a b) (.tup xs) = false:=by
 match xs,h with
 | [],_=>rfl
 | [x],_=>cases x <;> rfl
 | [_,_],h=>exact absurd rfl h
 | x :: _ :: _ :: _,_=>cases x <;> rfl
theorem isTr_tak_tup {z:Str} {m:Int} {a b:Bd} {xs:List PV} (h:xs.length ≠ 2):isTr (.tak z m a b) (.tup xs) = false:=by
 match xs,h with
 | [],_=>rfl
 | [x],_=>cases x <;> rfl
 | [_,_],h=>exact absurd rfl h
 | x :: _ :: _ :: _,_=>cases x <;> rfl
theorem isTr_str (t:Bd) (z:Str):isTr t (.str z) = false:=by cases t <;> rfl
theorem isTr_int (t:Bd) (i:Int):isTr t (.int i) = false:=by cases t <;> rfl
noncomputable def Bd.plain:Bd→Bool
 | .rest=>true
 | .pay _ _=>true
 | .put _ _=>true
 | .use _=>true
 | _=>false
theorem isTr_plain {t:Bd} (h:t.plain = true) (xs:List PV):isTr t (.tup xs) = decide (xs = []):=by
 cases t <;> simp [Bd.plain] at h <;> (cases xs with
  | nil=>show true = _; simp
  | cons=>show false = _; simp)
noncomputable def Bd.hd:Bd→Str
 | .rest=>"rest" | .pay _ _=>"pay" | .put _ _=>"put" | .use _=>"use" | .oft _=>"often" | .thn _ _=>"then" | .eit _ _=>"either" | .tak _ _ _ _=>"take"
noncomputable def Bd.tl:Bd→List PV
 | .rest=>[] | .pay x y=>[.tup [.int x,.int y]] | .put z m=>[.str z,.int m] | .use z=>[.str z] | .oft a=>[a.pv] | .thn a b=>[a.pv,b.pv] | .eit a b=>[a.pv,b.pv] | .tak z m a b=>[.str z,.int m,a.pv,b.pv]
theorem Bd.pv_eq (t:Bd):t.pv = .tup (.str t.hd :: t.tl):=by cases t <;> rfl
theorem Bd.hd_ok (t:Bd):PyData.strOk t.hd = true:=by cases t <;> exact heads_ok2 _ (by simp [heads,Bd.hd])
theorem Bd.hd_thn (t:Bd):t.hd = ("then":Str) ↔ ∃ a b,t = .thn a b:=by cases t <;> simp [Bd.hd,ofS_inj]
theorem Bd.hd_oft (t:Bd):t.hd = ("often":Str) ↔ ∃ a,t = .oft a:=by cases t <;> simp [Bd.hd,ofS_inj]
theorem at_side {a b:PV} {hd:List PV} {i:Int} (hi:i = 0 ∨ i = 1):atI (hd ++ [a,b]) (i - 2) = some (if i = 0 then a else b):=by
 unfold atI ixN
 rcases hi with rfl | rfl
 ·rw [if_neg (by omega),if_pos (by simp; omega)]
  have:(0 - 2 + ((hd ++ [a,b]).length:Int)).toNat = hd.length:=by simp; omega
  rw [this,if_pos rfl]
  show (hd ++ [a,b])[hd.length]? = some a
  simp
 ·rw [if_neg (by omega),if_pos (by simp; omega)]
  have:(1 - 2 + ((hd ++ [a,b]).length:Int)).toNat = hd.length + 1:=by simp; omega
  rw [this,if_neg (by decide)]
  show (hd ++ [a,b])[hd.length + 1]? = some b
  simp
theorem Thg.nil {L n:Nat}:Thg L (n + 1) (.tup []):=.tup (Nat.zero_le _) (by simp)
theorem Thg.two {L n:Nat} {a b:PV} (hL:2 ≤ L) (ha:Thg L n a) (hb:Thg L n b):Thg L (n + 1) (.tup [a,b]):=.tup hL fun x hx=>by
 simp only [List.mem_cons,List.not_mem_nil,or_false] at hx
 rcases hx with rfl | rfl
 ·exact ha
 ·exact hb
mutual
noncomputable def szP:PV→Nat
 | .tup xs=>1 + szPs xs
 | _=>1
noncomputable def szPs:List PV→Nat
 | []=>0
 | x :: r=>szP x + szPs r
end
theorem szPs_append:∀ xs ys,szPs (xs ++ ys) = szPs xs + szPs ys
 | [],ys=>by simp [szPs]
 | x :: r,ys=>by rw [List.cons_append]; simp only [szPs]; rw [szPs_append r ys]; omega
noncomputable abbrev LHouseSpec (w:Sp3):Prop:=∀ {S:Sto} {d l:Addr} {most many size:Nat} {Q:VK3} {E:XK3},Deal S d l→most ≤ 8→1 ≤ many→many ≤ 4→1 ≤ size→size ≤ 60→
  (∀ js ds S',HOk 6 js [] ds→1 ≤ ds.length→ds.length ≤ many→js.length ≤ 8→Deal S' d l→Oth d l S S'→Q (hpv js ds) S')→w [.ref d,.int most,.int many,.int size] S Q E
theorem sp_lhouse {xw xd xb:Sp3} (sp_words:WordsSpec xw) (sp_draw:DrawSpec xd) (sp_db:DeedBodySpec xb):LHouseSpec (fn3 9 (b__law_house xw xd xb)):=by
 intro S0 d l most many size Q E D0 hmo hm1 hm4 hs1 hs2 k
 unfold b__law_house
 refine fnS ?_
 rw [show start3 9 [PV.ref d,PV.int most,PV.int many,PV.int size] = [some (.ref d),some (.int most),some (.int many),some (.int size),none,none,none,none,none] from rfl]
 refine seqS fun N hN=>?_
 walk_at "x"
 refine sp_words D0 (by decide) (by decide) fun p ns S hl hnd hw0 _ hpd hpl hp D O0=>?_
 have hl8':ns.length = 8:=hl
 have hl8:8 ≤ ns.length:=by omega
 have hl100:ns.length ≤ 100:=by omega
 have hw:∀ z ∈ ns,IsW z:=fun z hz=>(hw0 z hz).1
 refine hN _ _ ?_
 refine seqS fun N hN=>?_
 walk_at "x"
 refine sp_draw (m:=most + 1) D (by omega) (by omega) fun r S1 r0 r1 D1 O1=>?_
 obtain ⟨j,rfl⟩:∃ j:Nat,r = (j:Int):=⟨r.toNat,by omega⟩
 have hp1:=O1 _ _ hp hpd hpl
 rw [hp1]
 dsimp only
 rw [cut_lo (by rw [List.length_map]; omega),← List.map_take]
 intro p2 hp2
 rw [upd3_same]
 dsimp only
 have D2:Deal (upd3 S1 p2 (.lst ((ns.take j).map PV.str))) d l:=D1.new hp2
 have O2:Oth d l S (upd3 S1 p2 (.lst ((ns.take j).map PV.str))):=O1.trans (.new hp2)
 have hp2':=Oth.new (o:=.lst ((ns.take j).map PV.str)) hp2 _ _ hp1 hpd hpl
 generalize upd3 S1 p2 (.lst ((ns.take j).map PV.str)) = S2 at D2 O2 hp2'
 refine hN _ _ (seqS fun N hN=>?_)
 walk_at "x"
 intro p3 hp3
 have dp3:=D2.free hp3
 refine sp_draw (D2.new hp3) (by decide) (by decide) fun f S3 f0 f1 D3 O3=>?_
 have e3:=O3 _ _ (upd3_same (S:=S2) (o:=.lst [.int 0,.int 4])) dp3.1 dp3.2
 have hp3':=O3 _ _ (Oth.new hp3 _ _ hp2' hpd hpl) hpd hpl
 have O03:Oth d l S S3:=O2.trans ((Oth.new hp3).trans O3)
 simp only [e3]
 obtain ⟨v,hv,hvm⟩:=at_draw (xs:=[PV.int 0,.int 4]) f0 (by simpa using f1)
 rw [hv]
 obtain ⟨g,rfl,hg⟩:∃ g:Nat,v = .int g∧g ≤ 4:=by
  simp only [List.mem_cons,List.not_mem_nil,or_false] at hvm
  rcases hvm with rfl | rfl
  ·exact ⟨0,rfl,by omega⟩
  ·exact ⟨4,rfl,by omega⟩
 refine hN _ _ (seqS fun N hN=>?_)
 walk_at "x"
 refine sp_draw (m:=many) D3 (by omega) (by omega) fun r4 S4 a0 a1 D4 O4=>?_
 obtain ⟨mm,em⟩:∃ mm:Nat,1 + r4 = (mm:Int):=⟨(1 + r4).toNat,by omega⟩
 dsimp only
 rw [em]
 have hp4:=O4 _ _ hp3' hpd hpl
 refine hN _ _ (seqS fun N hN=>?_)
 walk_at "x"
 refine ⟨by omega,by omega,?_⟩
 rw [Int.toNat_natCast]
 have hjl:(ns.take j).length ≤ 8:=by rw [List.length_take]; omega
 refine compL_by (fun done ys S'=>∃ ds:List (Str × Bd),ys = ds.map dpv∧ds.length = done.length∧ds.map Prod.fst = (ns.drop g).take done.length∧done.length ≤ mm∧(∀ q ∈ ds,q.2.good (ns.take j) []∧q.2.dep ≤ 6∧q.2.size ≤ 60)∧Deal S' d l∧Oth d l S4 S') ⟨[],rfl,rfl,rfl,Nat.zero_le _,by simp,D4,.refl⟩ ?_ ?_ ?_
 ·rintro done ys S' ⟨ds,rfl,e,_,hd,_⟩
  exact ⟨trivial,line100 (by rw [List.length_map,e]; omega)⟩
 ·rintro done x rest ys S' K e ⟨ds,rfl,e2,e3,hd,hc,D',O'⟩ hK
  obtain ⟨rfl,hi⟩:=num_mem e
  walk_at "x"
  try simp only [yes3,if_true]
  have hp':=O' _ _ hp4 hpd hpl
  simp only [hp']
  have hlt:g + done.length < ns.length:=by omega
  have hat:atI (ns.map PV.str) ((g:Int) + (done.length:Int)) = some (.str ns[g + done.length]):=by
   have:((g:Int) + (done.length:Int)) = ((g + done.length:Nat):Int):=by omega
   rw [this]
   exact at_nat (by rw [List.getElem?_map,List.getElem?_eq_getElem hlt]; rfl)
  rw [hat]
  dsimp only
  refine ⟨cdiv (by omega) (by omega),sp_db D' (by omega) (by omega) (by omega) fun t S5 tg td tz tz2 _ D5 O5'=>?_⟩
  refine hK _ _ ⟨ds ++ [(ns[g + done.length],t)],by simp [dpv],by simp [e2],?_,by rw [List.length_append]; exact hi,fun y hy=>?_,D5,O'.trans O5'⟩
  ·rw [List.map_append,e3,List.length_append,List.length_singleton,List.take_succ,List.getElem?_drop,List.getElem?_eq_getElem hlt]
   rfl
  ·rcases List.mem_append.mp hy with hy | hy
   ·exact hc y hy
   ·rw [List.mem_singleton.mp hy]; exact ⟨tg,td,tz⟩
 rintro ys S5 ⟨ds,rfl,e,ef,_,hds,D5,O5⟩
 rw [ints_len] at e ef
 intro p6 hp6
 refine hN _ _ ?_
 walk_at "x"
 rw [upd3_same]
 dsimp only
 have sub:∀ q ∈ ds,q.1 ∈ ns:=fun q hq=>by
  have:q.1 ∈ ds.map Prod.fst:=List.mem_map.mpr ⟨q,hq,rfl⟩
  rw [ef] at this
  exact List.mem_of_mem_drop (List.mem_of_mem_take this)
 refine k (ns.take j) ds _ ⟨⟨by omega,by omega,fun z hz=>hw z (List.mem_of_mem_take hz),by simp,fun q hq=>hw _ (sub q hq),fun q hq=>(hds q hq).1,fun q hq=>by have:=(hds q hq).2.1; omega,fun q hq=>(hds q hq).2.2⟩,hnd.sublist (List.take_sublist _ _),by rw [ef]; exact hnd.sublist ((List.take_sublist _ _).trans (List.drop_sublist _ _)),fun q hq=>(hds q hq).2.1⟩ (by omega) (by omega) hjl (D5.new hp6) (O0.trans (O03.trans (O4.trans (O5.trans (.new hp6)))))
noncomputable def Bd.hasRow:Bd→Bool
 | .rest=>false
 | .thn _ _=>false
 | _=>true
noncomputable def Bd.rows:Bd→Nat
 | .rest=>0
 | .oft a=>a.rows + 1
 | .thn a b=>a.rows + b.rows
 | .eit a b=>a.rows + b.rows + 1
 | .tak _ _ a b=>a.rows + b.rows + 1
 | _=>1
theorem Bd.rows_filter:∀ t:Bd,(t.parts.filter Bd.hasRow).length = t.rows
 | .rest=>rfl
 | .pay _ _=>rfl
 | .put _ _=>rfl
 | .use _=>rfl
 | .oft a=>by simp only [Bd.parts,Bd.rows]; rw [List.filter_cons_of_pos rfl,List.length_cons,a.rows_filter]
 | .thn a b=>by simp only [Bd.parts,Bd.rows]; rw [List.filter_cons_of_neg (by simp [Bd.hasRow]),List.filter_append,List.length_append,a.rows_filter,b.rows_filter]
 | .eit a b=>by simp only [Bd.parts,Bd.rows]; rw [List.filter_cons_of_pos rfl,List.length_cons,List.filter_append,List.length_append,a.rows_filter,b.rows_filter]
 | .tak _ _ a b=>by simp only [Bd.parts,Bd.rows]; rw [List.filter_cons_of_pos rfl,List.length_cons,List.filter_append,List.length_append,a.rows_filter,b.rows_filter]
theorem Bd.rows_size (t:Bd):t.rows ≤ t.size:=by
 rw [← t.rows_filter,← t.parts_len]; exact List.length_filter_le _ _
noncomputable abbrev HasRowSpec (w:Sp3):Prop:=∀ {S:Sto} {t:Bd} {Q:VK3} {E:XK3},Q (.bl t.hasRow) S→w [t.pv] S Q E
theorem rt_ok:∀ z ∈ (["rest","then"]:List Str),PyData.strOk z = true:=by decide +kernel
theorem et_ok:∀ z ∈ (["either","take"]:List Str),PyData.strOk z = true:=by decide +kernel
theorem Bd.hasRow_eq (t:Bd):(true != decide (t.hd ∈ (["rest","then"]:List Str))) = t.hasRow:=by cases t <;> simp [Bd.hd,ofS_inj,Bd.hasRow]
theorem sp_hasrow:HasRowSpec (fn3 1 b_has_row):=by
 intro S t Q E k
 unfold b_has_row
 refine fnS ?_
 rw [show start3 1 [t.pv] = [some t.pv] from rfl,Bd.pv_eq]
 simp only [ret3,op3,v3,lk,c3,idx3,at0,tup3,args3]
 rw [show ([PV.str "rest",PV.str "then"]:List PV) = (["rest","then"]:List Str).map PV.str from rfl]
 refine in_tstrs (Bd.hd_ok t) rt_ok ?_
 rw [Bd.hasRow_eq]
 exact k
noncomputable abbrev RowsInSpec (n:Nat) (w:Sp3):Prop:=∀ {S:Sto} {t:Bd} {Q:VK3} {E:XK3},t.dep ≤ n→t.size ≤ 900→(∀ S',Ext S S'→Q (.int t.rows) S')→w [t.pv] S Q E
theorem sp_rowsin {xp xh:Sp3} (n:Nat) (sp_parts:PartsInSpec n xp) (sp_hasrow:HasRowSpec xh):RowsInSpec n (fn3 1 (b_rows_in xp xh)):=by
 intro S t Q E hd hs k
 unfold b_rows_in
 refine fnS ?_
 rw [show start3 1 [t.pv] = [some t.pv] from rfl]
 walk_at "x"
 refine sp_parts hd hs fun p S1 hp X1 h1=>?_
 simp only [h1]
 refine compL_by (fun done ys S'=>∃ (ts rs:List Bd),done = ts.map Bd.pv∧t.parts = ts ++ rs∧ys = (ts.filter Bd.hasRow).map Bd.pv∧Ext S S'∧S' p = some (.lst (t.parts.map Bd.pv))) ⟨[],t.parts,rfl,rfl,rfl,X1,h1⟩ ?_ ?_ ?_
 ·rintro done ys S' ⟨ts,rs,rfl,e,rfl,X,h⟩
  refine ⟨h,line100 ?_⟩
  rw [List.length_map]
  have a:=List.length_filter_le Bd.hasRow ts
  have b:=congrArg List.length e
  rw [t.parts_len,List.length_append] at b
  omega
 ·rintro done x rest ys S' K e ⟨ts,rs,rfl,es,rfl,X,h⟩ hK
  rw [es,List.map_append] at e
  have e2:=List.append_cancel_left e
  rcases rs with _ | ⟨r,rs⟩
  ·cases e2
  rw [List.map_cons,List.cons.injEq] at e2
  obtain ⟨rfl,e3⟩:=e2
  walk_at "x"
  refine sp_hasrow ?_
  cases hr:r.hasRow with
  | true=>
   simp only [if_true]
   exact hK _ _ ⟨ts ++ [r],rs,by simp,by rw [es]; simp,by rw [List.filter_append,List.filter_cons_of_pos hr]; simp,X,h⟩
  | false=>
   simp only [Bool.false_eq_true,if_false]
   exact hK _ _ ⟨ts ++ [r],rs,by simp,by rw [es]; simp,by rw [List.filter_append,List.filter_cons_of_neg (by rw [hr]; decide)]; simp,X,h⟩
 rintro ys S' ⟨ts,rs,e,es,rfl,X,h⟩
 intro q hq
 rw [upd3_same]
 have ez:rs = []:=by
  have:=congrArg List.length e
  rw [es] at this
  simp at this
  exact this
 subst ez
 rw [List.append_nil] at es
 dsimp only
 rw [← es,List.length_map,t.rows_filter]
 exact k _ (X.trans (.new hq))
mutual
/-- no great whole number within -/
noncomputable def intB (b:Nat):PV→Bool
 | .int i=>decide (i.natAbs ≤ b)
 | .tup xs=>intBs b xs
 | _=>true
noncomputable def intBs (b:Nat):List PV→Bool
 | []=>true
 | x :: r=>intB b x && intBs b r
end
theorem intBs_iff {b:Nat}:∀ {xs:List PV},intBs b xs = true ↔ ∀ x ∈ xs,intB b x = true
 | []=>by simp [intBs]
 | x :: r=>by simp [intBs,intBs_iff (xs:=r)]
theorem intB_int {b:Nat} {i:Int} (h:i.natAbs ≤ b):intB b (.int i) = true:=by simp [intB,h]
theorem intB_tup {b:Nat} {xs:List PV} (h:∀ x ∈ xs,intB b x = true):intB b (.tup xs) = true:=by simp only [intB]; exact intBs_iff.mpr h
theorem intB_mem {b:Nat} {xs:List PV} (h:intB b (.tup xs) = true):∀ x ∈ xs,intB b x = true:=by simp only [intB] at h; exact intBs_iff.mp h
theorem intB_two {b:Nat} {x y:PV} (hx:intB b x = true) (hy:intB b y = true):intB b (.tup [x,y]) = true:=by simp [intB,intBs,hx,hy]
noncomputable abbrev Dd:=List PV × Nat
noncomputable def iPv (i:Nat):PV:=.int (i:Int)
noncomputable def manyOf (h:Str):Nat:=if h ∈ (["either","take","often"]:List Str) then 2 else 1
noncomputable def Wds (ws:List PV):Prop:=∃ ds:List PyData,(∀ S,Dats S ws ds)∧PyData.canLayAll0 ds = true∧PyData.depthAll ds ≤ 100∧PyData.eqvAll ds ds = true
noncomputable def Step (R:List PV) (a:Nat) (d:Dd) (b:Nat):Prop:=∃ (h:Str) (r:List PV) (ts:List Nat),d.1 = .str h :: r∧PyData.strOk h = true∧Wds d.1∧R[a]? = some (.tup (d.1 ++ ts.map iPv))∧ts.length = manyOf h∧ts[d.2]? = some b∧b < R.length
inductive Wk (R:List PV):Nat→List Dd→Nat→List Nat→Prop
 | nil {a:Nat}:Wk R a [] a []
 | cons {a b c:Nat} {d:Dd} {ds:List Dd} {vis:List Nat}:Step R a d b→Wk R b ds c vis→Wk R a (d :: ds) c (b :: vis)
theorem Wk.len {R:List PV} {a b:Nat} {xs:List Dd} {u:List Nat} (h:Wk R a xs b u):u.length = xs.length:=by
 induction h with
 | nil=>rfl
 | cons _ _ ih=>simp [ih]
noncomputable def Seg (R:List PV) (f:Nat) (rs:List PV):Prop:=∀ i x,rs[i]? = some x→R[f + i]? = some x
theorem Seg.cons {R:List PV} {f:Nat} {x:PV} {rs:List PV} (h:Seg R f (x :: rs)):R[f]? = some x∧Seg R (f + 1) rs:=
 ⟨by simpa using h 0 x rfl,fun i y hy=>by have:=h (i + 1) y (by simpa using hy); rw [show f + 1 + i = f + (i + 1) by omega]; exact this⟩
theorem tr_thn {a b:Bd} {v:PV} (h:isTr (.thn a b) v = true):∃ x y,v = .tup [x,y]∧isTr a x = true∧isTr b y = true:=by
 cases v with
 | tup xs=>
  by_cases h2:xs.length = 2
  ·obtain ⟨x,y,rfl⟩:=two_of h2
   rw [isTr_thn,Bool.and_eq_true] at h
   exact ⟨x,y,rfl,h⟩
  ·rw [isTr_thn_tup h2] at h; cases h
 | int i=>rw [isTr_int] at h; cases h
 | str z=>rw [isTr_str] at h; cases h
 | _=>cases h
theorem tr_eit {a b:Bd} {v:PV} (h:isTr (.eit a b) v = true):∃ i y,v = .tup [.int i,y]∧((i = 0∧isTr a y = true) ∨ (i = 1∧isTr b y = true)):=by
 cases v with
 | tup xs=>
  by_cases h2:xs.length = 2
  ·obtain ⟨x,y,rfl⟩:=two_of h2
   cases x with
   | int i=>
    rw [isTr_eit] at h
    refine ⟨i,y,rfl,?_⟩
    by_cases h0:i = 0
    ·rw [if_pos h0] at h; exact .inl ⟨h0,h⟩
    ·rw [if_neg h0] at h
     by_cases h1:i = 1
     ·rw [if_pos h1] at h; exact .inr ⟨h1,h⟩
     ·rw [if_neg h1] at h; cases h
   | _=>cases h
  ·rw [isTr_eit_tup h2] at h; cases h
 | int i=>rw [isTr_int] at h; cases h
 | str z=>rw [isTr_str] at h; cases h
 | _=>cases h
theorem tr_tak {z:Str} {m:Int} {a b:Bd} {v:PV} (h:isTr (.tak z m a b) v = true):∃ i y,v = .tup [.int i,y]∧((i = 0∧isTr a y = true) ∨ (i = 1∧isTr b y = true)):=by
 cases v with
 | tup xs=>
  by_cases h2:xs.length = 2
  ·obtain ⟨x,y,rfl⟩:=two_of h2
   cases x with
   | int i=>
    rw [isTr_tak] at h
    refine ⟨i,y,rfl,?_⟩
    by_cases h0:i = 0
    ·rw [if_pos h0] at h; exact .inl ⟨h0,h⟩
    ·rw [if_neg h0] at h
     by_cases h1:i = 1
     ·rw [if_pos h1] at h; exact .inr ⟨h1,h⟩
     ·rw [if_neg h1] at h; cases h
   | _=>cases h
  ·rw [isTr_tak_tup h2] at h; cases h
 | int i=>rw [isTr_int] at h; cases h
 | str z=>rw [isTr_str] at h; cases h
 | _=>cases h
theorem tr_oft {a:Bd} {v:PV} (h:isTr (.oft a) v = true):∃ xs,v = .tup xs∧xs.all (isGo a) = true:=by
 cases v with
 | tup xs=>rw [isTr_oft] at h; exact ⟨xs,rfl,h⟩
 | int i=>rw [isTr_int] at h; cases h
 | str z=>rw [isTr_str] at h; cases h
 | _=>cases h
section
variable {js us:List Str} (hj:∀ z ∈ js,IsW z) (hu:∀ z ∈ us,IsW z)
end
section
variable {js us:List Str} (hj:∀ z ∈ js,IsW z) (hu:∀ z ∈ us,IsW z)
include hj hu
end
theorem sz_thn {a b:Bd} {v w:PV} {l l1 l2:Int} (h1:l1 ≤ l) (h2:l2 ≤ l1) (z1:szP v ≤ 3 * a.size * (1 + (l - l1).toNat)) (z2:szP w ≤ 3 * b.size * (1 + (l1 - l2).toNat)):szP (.tup [v,w]) ≤ 3 * (Bd.thn a b).size * (1 + (l - l2).toNat):=by
 simp only [szP,szPs,Bd.size]
 have e:(l - l2).toNat = (l - l1).toNat + (l1 - l2).toNat:=by omega
 rw [e]
 generalize (l - l1).toNat = u at *
 generalize (l1 - l2).toNat = w at *
 have p1:3 * a.size * (1 + u) ≤ 3 * a.size * (1 + (u + w)):=Nat.mul_le_mul_left _ (by omega)
 have p2:3 * b.size * (1 + w) ≤ 3 * b.size * (1 + (u + w)):=Nat.mul_le_mul_left _ (by omega)
 have p3:3 * (a.size + b.size + 1) * (1 + (u + w)) = 3 * a.size * (1 + (u + w)) + 3 * b.size * (1 + (u + w)) + 3 * (1 + (u + w)):=by
  rw [show 3 * (a.size + b.size + 1) = 3 * a.size + 3 * b.size + 3 by omega,Nat.add_mul,Nat.add_mul]
 omega
theorem sz_two {a b c:Bd} {n u:Nat} {v:PV} {i:Int} (hs:n = a.size + b.size + 1) (hc:c.size ≤ a.size + b.size) (z:szP v ≤ 3 * c.size * (1 + u)):szP (.tup [.int i,v]) ≤ 3 * n * (1 + u):=by
 simp only [szP,szPs]
 have p1:3 * c.size * (1 + u) ≤ 3 * (a.size + b.size) * (1 + u):=Nat.mul_le_mul_right _ (Nat.mul_le_mul_left _ hc)
 have p3:3 * n * (1 + u) = 3 * (a.size + b.size) * (1 + u) + 3 * (1 + u):=by
  rw [hs,show 3 * (a.size + b.size + 1) = 3 * (a.size + b.size) + 3 by omega,Nat.add_mul]
 omega
noncomputable abbrev TrToSpec (n:Nat) (w:Sp3):Prop:=∀ {S:Sto} {d l x:Addr} {t:Bd} {left wide:Int} {Q:VK3} {E:XK3},Deal S d l→S x = some (.lst [.int left])→x ≠ d→x ≠ l→0 ≤ left→1 ≤ wide→wide ≤ 2 ^ 60→t.dep ≤ n→
  (∀ v S' left',isTr t v = true→Thg 3 (2 * t.dep) v→intB (2 ^ 60) v = true→0 ≤ left'→left' ≤ left→szP v ≤ 3 * t.size * (1 + (left - left').toNat)→Deal S' d l→S' x = some (.lst [.int left'])→OthX d l x S S'→Q v S')→w [.ref d,t.pv,.ref x,.int wide] S Q E
theorem sp_trto {xd s0:Sp3} (sp_draw:DrawSpec xd) (n:Nat) (ih:TrToSpec n s0):TrToSpec (n + 1) (fn3 9 (b__law_trace_to xd s0)):=by
 intro S d l x t left wide Q E D hx hxd hxl h0 hw1 hw2 hd k
 unfold b__law_trace_to
 refine fnS ?_
 rw [show start3 9 [PV.ref d,t.pv,PV.ref x,PV.int wide] = [some (.ref d),some t.pv,some (.ref x),some (.int wide),none,none,none,none,none] from rfl]
 refine seqS fun N hN=>?_
 simp only [if3,tst,op3,v3,lk,c3]
 rw [Bd.pv_eq]
 simp only [idx3,at0,eq3,Bool.false_bne,decide_eq_true_eq]
 by_cases ht:t.hd = ("then":Str)
 ·rw [if_pos ht]
  obtain ⟨a,b,rfl⟩:=(Bd.hd_thn t).mp ht
  simp only [Bd.dep] at hd
  walk_at "y"
  simp only [Bd.tl,at1,at2]
  refine ih (t:=a) D hx hxd hxl h0 hw1 hw2 (by omega) fun v1 S1 l1 i1 t1 n1 q0 q1 z1 D1 x1 O1=>?_
  refine ih (t:=b) D1 x1 hxd hxl q0 hw1 hw2 (by omega) fun v2 S2 l2 i2 t2 n2 r0 r1 z2 D2 x2 O2=>?_
  exact k (.tup [v1,v2]) S2 l2 (by rw [isTr_thn,i1,i2]; rfl) ((Thg.two (by decide) (t1.mono (Nat.le_refl _) (show _ ≤ 2 * max a.dep b.dep by omega)) (t2.mono (Nat.le_refl _) (by omega))).mono (Nat.le_refl _) (by simp only [Bd.dep]; omega)) (intB_two n1 n2) r0 (by omega) (sz_thn q1 r1 z1 z2) D2 x2 (O1.trans O2)
 rw [if_neg ht]
 refine hN _ _ (seqS fun N hN=>?_)
 simp only [if3,or3,tst,op3,v3,lk,c3]
 simp only [idx3,at0,eq3,Bool.false_bne,decide_eq_true_eq]
 have two:∀ (hd2:List PV) (a b:Bd) (N':St3→Sto→Prop),.str t.hd :: t.tl = hd2 ++ [a.pv,b.pv]→a.dep ≤ n→b.dep ≤ n→(t.dep = max a.dep b.dep + 1)→(t.size = a.size + b.size + 1)→(∀ (i:Int) y,isTr t (.tup [.int i,y]) = if i = 0 then isTr a y else if i = 1 then isTr b y else false)→
   cons3 (set3 5 (call3 xd [v3 0,c3 (.int 2)])) (ret3 (tup3 [v3 5,call3 s0 [v3 0,op3 idx3 (v3 1) (op3 sub3' (v3 5) (c3 (.int 2))),v3 2,v3 3]])) { nx:=N',rt:=Q,ex:=noX } [some (.ref d),some (.tup (.str t.hd :: t.tl)),some (.ref x),some (.int wide),none,none,none,none,none] S:=by
  intro hd2 a b N' e hda hdb hdep hsz etr
  rw [e]
  refine seqS fun N2 hN2=>?_
  walk_at "x"
  refine sp_draw D (by decide) (by decide) fun i S1 i0 i1 D1 O1=>?_
  refine hN2 _ _ ?_
  have hi:i = 0 ∨ i = 1:=by omega
  walk_at "x"
  rw [at_side hi]
  have go:∀ c:Bd,c.dep ≤ n→c.dep ≤ max a.dep b.dep→c.size ≤ a.size + b.size→(∀ y,isTr t (.tup [.int i,y]) = isTr c y)→s0 [.ref d,c.pv,.ref x,.int wide] S1 (fun v S2=>Q (.tup [.int i,v]) S2) noX:=fun c hc hc2 hc3 ec=>by
   refine ih (t:=c) D1 (O1 _ _ hx hxd hxl) hxd hxl h0 hw1 hw2 hc fun v1 S2 l1 j1 t1 n1 q0 q1 z1 D2 x1 O2=>?_
   exact k (.tup [.int i,v1]) S2 l1 (by rw [ec,j1]) ((Thg.two (by decide) (.int i) t1).mono (Nat.le_refl _) (by rw [hdep]; omega)) (intB_two (intB_int (by rcases hi with rfl | rfl <;> decide)) n1) q0 q1 (sz_two hsz hc3 z1) D2 x1 (O1.x.trans O2)
  rcases hi with rfl | rfl
  ·exact go a hda (Nat.le_max_left _ _) (by omega) fun y=>by rw [etr]; rfl
  ·exact go b hdb (Nat.le_max_right _ _) (by omega) fun y=>by rw [etr]; rfl
 by_cases he:t.hd = ("either":Str)
 ·rw [if_pos he,if_pos trivial]
  cases t with
  | eit a b=>simp only [Bd.dep] at hd; exact two [.str "either"] a b _ rfl (by omega) (by omega) rfl rfl (fun _ _=>rfl)
  | _=>simp [Bd.hd,ofS_inj] at he
 rw [if_neg he]
 by_cases hk:t.hd = ("take":Str)
 ·rw [if_pos hk]
  cases t with
  | tak z mm a b=>simp only [Bd.dep] at hd; exact two [.str "take",.str z,.int mm] a b _ rfl (by omega) (by omega) rfl rfl (fun _ _=>rfl)
  | _=>simp [Bd.hd,ofS_inj] at hk
 rw [if_neg hk]
 refine hN _ _ (seqS fun N hN=>?_)
 walk_at "x"
 intro pf hpf
 have dpf:=D.free hpf
 have hpx:pf ≠ x:=fun h=>by rw [h,hx] at hpf; cases hpf
 have D1:Deal (upd3 S pf (.lst [])) d l:=D.new hpf
 have x1:(upd3 S pf (.lst [])) x = some (.lst [.int left]):=by rw [upd3_ne hpx.symm]; exact hx
 have O1:OthX d l x S (upd3 S pf (.lst [])):=(Oth.new hpf).x
 have f1:(upd3 S pf (.lst [])) pf = some (.lst []):=upd3_same
 generalize upd3 S pf (.lst []) = S1 at D1 x1 O1 f1
 refine hN _ _ (seqS fun N hN=>?_)
 simp only [for3,rng1,op3,call3,args3,callB3,v3,lk,c3]
 refine sp_draw D1 (by decide) (by decide) fun r S2 r0 r1 D2 O2=>?_
 have x2:=O2 _ _ x1 hxd hxl
 have f2:=O2 _ _ f1 dpf.1 dpf.2
 have O02:=O1.trans (O2.x (x:=x))
 simp only [idx3,at0,eq3,tint3,mul3,Bool.false_bne,decide_eq_true_eq]
 by_cases ho:t.hd = ("often":Str)
 ·rw [if_pos ho]
  refine ⟨mulL (by omega) (by omega),by omega,by omega,?_⟩
  obtain ⟨a,rfl⟩:=(Bd.hd_oft t).mp ho
  simp only [Bd.dep] at hd
  obtain ⟨rr,er⟩:∃ rr:Nat,r * 1 = (rr:Int):=⟨r.toNat,by omega⟩
  rw [er,Int.toNat_natCast]
  refine forL_by (fun done σ S'=>∃ (vs:List PV) (l2:Int) (x6 x7:Option PV),σ = [some (.ref d),some (Bd.oft a).pv,some (.ref x),some (.int wide),none,none,some (.ref pf),x6,x7]∧vs.length ≤ done.length∧done.length ≤ rr∧(∀ v ∈ vs,isGo a v = true∧Thg 3 (2 * a.dep + 1) v∧intB (2 ^ 60) v = true)∧0 ≤ l2∧l2 ≤ left∧szPs vs ≤ (3 * a.size + 2) * (left - l2).toNat∧Deal S' d l∧S' x = some (.lst [.int l2])∧S' pf = some (.lst vs)∧OthX d l x S S') ⟨[],left,_,_,rfl,Nat.le_refl _,Nat.zero_le _,by simp,h0,Int.le_refl _,by simp [szPs],D2,x2,f2,O02⟩ (fun _ _ _ _=>trivial) ?_ ?_
  ·rintro done y rest σ S3 K e ⟨vs,l2,x6,x7,rfl,hv,hdl,hvs,q0,q1,hsz,D3,x3,f3,O3⟩ hK
   obtain ⟨rfl,hi⟩:=num_mem e
   simp only [Tg.put,List.set_cons_succ,List.set_cons_zero]
   simp only [if3,tst,op3,v3,lk,c3,idx3,x3,at0,gt3,int3,decide_eq_true_eq]
   by_cases hl2:0 < l2
   ·rw [if_pos hl2]
    refine seqS fun N2 hN2=>?_
    walk_at "x"
    simp only [x3,at0,ixN]
    have e1:(if (0:Int) ≤ 0 then if (0:Int) < (([PV.int l2]:List PV).length:Nat) then some (0:Int).toNat else none else if -((([PV.int l2]:List PV).length:Nat):Int) ≤ 0 then some (0 + ((([PV.int l2]:List PV).length:Nat):Int)).toNat else none) = some 0:=rfl
    rw [e1]
    dsimp only
    have D4:Deal (upd3 S3 x (.lst [.int (l2 - 1)])) d l:=D3.upd hxd hxl
    have x4:(upd3 S3 x (.lst [.int (l2 - 1)])) x = some (.lst [.int (l2 - 1)]):=upd3_same
    have f4:(upd3 S3 x (.lst [.int (l2 - 1)])) pf = some (.lst vs):=by rw [upd3_ne hpx]; exact f3
    have O4:OthX d l x S (upd3 S3 x (.lst [.int (l2 - 1)])):=O3.trans .upd
    refine hN2 _ _ ?_
    show cons3 _ _ _ _ (upd3 S3 x (.lst [.int (l2 - 1)]))
    generalize upd3 S3 x (.lst [.int (l2 - 1)]) = S4 at D4 x4 f4 O4
    refine seqS fun N3 hN3=>?_
    walk_at "x"
    intro pl hpl
    have dpl:=D4.free hpl
    have nfl:pf ≠ pl:=fun h=>by rw [h,hpl] at f4; cases f4
    have nxl:x ≠ pl:=fun h=>by rw [h,hpl] at x4; cases x4
    refine sp_draw (D4.new hpl) (by decide) (by decide) fun g S5 g0 g1 D5 O5=>?_
    have p5:=O5 _ _ (upd3_same (S:=S4) (o:=.lst [.int 3,.int wide])) dpl.1 dpl.2
    have x5:=O5 _ _ (by rw [upd3_ne nxl]; exact x4) hxd hxl
    have f5:=O5 _ _ (by rw [upd3_ne nfl]; exact f4) dpf.1 dpf.2
    have O05:OthX d l x S S5:=O4.trans ((Oth.new hpl).trans O5).x
    simp only [p5]
    obtain ⟨w,hw,hwm⟩:=at_draw (xs:=[PV.int 3,.int wide]) g0 (by simpa using g1)
    rw [hw]
    obtain ⟨ww,rfl,ww1,ww2⟩:∃ ww,w = .int ww∧1 ≤ ww∧ww ≤ 2 ^ 60:=by
     simp only [List.mem_cons,List.not_mem_nil,or_false] at hwm
     rcases hwm with rfl | rfl
     ·exact ⟨3,rfl,by omega,by omega⟩
     ·exact ⟨wide,rfl,hw1,hw2⟩
    dsimp only
    refine sp_draw D5 (by omega) (by omega) fun m S6 m0 m1 D6 O6=>?_
    have x6':=O6 _ _ x5 hxd hxl
    have f6:=O6 _ _ f5 dpf.1 dpf.2
    have O06:=O05.trans (O6.x (x:=x))
    refine hN3 _ _ ?_
    walk_at "x"
    unfold Bd.pv
    simp only [at1,f6,true_and]
    refine ih (t:=a) D6 x6' hxd hxl (by omega) hw1 hw2 (by omega) fun v S7 l7 i7 t7 n7 a0 a1 z7 D7 x7' O7=>?_
    have f7:=O7 _ _ f6 dpf.1 dpf.2 hpx
    simp only [f7]
    refine ⟨Nat.lt_of_lt_of_le (show _ < 1000 by omega) (by decide),?_⟩
    refine hK _ _ ⟨vs ++ [.tup [.int (1 + m),v]],l7,_,_,rfl,by simp; omega,by rw [List.length_append]; exact hi,fun w hw=>?_,a0,by omega,?_,D7.upd dpf.1 dpf.2,by rw [upd3_ne hpx.symm]; exact x7',upd3_same,?_⟩
    ·rcases List.mem_append.mp hw with hw | hw
     ·exact hvs w hw
     ·rw [List.mem_singleton.mp hw]
      exact ⟨by simp [isGo,i7]; omega,Thg.two (by decide) (.int _) t7,intB_two (intB_int (by omega)) n7⟩
    ·rw [szPs_append]
     simp only [szP,szPs]
     have e:(left - l7).toNat = (left - l2).toNat + (1 + (l2 - 1 - l7).toNat):=by omega
     rw [e]
     generalize (left - l2).toNat = u at *
     generalize (l2 - 1 - l7).toNat = w at *
     have p1:(3 * a.size + 2) * (u + (1 + w)) = (3 * a.size + 2) * u + (3 * a.size * (1 + w) + 2 * (1 + w)):=by rw [Nat.mul_add,Nat.add_mul (3 * a.size) 2 (1 + w)]
     omega
    ·intro b o hb h1 h2 h3
     have hbp:b ≠ pf:=fun h=>by rw [h,hpf] at hb; cases hb
     rw [upd3_ne hbp]
     exact O7 _ _ (O06 _ _ hb h1 h2 h3) h1 h2 h3
   ·rw [if_neg hl2]
    exact hK _ _ ⟨vs,l2,_,_,rfl,by simp; omega,by rw [List.length_append]; exact hi,hvs,q0,q1,hsz,D3,x3,f3,O3⟩
  ·rintro σ S3 ⟨vs,l2,x6,x7,rfl,hv,hdl,hvs,q0,q1,hsz,D3,x3,f3,O3⟩
   refine hN _ _ ?_
   walk_at "x"
   simp only [f3]
   refine k (.tup vs) S3 l2 ?_ (.tup (by omega) fun v hv=>(hvs v hv).2.1) (intB_tup fun v hv=>(hvs v hv).2.2) q0 q1 ?_ D3 x3 O3
   case refine_2=>
    simp only [szP,Bd.size]
    generalize (left - l2).toNat = u at *
    have p1:3 * (a.size + 1) * (1 + u) = 3 * a.size * u + 3 * a.size + 3 * u + 3:=by rw [show 3 * (a.size + 1) = 3 * a.size + 3 by omega,Nat.add_mul,Nat.mul_add (3 * a.size)]; omega
    have p2:(3 * a.size + 2) * u = 3 * a.size * u + 2 * u:=Nat.add_mul _ _ _
    omega
   rw [isTr_oft,List.all_eq_true]
   exact fun v hv=>(hvs v hv).1
 ·rw [if_neg ho]
  refine ⟨mulL (by omega) (by omega),by omega,by omega,?_⟩
  rw [Int.mul_zero]
  refine ⟨trivial,?_⟩
  refine hN _ _ ?_
  walk_at "x"
  simp only [f2]
  have hp:t.plain = true:=by
   cases t with
   | oft a=>exact absurd rfl ho
   | thn=>exact absurd rfl ht
   | eit=>exact absurd rfl he
   | tak=>exact absurd rfl hk
   | _=>rfl
  refine k (.tup []) S2 left (by rw [isTr_plain hp]; rfl) (Thg.nil.mono (Nat.le_refl _) (show 0 + 1 ≤ _ by have:=t.dep_pos; omega)) rfl h0 (Int.le_refl _) (by simp [szP,szPs]; have:=t.dep_pos; have:=t.dep_size; omega) D2 x2 O02
noncomputable abbrev AnySpec (w:Sp3):Prop:=∀ {S:Sto} {d l:Addr} {Q:VK3} {E:XK3},Deal S d l→(∀ js ds S',HOk 6 js [] ds→1 ≤ ds.length→ds.length ≤ 4→js.length ≤ 8→Deal S' d l→Oth d l S S'→Q (hpv js ds) S')→w [.ref d] S Q E
theorem sp_any {xd xh xw xb:Sp3} (sp_draw:DrawSpec xd) (sp_lh:LHouseSpec xh) (sp_words:WordsSpec xw) (n:Nat) (hn6:6 ≤ n) (sp_body:BodySpec n xb):AnySpec (fn3 4 (b__law_any_house xd xh xw xb)):=by
 intro Sa d l Q E Da k
 unfold b__law_any_house
 refine fnS ?_
 rw [show start3 4 [PV.ref d] = [some (.ref d),none,none,none] from rfl]
 refine seqS fun N hN=>?_
 walk_at "x"
 refine sp_draw Da (by decide) (by decide) fun r9 S0 _ _ D0 Oa=>?_
 simp only [Bool.false_bne,decide_eq_true_eq]
 split
 ·exact sp_lh (most:=4) (many:=4) (size:=20) D0 (by decide) (by decide) (by decide) (by decide) (by decide) fun js ds S' a b c e f g=>k js ds S' a b c e f (Oa.trans g)
 refine hN _ _ (seqS fun N hN=>?_)
 walk_at "x"
 refine sp_words D0 (by decide) (by decide) fun p ns S hl hnd hw0 _ hpd hpl hp D O0=>?_
 have hl8':ns.length = 8:=hl
 have hl8:8 ≤ ns.length:=by omega
 have hl100:ns.length ≤ 100:=by omega
 have hw:∀ z ∈ ns,IsW z:=fun z hz=>(hw0 z hz).1
 refine hN _ _ ?_
 refine seqS fun N hN=>?_
 walk_at "x"
 refine sp_draw (m:=5) D (by omega) (by omega) fun r S1 r0 r1 D1 O1=>?_
 obtain ⟨j,rfl⟩:∃ j:Nat,r = (j:Int):=⟨r.toNat,by omega⟩
 have hp1:=O1 _ _ hp hpd hpl
 rw [hp1]
 dsimp only
 rw [cut_lo (by rw [List.length_map]; omega),← List.map_take]
 intro p2 hp2
 rw [upd3_same]
 dsimp only
 have D2:Deal (upd3 S1 p2 (.lst ((ns.take j).map PV.str))) d l:=D1.new hp2
 have O2:Oth d l S (upd3 S1 p2 (.lst ((ns.take j).map PV.str))):=O1.trans (.new hp2)
 have hp2':=Oth.new (o:=.lst ((ns.take j).map PV.str)) hp2 _ _ hp1 hpd hpl
 generalize upd3 S1 p2 (.lst ((ns.take j).map PV.str)) = S2 at D2 O2 hp2'
 refine hN _ _ (seqS fun N hN=>?_)
 walk_at "x"
 refine sp_draw (m:=4) D2 (by omega) (by omega) fun r4 S4 a0 a1 D4 O4=>?_
 obtain ⟨mm,em⟩:∃ mm:Nat,1 + r4 = (mm:Int):=⟨(1 + r4).toNat,by omega⟩
 dsimp only
 rw [em]
 have hp4:=O4 _ _ hp2' hpd hpl
 have hg:(4:Nat) ≤ 4:=Nat.le_refl _
 refine hN _ _ ?_
 walk_at "x"
 refine ⟨by omega,by omega,?_⟩
 rw [Int.toNat_natCast]
 have hjl:(ns.take j).length ≤ 8:=by rw [List.length_take]; omega
 refine compL_by (fun done ys S'=>∃ ds:List (Str × Bd),ys = ds.map dpv∧ds.length = done.length∧ds.map Prod.fst = (ns.drop 4).take done.length∧done.length ≤ mm∧(∀ q ∈ ds,q.2.good (ns.take j) []∧q.2.dep ≤ 6∧q.2.size ≤ 60)∧Deal S' d l∧Oth d l S4 S') ⟨[],rfl,rfl,rfl,Nat.zero_le _,by simp,D4,.refl⟩ ?_ ?_ ?_
 ·rintro done ys S' ⟨ds,rfl,e,_,hd,_⟩
  exact ⟨trivial,line100 (by rw [List.length_map,e]; omega)⟩
 ·rintro done x rest ys S' K e ⟨ds,rfl,e2,e3,hd,hc,D',O'⟩ hK
  obtain ⟨rfl,hi⟩:=num_mem e
  walk_at "x"
  try simp only [yes3,if_true]
  have hp':=O' _ _ hp4 hpd hpl
  simp only [hp']
  have hlt:4 + done.length < ns.length:=by omega
  have hat:atI (ns.map PV.str) (4 + (done.length:Int)) = some (.str ns[4 + done.length]):=by
   have:(4 + (done.length:Int)) = ((4 + done.length:Nat):Int):=by omega
   rw [this]
   exact at_nat (by rw [List.getElem?_map,List.getElem?_eq_getElem hlt]; rfl)
  rw [hat]
  dsimp only
  intro px hx
  have dx:=D'.free hx
  refine sp_body (D'.new hx) upd3_same dx.1 dx.2 (by omega) (by omega) (by omega) (by decide) (by omega) fun t S5 l1 tg td q0 q1 D5 hx5 O5=>?_
  have O5':Oth d l S' S5:=fun a o ha h1 h2=>O5 a o (by rw [upd3_ne (fun e=>by rw [e,hx] at ha; cases ha)]; exact ha) h1 h2 (fun e=>by rw [e,hx] at ha; cases ha)
  refine hK _ _ ⟨ds ++ [(ns[4 + done.length],t)],by simp [dpv],by simp [e2],?_,by rw [List.length_append]; exact hi,fun y hy=>?_,D5,O'.trans O5'⟩
  ·rw [List.map_append,e3,List.length_append,List.length_singleton,List.take_succ,List.getElem?_drop,List.getElem?_eq_getElem hlt]
   rfl
  ·rcases List.mem_append.mp hy with hy | hy
   ·exact hc y hy
   ·rw [List.mem_singleton.mp hy]; exact ⟨tg,show t.dep ≤ 6 by omega,show t.size ≤ 60 by omega⟩
 rintro ys S5 ⟨ds,rfl,e,ef,_,hds,D5,O5⟩
 rw [ints_len] at e ef
 intro p6 hp6
 rw [upd3_same]
 dsimp only
 have sub:∀ q ∈ ds,q.1 ∈ ns:=fun q hq=>by
  have:q.1 ∈ ds.map Prod.fst:=List.mem_map.mpr ⟨q,hq,rfl⟩
  rw [ef] at this
  exact List.mem_of_mem_drop (List.mem_of_mem_take this)
 refine k (ns.take j) ds _ ⟨⟨by omega,by omega,fun z hz=>hw z (List.mem_of_mem_take hz),by simp,fun q hq=>hw _ (sub q hq),fun q hq=>(hds q hq).1,fun q hq=>by have:=(hds q hq).2.1; omega,fun q hq=>(hds q hq).2.2⟩,hnd.sublist (List.take_sublist _ _),by rw [ef]; exact hnd.sublist ((List.take_sublist _ _).trans (List.drop_sublist _ _)),fun q hq=>(hds q hq).2.1⟩ (by omega) (by omega) hjl (D5.new hp6) (Oa.trans (O0.trans (O2.trans (O4.trans (O5.trans (.new hp6))))))
noncomputable def cf (n:Int):PV:=.tup [.int (M3.lowT n 2520),.int (M3.lowB n 2520)]
theorem cf_zero:(.tup [.int 0,.int 1]:PV) = cf 0:=by
 have h1:M3.lowT 0 2520 = 0:=by decide +kernel
 have h2:M3.lowB 0 2520 = 1:=by decide +kernel
 unfold cf
 rw [h1,h2]
theorem cf_low (n:Int):M3.Low (M3.lowT n 2520) (M3.lowB n 2520):=M3.low_low (by decide)
theorem cf_worth (n:Int):M3.lowT n 2520 * 2520 = n * M3.lowB n 2520:=M3.low_worth (by decide)
theorem cf_bot (n:Int):0 < M3.lowB n 2520∧M3.lowB n 2520 ≤ 2520:=by
 refine ⟨(cf_low n).pos,?_⟩
 unfold M3.lowB
 rw [if_neg (by decide)]
 exact Int.ediv_le_self _ (by decide)
theorem cf_nonneg {n:Int} (h:0 ≤ n):0 ≤ M3.lowT n 2520:=by
 unfold M3.lowT
 rw [if_neg (by decide)]
 exact Int.ediv_nonneg h (Int.natCast_nonneg _)
theorem cf_le {n B:Int} (h0:0 ≤ n) (h:n ≤ B):M3.lowT n 2520 ≤ B:=by
 unfold M3.lowT
 rw [if_neg (by decide)]
 exact Int.le_trans (Int.ediv_le_self _ h0) h
theorem cf_cost {x y:Int} (h:Cost x y):(.tup [.int x,.int y]:PV) = cf (x * (2520 / y)):=by
 have hy:y = 1 ∨ y = 2 ∨ y = 3 ∨ y = 4 ∨ y = 5 ∨ y = 6 ∨ y = 7 ∨ y = 8 ∨ y = 9:=by have:=h.low.pos; have:=h.y1; omega
 have e:2520 / y * y = 2520:=by rcases hy with rfl | rfl | rfl | rfl | rfl | rfl | rfl | rfl | rfl <;> decide
 have u:=M3.low_unique h.low (x:=x * (2520 / y)) (y:=2520) (by decide) (by rw [Int.mul_assoc,e])
 unfold cf
 rw [u.1,u.2]
theorem cf_plus (n m:Int):(.tup [.int (M3.lowT (M3.lowT n 2520 * M3.lowB m 2520 + M3.lowT m 2520 * M3.lowB n 2520) (M3.lowB n 2520 * M3.lowB m 2520)),.int (M3.lowB (M3.lowT n 2520 * M3.lowB m 2520 + M3.lowT m 2520 * M3.lowB n 2520) (M3.lowB n 2520 * M3.lowB m 2520))]:PV) = cf (n + m):=by
 have u:=M3.low_unique (cf_low (n + m)) (x:=M3.lowT n 2520 * M3.lowB m 2520 + M3.lowT m 2520 * M3.lowB n 2520) (y:=M3.lowB n 2520 * M3.lowB m 2520) (Int.mul_pos (cf_bot n).1 (cf_bot m).1) (by
  have h1:=cf_worth n; have h2:=cf_worth m; have h3:=cf_worth (n + m)
  generalize M3.lowT n 2520 = a at *; generalize M3.lowB n 2520 = b at *; generalize M3.lowT m 2520 = c at *; generalize M3.lowB m 2520 = d at *
  generalize M3.lowT (n + m) 2520 = L at *; generalize M3.lowB (n + m) 2520 = B at *
  grind)
 unfold cf
 rw [u.1,u.2]
noncomputable abbrev Ty:=Int × List (Int × Int)
noncomputable def jn (p q:Int × Int):Int × Int:=(p.1 + q.1,if q.2 - p.1 > p.2 then q.2 - p.1 else p.2)
noncomputable def Ty.join (t u:Ty):Ty:=(t.1 + u.1,List.zipWith jn t.2 u.2)
theorem compL_enc {α:Type} {g:Tg} {te:TE3} {σ':St3} {keep:Sto→Prop} {fin:List PV→Sto→Prop} {S:Sto} (enc f:α→PV) (hk:keep S):∀ (xs:List α) (ys:List PV),
  (∀ x ∈ xs,∃ σ2,g.put (enc x) σ' = some σ2∧∀ Q:VK3,Q (f x) S→te σ2 S Q noX)→ys.length + xs.length ≤ sizeLine→fin (ys ++ xs.map f) S→compL g yes3 te σ' keep fin (xs.map enc) ys S
 | [],ys,_,hl,hf=>⟨hk,by simpa using hl,by simpa using hf⟩
 | x :: r,ys,h,hl,hf=>by
  obtain ⟨σ2,e,h1⟩:=h x (by simp)
  refine ⟨hk,by simp at hl; omega,?_⟩
  rw [e]
  show te σ2 S (fun y S4=>compL g yes3 te σ' keep fin (r.map enc) (ys ++ [y]) S4) noX
  exact h1 _ (compL_enc enc f hk r (ys ++ [f x]) (fun y hy=>h y (by simp [hy])) (by simp at hl ⊢; omega) (by simpa using hf))
theorem lineK {n:Nat} (h:n ≤ 1000):n ≤ sizeLine:=Nat.le_trans h (by decide)
noncomputable abbrev CommonSpec (w:Sp3):Prop:=∀ {S:Sto} {a b:Int} {Q:VK3} {E:XK3},0 ≤ a→0 ≤ b→Q (.int (Int.gcd a b)) S→w [.int a,.int b] S Q E
theorem sp_common:CommonSpec (fn3 3 b_common):=by
 intro S a b Q E ha hb k
 unfold b_common
 refine fnS ?_
 rw [show start3 3 [PV.int a,PV.int b] = [some (.int a),some (.int b),none] from rfl]
 refine seqS fun N hN=>?_
 refine ⟨fun n σ S'=>S' = S∧∃ (x y:Int) (z:Option PV),σ = [some (.int x),some (.int y),z]∧0 ≤ x∧0 ≤ y∧Int.gcd x y = Int.gcd a b∧y.toNat = n,⟨_,rfl,a,b,none,rfl,ha,hb,rfl,rfl⟩,?_⟩
 rintro n σ S' ⟨rfl,x,y,z,rfl,hx,hy,hg,rfl⟩
 walk_at "x"
 simp only [Bool.true_bne,Bool.not_eq_true',decide_eq_false_iff_not]
 split
 ·rename_i hp
  refine ⟨fun σ' S''=>S'' = S'∧∃ (x' y':Int) (z':Option PV),σ' = [some (.int x'),some (.int y'),z']∧0 ≤ x'∧0 ≤ y'∧Int.gcd x' y' = Int.gcd a b∧y'.toNat < y.toNat,?_,?_⟩
  ·rintro σ' S'' ⟨rfl,x',y',z',rfl,h1,h2,h3,h4⟩
   exact ⟨_,h4,rfl,x',y',z',rfl,h1,h2,h3,rfl⟩
  ·have e:x.fmod y = x % y:=fmodP hy
   have l1:=Int.emod_nonneg x (b:=y) hp
   have l2:=Int.emod_lt_of_pos x (show 0 < y by omega)
   refine ⟨hp,rfl,y,x.fmod y,_,rfl,hy,by omega,?_,by omega⟩
   rw [M3.fmod_gcd]; exact hg
 ·rename_i hp
  have hy0:y = 0:=by omega
  subst hy0
  refine hN _ _ ?_
  walk_at "x"
  rw [if_neg (by omega)]
  have hxg:x = (Int.gcd a b:Int):=by
   rw [← hg]
   rw [Int.gcd_zero_right]
   omega
  rw [hxg]
  exact k
noncomputable abbrev FracSpec (w:Sp3):Prop:=∀ {S:Sto} {t b:Int} {Q:VK3} {E:XK3},0 ≤ t→0 < b→b.natAbs < 2 ^ 8000→Q (.tup [.int (M3.lowT t b),.int (M3.lowB t b)]) S→w [.int t,.int b] S Q E
theorem sp_frac {xc:Sp3} (sp_common:CommonSpec xc):FracSpec (fn3 3 (b_fraction xc)):=by
 intro S t b Q E ht hb hs k
 unfold b_fraction
 refine fnS ?_
 rw [show start3 3 [PV.int t,PV.int b] = [some (.int t),some (.int b),none] from rfl]
 refine seqS fun N hN=>?_
 walk_at "x"
 refine sp_common ht (by omega) (hN _ _ (seqS fun N hN=>?_))
 walk_at "x"
 rw [if_neg (by rw [decide_eq_true_eq]; omega)]
 refine hN _ _ ?_
 walk_at "x"
 have gp:(0:Int) < (Int.gcd t b:Int):=Int.natCast_pos.mpr (M3.gcd_pos (by omega))
 have gl:=M3.gcd_le (t:=t) (b:=b) (by omega)
 have cd:∀ z,CDiv3 z (Int.gcd t b:Int):=fun z=>⟨by omega,Nat.lt_of_le_of_lt (by omega) hs⟩
 refine ⟨cd _,cd _,?_⟩
 have d1:=(M3.fdiv_low (t:=t) (b:=b) (by omega))
 rw [if_neg (by omega)] at d1
 rw [d1.1,d1.2]
 exact k
theorem bots (n m:Int):0 < M3.lowB n 2520 * M3.lowB m 2520∧(M3.lowB n 2520 * M3.lowB m 2520).natAbs < 2 ^ 8000:=by
 obtain ⟨a,b⟩:=cf_bot n
 obtain ⟨c,d⟩:=cf_bot m
 have p:=Int.mul_pos a c
 have q:M3.lowB n 2520 * M3.lowB m 2520 ≤ 2520 * 2520:=Int.mul_le_mul b d (by omega) (by decide)
 exact ⟨p,small8000 (by omega)⟩
theorem mulB (i n:Int):IntMulOk i (M3.lowB n 2520):=by have:=cf_bot n; exact mulR (by omega) (by omega)
noncomputable abbrev PlusSpec (w:Sp3):Prop:=∀ {S:Sto} {n m:Int} {Q:VK3} {E:XK3},0 ≤ n→0 ≤ m→Q (cf (n + m)) S→w [cf n,cf m] S Q E
theorem sp_plus {xf:Sp3} (sp_frac:FracSpec xf):PlusSpec (fn3 2 (b_plus xf)):=by
 intro S n m Q E hn hm k
 unfold b_plus
 refine fnS ?_
 rw [show start3 2 [cf n,cf m] = [some (cf n),some (cf m)] from rfl]
 simp only [cf]
 walk_at "x"
 simp only [at0,at1]
 refine ⟨mulB _ _,mulB _ _,mulB _ _,?_⟩
 have b:=bots n m
 refine sp_frac (Int.add_nonneg (Int.mul_nonneg (cf_nonneg hn) (Int.le_of_lt (cf_bot m).1)) (Int.mul_nonneg (cf_nonneg hm) (Int.le_of_lt (cf_bot n).1))) b.1 b.2 ?_
 rw [cf_plus]
 exact k
theorem sp_lplus {xf:Sp3} (sp_low:LowSpec xf):PlusSpec (fn3 2 (b__law_plus xf)):=by
 intro S n m Q E hn hm k
 unfold b__law_plus
 refine fnS ?_
 rw [show start3 2 [cf n,cf m] = [some (cf n),some (cf m)] from rfl]
 simp only [cf]
 walk_at "x"
 simp only [at0,at1]
 refine ⟨mulB _ _,mulB _ _,mulB _ _,?_⟩
 have b:=bots n m
 refine sp_low b.1 b.2 ?_
 rw [cf_plus]
 exact k
noncomputable def Ty.es (t:Ty):List PV:=t.2.map fun p=>.int p.1
noncomputable def Ty.dm (t:Ty):List PV:=t.2.map fun p=>.int p.2
noncomputable def Ty.pv (t:Ty):PV:=.tup [cf t.1,.tup t.es,.tup t.dm]
noncomputable def jpv (js:List Str):PV:=.tup (js.map PV.str)
noncomputable def mvl (js:List Str) (z:Str) (e d:Int):List (Int × Int):=js.map fun j=>if j = z then (e,d) else (0,0)
noncomputable abbrev ThingsSpec (w:Sp3):Prop:=∀ {S:Sto} {js:List Str} {z:Str} {m:Int} {Q:VK3} {E:XK3},js.length ≤ 1000→(∀ S',Ext S S'→Q (.tup (js.map fun j=>.int (if j = z then m else 0))) S')→w [jpv js,.str z,.int m] S Q E
theorem sp_things:ThingsSpec (fn3 3 b_things_of):=by
 intro S js z m Q E hj k
 unfold b_things_of
 refine fnS ?_
 rw [show start3 3 [jpv js,.str z,.int m] = [some (jpv js),some (.str z),some (.int m)] from rfl]
 unfold jpv
 walk_at "x"
 refine compL_enc PV.str (fun j=>.int (if j = z then m else 0)) trivial js [] (fun j hj=>⟨_,rfl,fun Q q=>?_⟩) (by simpa using lineK hj) fun p hp=>?_
 ·walk_at "x"
  simp only [Bool.false_bne,decide_eq_true_eq]
  split
  ·rename_i h; rw [if_pos h] at q; exact q
  ·rename_i h; rw [if_neg h] at q; exact q
 ·simp only [List.nil_append,upd3_same]
  exact k _ (.new hp)
theorem zw_map {α β γ δ:Type} (f:α→β→γ) (g:γ→δ) (xs:List α) (ys:List β):(xs.zip ys).map (fun z=>g (f z.1 z.2)) = (List.zipWith f xs ys).map g:=by
 rw [List.zip,List.map_zipWith,List.map_zipWith]
theorem zip_es (t u:Ty):zipped t.es u.es = (t.2.zip u.2).map fun z=>.tup [.int z.1.1,.int z.2.1]:=by
 unfold zipped Ty.es
 rw [List.zip_map,List.map_map]
 rfl
theorem es_join (t u:Ty):(t.2.zip u.2).map (fun z=>PV.int (z.1.1 + z.2.1)) = (t.join u).es:=zw_map jn (fun p=>PV.int p.1) t.2 u.2
noncomputable abbrev AddedSpec (w:Sp3):Prop:=∀ {S:Sto} {t u:Ty} {Q:VK3} {E:XK3},t.2.length ≤ 1000→(∀ S',Ext S S'→Q (.tup (t.join u).es) S')→w [.tup t.es,.tup u.es] S Q E
theorem sp_added:AddedSpec (fn3 2 b_added):=by
 intro S t u Q E hj k
 unfold b_added
 refine fnS ?_
 rw [show start3 2 [.tup t.es,.tup u.es] = [some (.tup t.es),some (.tup u.es)] from rfl]
 walk_at "x"
 rw [zip_es]
 refine compL_enc _ (fun z=>PV.int (z.1.1 + z.2.1)) trivial _ [] (fun z hz=>⟨_,rfl,fun Q q=>?_⟩) ?_ fun p hp=>?_
 ·walk_at "x"
  exact q
 ·rw [List.length_nil,Nat.zero_add,List.length_zip]
  exact lineK (by omega)
 ·simp only [List.nil_append,upd3_same]
  rw [es_join]
  exact k _ (.new hp)
theorem mvl_es (js:List Str) (z:Str) (e d:Int):js.map (fun j=>PV.int (if j = z then e else 0)) = Ty.es (0,mvl js z e d):=by
 unfold Ty.es mvl
 rw [List.map_map]
 exact List.map_congr_left fun j _=>by dsimp only [Function.comp]; split <;> rfl
theorem go_of {a:Bd} {g:PV} (h:isGo a g = true):∃ m y,g = .tup [.int m,y]∧1 ≤ m∧isTr a y = true:=by
 unfold isGo at h
 split at h
 ·rename_i m y
  rw [Bool.and_eq_true,decide_eq_true_eq] at h
  exact ⟨m,y,rfl,h.1,h.2⟩
 ·cases h
structure Wl where
 jars:List Int
 cost:Int
 rows:List (Int × List Int × Int)
 st:Option Int
 ov:Bool
noncomputable def Wl.run (w:Wl):Bool:=w.st.isNone && !w.ov
noncomputable def Wl.go (w:Wl) (f:Wl→Wl):Wl:=if w.run = true then f w else w
noncomputable def Wl.come (M:Nat) (r:Int) (w:Wl):Wl:=w.go fun w=>if M ≤ w.rows.length then { w with ov:=true } else { w with rows:=w.rows ++ [(r,w.jars,w.cost)] }
noncomputable def Wl.bring (js:List Str) (z:Str) (m:Int) (w:Wl):Wl:={ w with jars:=w.jars.set (js.idxOf z) (w.jars.getD (js.idxOf z) 0 + m) }
noncomputable def Wl.pay (n:Int) (w:Wl):Wl:={ w with cost:=w.cost + n }
noncomputable def iter (f:Wl→Wl):Nat→Wl→Wl
 | 0,w=>w
 | n + 1,w=>iter f n (f w)
noncomputable def pr1:PV→PV
 | .tup (x :: _)=>x
 | v=>v
noncomputable def pr2:PV→PV
 | .tup [_,y]=>y
 | v=>v
noncomputable def nm:PV→Int
 | .int i=>i
 | _=>0
noncomputable def lsP:PV→List PV
 | .tup xs=>xs
 | _=>[]
noncomputable def wk (M:Nat) (js:List Str):Bd→Int→PV→Wl→Wl
 | .rest,_,_,w=>w
 | .pay x y,r,_,w=>(w.come M r).go (Wl.pay (x * (2520 / y)))
 | .put z m,r,_,w=>(w.come M r).go (Wl.bring js z m)
 | .use _,r,_,w=>w.come M r
 | .thn a b,r,v,w=>wk M js b (r + a.rows) (pr2 v) (wk M js a r (pr1 v) w)
 | .eit a b,r,v,w=>(w.come M r).go fun w=>if nm (pr1 v) = 0 then wk M js a (r + 1) (pr2 v) w else wk M js b (r + 1 + a.rows) (pr2 v) w
 | .tak z m a b,r,v,w=>(w.come M r).go fun w=>if nm (pr1 v) = 0 then (if w.jars.getD (js.idxOf z) 0 < m then { w.bring js z (-m) with st:=some r } else wk M js a (r + 1) (pr2 v) (w.bring js z (-m))) else wk M js b (r + 1 + a.rows) (pr2 v) w
 | .oft a,r,v,w=>(w.come M r).go fun w=>(lsP v).foldl (fun w g=>iter (fun w=>(wk M js a (r + 1) (pr2 g) w).go (Wl.come M r)) (nm (pr1 g)).toNat w) w
theorem Wl.go_no {w:Wl} {f:Wl→Wl} (h:w.run = false):w.go f = w:=by unfold Wl.go; rw [h]; rfl
theorem Wl.go_yes {w:Wl} {f:Wl→Wl} (h:w.run = true):w.go f = f w:=by unfold Wl.go; rw [h]; rfl
theorem come_no {M:Nat} {r:Int} {w:Wl} (h:w.run = false):w.come M r = w:=Wl.go_no h
theorem come_yes {M:Nat} {r:Int} {w:Wl} (h:w.run = true):w.come M r = if M ≤ w.rows.length then { w with ov:=true } else { w with rows:=w.rows ++ [(r,w.jars,w.cost)] }:=Wl.go_yes h
theorem run_ov {w:Wl} (h:w.ov = true):w.run = false:=by unfold Wl.run; rw [h]; simp
theorem run_st {w:Wl} {r:Int} (h:w.st = some r):w.run = false:=by unfold Wl.run; rw [h]; rfl
theorem run_iff {w:Wl}:w.run = true ↔ w.st = none∧w.ov = false:=by unfold Wl.run; simp
structure Sm (M:Nat) (f g:Wl→Wl):Prop where
 s:∀ w,w.rows.length ≤ M→((g w).rows.length ≤ M→f w = g w)∧(M < (g w).rows.length→(f w).ov = true)
 m:∀ w,w.rows.length ≤ (g w).rows.length
 st:∀ w,w.run = false→f w = w
theorem Sm.id {M:Nat}:Sm M (fun w=>w) (fun w=>w):=⟨fun w h=>⟨fun _=>rfl,fun h2=>by omega⟩,fun _=>Nat.le_refl _,fun _ _=>rfl⟩
theorem Sm.comp {M:Nat} {f1 f2 g1 g2:Wl→Wl} (a:Sm M f1 g1) (b:Sm M f2 g2):Sm M (fun w=>f2 (f1 w)) (fun w=>g2 (g1 w)):=by
 refine ⟨fun w h=>⟨fun h2=>?_,fun h2=>?_⟩,fun w=>Nat.le_trans (a.m w) (b.m _),fun w h=>by show f2 (f1 w) = w; rw [a.st w h,b.st w h]⟩
 ·have:=b.m (g1 w)
  have h3:(g1 w).rows.length ≤ M:=by omega
  show f2 (f1 w) = g2 (g1 w)
  rw [(a.s w h).1 h3]
  exact (b.s _ h3).1 h2
 ·by_cases h3:(g1 w).rows.length ≤ M
  ·show (f2 (f1 w)).ov = true
   rw [(a.s w h).1 h3]
   exact (b.s _ h3).2 h2
  ·have h4:=(a.s w h).2 (by omega)
   show (f2 (f1 w)).ov = true
   rw [b.st _ (run_ov h4)]
   exact h4
theorem Sm.go {M:Nat} {f g:Wl→Wl} (s:∀ w,w.run = true→w.rows.length ≤ M→((g w).rows.length ≤ M→f w = g w)∧(M < (g w).rows.length→(f w).ov = true)) (m:∀ w,w.run = true→w.rows.length ≤ (g w).rows.length):Sm M (fun w=>w.go f) (fun w=>w.go g):=by
 refine ⟨fun w h=>?_,fun w=>?_,fun w h=>Wl.go_no h⟩
 ·cases hr:w.run with
  | false=>rw [Wl.go_no hr,Wl.go_no hr]; exact ⟨fun _=>rfl,fun h2=>by omega⟩
  | true=>rw [Wl.go_yes hr,Wl.go_yes hr]; exact s w hr h
 ·cases hr:w.run with
  | false=>rw [Wl.go_no hr]; exact Nat.le_refl _
  | true=>rw [Wl.go_yes hr]; exact m w hr
theorem sm_come {M M':Nat} (hM:M ≤ M') (r:Int):Sm M (Wl.come M r) (Wl.come M' r):=by
 refine Sm.go (fun w _ h=>?_) (fun w _=>?_)
 ·split
  ·split
   ·exact ⟨fun _=>rfl,fun h2=>by dsimp only at h2; omega⟩
   ·omega
  ·split
   ·refine ⟨fun h2=>?_,fun _=>rfl⟩
    dsimp only at h2
    rw [List.length_append,List.length_singleton] at h2
    omega
   ·exact ⟨fun _=>rfl,fun h2=>by dsimp only at h2; rw [List.length_append,List.length_singleton] at h2; omega⟩
 ·split
  ·exact Nat.le_refl _
  ·dsimp only; rw [List.length_append]; omega
theorem sm_iter {M:Nat} {f g:Wl→Wl} (a:Sm M f g):∀ n,Sm M (iter f n) (iter g n)
 | 0=>Sm.id
 | n + 1=>a.comp (sm_iter a n)
theorem sm_fold {M:Nat} {f g:PV→Wl→Wl} (a:∀ v,Sm M (f v) (g v)):∀ l:List PV,Sm M (fun w=>l.foldl (fun w v=>f v w) w) (fun w=>l.foldl (fun w v=>g v w) w)
 | []=>Sm.id
 | v :: l=>(a v).comp (sm_fold a l)
theorem sm_wk {M M':Nat} (hM:M ≤ M') (js:List Str):∀ (t:Bd) (r:Int) (v:PV),Sm M (wk M js t r v) (wk M' js t r v)
 | .rest,_,_=>Sm.id
 | .pay x y,r,_=>(sm_come hM r).comp (Sm.go (f:=Wl.pay (x * (2520 / y))) (g:=Wl.pay (x * (2520 / y))) (fun w _ h=>⟨fun _=>rfl,fun h2=>by have:(Wl.pay (x * (2520 / y)) w).rows = w.rows:=rfl; rw [this] at h2; omega⟩) fun w _=>Nat.le_refl _)
 | .put z m,r,_=>(sm_come hM r).comp (Sm.go (f:=Wl.bring js z m) (g:=Wl.bring js z m) (fun w _ h=>⟨fun _=>rfl,fun h2=>by have:(Wl.bring js z m w).rows = w.rows:=rfl; rw [this] at h2; omega⟩) fun w _=>Nat.le_refl _)
 | .use _,r,_=>sm_come hM r
 | .thn a b,r,v=>(sm_wk hM js a r (pr1 v)).comp (sm_wk hM js b (r + a.rows) (pr2 v))
 | .eit a b,r,v=>(sm_come hM r).comp (Sm.go (fun w _ h=>by
   split
   ·exact (sm_wk hM js a (r + 1) (pr2 v)).s w h
   ·exact (sm_wk hM js b (r + 1 + a.rows) (pr2 v)).s w h) fun w _=>by
   split
   ·exact (sm_wk hM js a (r + 1) (pr2 v)).m w
   ·exact (sm_wk hM js b (r + 1 + a.rows) (pr2 v)).m w)
 | .tak z m a b,r,v=>(sm_come hM r).comp (Sm.go (fun w _ h=>by
   split
   ·split
    ·exact ⟨fun _=>rfl,fun h2=>by have:({ Wl.bring js z (-m) w with st:=some r }:Wl).rows = w.rows:=rfl; rw [this] at h2; omega⟩
    ·exact (sm_wk hM js a (r + 1) (pr2 v)).s (w.bring js z (-m)) h
   ·exact (sm_wk hM js b (r + 1 + a.rows) (pr2 v)).s w h) fun w _=>by
   split
   ·split
    ·exact Nat.le_refl _
    ·exact (sm_wk hM js a (r + 1) (pr2 v)).m (w.bring js z (-m))
   ·exact (sm_wk hM js b (r + 1 + a.rows) (pr2 v)).m w)
 | .oft a,r,v=>(sm_come hM r).comp (by
   have s:=sm_fold (M:=M) (f:=fun g w=>iter (fun w=>(wk M js a (r + 1) (pr2 g) w).go (Wl.come M r)) (nm (pr1 g)).toNat w) (g:=fun g w=>iter (fun w=>(wk M' js a (r + 1) (pr2 g) w).go (Wl.come M' r)) (nm (pr1 g)).toNat w)
    (fun g=>sm_iter ((sm_wk hM js a (r + 1) (pr2 g)).comp (Sm.go (fun w _ h=>(sm_come hM r).s w h) fun w _=>(sm_come hM r).m w)) _) (lsP v)
   exact Sm.go (fun w _ h=>s.s w h) fun w _=>s.m w)
theorem wk_no {M:Nat} {js:List Str} {t:Bd} {r:Int} {v:PV} {w:Wl} (h:w.run = false):wk M js t r v w = w:=(sm_wk (Nat.le_refl M) js t r v).st w h
noncomputable def whole (M:Nat) (js:List Str) (t:Bd) (v:PV) (w:Wl):Wl:=(wk M js t 0 v w).come M t.rows
theorem sm_whole {M M':Nat} (hM:M ≤ M') (js:List Str) (t:Bd) (v:PV):Sm M (whole M js t v) (whole M' js t v):=(sm_wk hM js t 0 v).comp (sm_come hM t.rows)
theorem iter_ind {P:Wl→Prop} {f:Wl→Wl} (h:∀ w,P w→P (f w)):∀ n w,P w→P (iter f n w)
 | 0,_,q=>q
 | n + 1,w,q=>iter_ind h n (f w) (h w q)
theorem fold_ind {P:Wl→Prop} {f:PV→Wl→Wl} (h:∀ v w,P w→P (f v w)):∀ (l:List PV) (w:Wl),P w→P (l.foldl (fun w v=>f v w) w)
 | [],_,q=>q
 | v :: l,w,q=>fold_ind h l (f v w) (h v w q)
theorem go_ind {P P':Wl→Prop} {f:Wl→Wl} {w:Wl} (h0:P w) (h1:w.run = true→P' w) (h:w.run = true→P' w→P (f w)):P (w.go f):=by
 cases hr:w.run with
 | false=>rw [Wl.go_no hr]; exact h0
 | true=>rw [Wl.go_yes hr]; exact h hr (h1 hr)
theorem wk_ind {M:Nat} {js:List Str} {R:Int} (P P':Wl→Prop) (hc:∀ r w,0 ≤ r→r ≤ R→w.run = true→P w→P (w.come M r)∧((w.come M r).run = true→P' (w.come M r))) (h1:∀ w,P' w→P w)
  (hp:∀ w n,0 ≤ n→n ≤ 3000000→P' w→P (w.pay n)) (hb:∀ w z m,z ∈ js→1 ≤ m→m ≤ 9→P' w→P (w.bring js z m))
  (ht:∀ w z m r,0 ≤ r→r ≤ R→z ∈ js→1 ≤ m→m ≤ 9→P' w→if w.jars.getD (js.idxOf z) 0 < m then P { w.bring js z (-m) with st:=some r } else P (w.bring js z (-m))) :
  ∀ (t:Bd) (r:Int) (v:PV) (w:Wl),t.good js []→0 ≤ r→r + t.rows ≤ R→P w→P (wk M js t r v w):=by
 have cm:∀ r w,0 ≤ r→r ≤ R→P w→P (w.come M r)∧((w.come M r).run = true→P' (w.come M r)):=fun r w h0 hR q=>by
  cases hr:w.run with
  | false=>rw [come_no hr]; exact ⟨q,fun h=>by rw [hr] at h; cases h⟩
  | true=>exact hc r w h0 hR hr q
 intro t
 induction t with
 | rest=>intro r v w _ _ _ q; exact q
 | pay x y=>
  intro r v w g h0 hR q
  obtain ⟨c1,c2⟩:=cm r w h0 (by simp only [Bd.rows] at hR; omega) q
  have c:Cost x y:=g
  refine go_ind c1 c2 fun _ q'=>hp _ _ ?_ ?_ q'
  ·exact Int.mul_nonneg c.x0 (Int.ediv_nonneg (by decide) (by have:=c.low.pos; omega))
  ·have a1:2520 / y ≤ 2520:=Int.ediv_le_self _ (by decide)
   have a2:=c.x0; have a3:=c.x1
   have a4:0 ≤ 2520 / y:=Int.ediv_nonneg (by decide) (by have:=c.low.pos; omega)
   calc x * (2520 / y) ≤ 999 * (2520 / y):=Int.mul_le_mul_of_nonneg_right a3 a4
    _ ≤ 3000000:=by omega
 | put z m=>
  intro r v w g h0 hR q
  obtain ⟨c1,c2⟩:=cm r w h0 (by simp only [Bd.rows] at hR; omega) q
  exact go_ind c1 c2 fun _ q'=>hb _ z m g.1 g.2.1 g.2.2 q'
 | use z=>intro r v w g; exact absurd (show z ∈ [] from g) (by simp)
 | thn a b iha ihb=>
  intro r v w g h0 hR q
  simp only [Bd.rows] at hR
  exact ihb _ _ _ g.2 (by omega) (by omega) (iha _ _ _ g.1 h0 (by omega) q)
 | eit a b iha ihb=>
  intro r v w g h0 hR q
  simp only [Bd.rows] at hR
  obtain ⟨c1,c2⟩:=cm r w h0 (by omega) q
  refine go_ind c1 c2 fun _ q'=>?_
  split
  ·exact iha _ _ _ g.1 (by omega) (by omega) (h1 _ q')
  ·exact ihb _ _ _ g.2 (by omega) (by omega) (h1 _ q')
 | tak z m a b iha ihb=>
  intro r v w g h0 hR q
  simp only [Bd.rows] at hR
  obtain ⟨c1,c2⟩:=cm r w h0 (by omega) q
  refine go_ind c1 c2 fun _ q'=>?_
  have k:=ht _ z m r h0 (by omega) g.1 g.2.1 g.2.2.1 q'
  split
  ·split
   ·rename_i hj; rw [if_pos hj] at k; exact k
   ·rename_i hj; rw [if_neg hj] at k; exact iha _ _ _ g.2.2.2.1 (by omega) (by omega) k
  ·exact ihb _ _ _ g.2.2.2.2 (by omega) (by omega) (h1 _ q')
 | oft a iha=>
  intro r v w g h0 hR q
  simp only [Bd.rows] at hR
  obtain ⟨c1,c2⟩:=cm r w h0 (by omega) q
  refine go_ind c1 c2 fun _ q'=>?_
  refine fold_ind (f:=fun g w=>iter (fun w=>(wk M js a (r + 1) (pr2 g) w).go (Wl.come M r)) (nm (pr1 g)).toNat w) (fun u w q=>iter_ind (fun w q=>?_) _ w q) _ _ (h1 _ q')
  have k:=iha (r + 1) (pr2 u) w g (by omega) (by omega) q
  exact go_ind (P':=fun _=>True) k (fun _=>trivial) fun _ _=>(cm r _ h0 (by omega) k).1
theorem idx_spec {z:Str}:∀ {js:List Str},z ∈ js→js[js.idxOf z]? = some z∧(∀ j:Nat,j < js.idxOf z→js[j]? ≠ some z)∧js.idxOf z < js.length
 | [],h=>by simp at h
 | y :: js,h=>by
  rw [List.idxOf_cons]
  by_cases e:y = z
  ·subst e; simp
  ·have hz:z ∈ js:=by simpa [Ne.symm e] using h
   obtain ⟨a,b,c⟩:=idx_spec hz
   have e2:(y == z) = false:=by simpa using e
   rw [e2]
   refine ⟨by simpa using a,fun j hj=>?_,by simpa using c⟩
   cases j with
   | zero=>simpa using e
   | succ j=>simpa using b j (by simpa using hj)
theorem bring_mem {js:List Str} {z:Str} {m c:Int} {w:Wl} (h:c ∈ (w.bring js z m).jars):c ∈ w.jars ∨ ((js.idxOf z < w.jars.length)∧c = w.jars.getD (js.idxOf z) 0 + m):=by
 unfold Wl.bring at h
 dsimp only at h
 by_cases hl:js.idxOf z < w.jars.length
 ·rcases List.mem_or_eq_of_mem_set h with h | h
  ·exact .inl h
  ·exact .inr ⟨hl,h⟩
 ·rw [List.set_eq_of_length_le (by omega)] at h; exact .inl h
theorem getD_mem {xs:List Int} {i:Nat} (h:i < xs.length):xs.getD i 0 ∈ xs:=by rw [List.getD_eq_getElem?_getD,List.getElem?_eq_getElem h]; exact List.getElem_mem h
noncomputable def RowOk (n:Nat) (q:Int × List Int × Int):Prop:=(0 ≤ q.1∧q.1 ≤ 1000)∧q.2.1.length = n∧(∀ c ∈ q.2.1,-(2 ^ 40) ≤ c∧c ≤ 2 ^ 40)∧0 ≤ q.2.2∧q.2.2 ≤ 2 ^ 40
noncomputable def WIn (n M:Nat) (e:Int) (w:Wl):Prop:=w.jars.length = n∧(∀ c ∈ w.jars,-(10 ^ 9 + 9 * (w.rows.length:Int)) + e ≤ c∧c + e ≤ 10 ^ 9 + 9 * (w.rows.length:Int))∧0 ≤ w.cost∧w.cost + e * 400000 ≤ 3600000 * (w.rows.length:Int)∧w.rows.length ≤ M∧∀ q ∈ w.rows,RowOk n q
theorem WIn.come {n M:Nat} {w:Wl} {r:Int} (hM:M ≤ 2001) (h0:0 ≤ r) (h1:r ≤ 1000) (hr:w.run = true) (h:WIn n M 0 w):WIn n M 0 (w.come M r)∧((w.come M r).run = true→WIn n M 9 (w.come M r)):=by
 obtain ⟨a,b,c,d,e,f⟩:=h
 rw [come_yes hr]
 by_cases hl:M ≤ w.rows.length
 ·rw [if_pos hl]
  exact ⟨⟨a,b,c,d,e,f⟩,fun z=>by rw [run_ov rfl] at z; cases z⟩
 ·rw [if_neg hl]
  have hrow:∀ q ∈ w.rows ++ [(r,w.jars,w.cost)],RowOk n q:=fun q hq=>by
   rcases List.mem_append.mp hq with hq | hq
   ·exact f q hq
   ·rw [List.mem_singleton.mp hq]
    refine ⟨⟨h0,h1⟩,a,fun x hx=>?_,c,?_⟩
    ·have:=b x hx; omega
    ·dsimp only; omega
  have key:WIn n M 9 { w with rows:=w.rows ++ [(r,w.jars,w.cost)] }:=by
   refine ⟨a,fun x hx=>?_,c,?_,?_,hrow⟩ <;> dsimp only <;> rw [List.length_append,List.length_singleton]
   ·have:=b x hx; omega
   ·omega
   ·omega
  obtain ⟨k1,k2,k3,k4,k5,k6⟩:=key
  exact ⟨⟨k1,fun x hx=>by have:=k2 x hx; omega,k3,by omega,k5,k6⟩,fun _=>⟨k1,k2,k3,k4,k5,k6⟩⟩
theorem WIn.weak {n M:Nat} {w:Wl} (h:WIn n M 9 w):WIn n M 0 w:=let ⟨a,b,c,d,e,f⟩:=h; ⟨a,fun x hx=>by have:=b x hx; omega,c,by omega,e,f⟩
theorem WIn.bring {js:List Str} {M:Nat} {w:Wl} {z:Str} {m:Int} (m1:-9 ≤ m) (m2:m ≤ 9) (h:WIn js.length M 9 w):WIn js.length M 0 (w.bring js z m):=by
 obtain ⟨a,b,c,d,e,f⟩:=h
 refine ⟨by unfold Wl.bring; dsimp only; rw [List.length_set]; exact a,fun x hx=>?_,c,show w.cost + 0 * 400000 ≤ 3600000 * (w.rows.length:Int) by omega,e,f⟩
 show _∧x + 0 ≤ 10 ^ 9 + 9 * (w.rows.length:Int)
 rw [show (w.bring js z m).rows.length = w.rows.length from rfl]
 rcases bring_mem hx with hx | ⟨hl,hx⟩
 ·have:=b x hx; omega
 ·have:=b _ (getD_mem hl); omega
theorem WIn.wk {js:List Str} {M:Nat} (hM:M ≤ 2001) (t:Bd) (r:Int) (v:PV) (w:Wl) (g:t.good js []) (h0:0 ≤ r) (h1:r + t.rows ≤ 1000) (h:WIn js.length M 0 w):WIn js.length M 0 (wk M js t r v w):=by
 refine wk_ind (M:=M) (js:=js) (R:=1000) (WIn js.length M 0) (WIn js.length M 9) (fun r w a b c d=>WIn.come hM a b c d) (fun w h=>h.weak) (fun w n n0 n1 ⟨a,b,c,d,e,f⟩=>⟨a,fun x hx=>by have:=b x hx; show _∧x + 0 ≤ 10 ^ 9 + 9 * (w.rows.length:Int); rw [show (w.pay n).rows.length = w.rows.length from rfl]; omega,show 0 ≤ w.cost + n by omega,show w.cost + n + 0 * 400000 ≤ 3600000 * (w.rows.length:Int) by omega,e,f⟩) (fun w z m _ m1 m2 h=>h.bring (by omega) m2) (fun w z m r _ _ _ m1 m2 h=>?_) t r v w g h0 h1 h
 split
 ·exact h.bring (by omega) (by omega)
 ·exact h.bring (by omega) (by omega)
theorem WIn.whole {js:List Str} {M:Nat} (hM:M ≤ 2001) (t:Bd) (v:PV) (w:Wl) (g:t.good js []) (h1:t.rows ≤ 1000) (h:WIn js.length M 0 w):WIn js.length M 0 (whole M js t v w):=by
 have k:=WIn.wk hM t 0 v w g (by decide) (by omega) h
 unfold C.whole
 cases hr:(C.wk M js t 0 v w).run with
 | false=>rw [come_no hr]; exact k
 | true=>exact (WIn.come hM (by omega) (by omega) hr k).1
noncomputable def Rich (e:Int) (w:Wl):Prop:=w.st = none∧w.rows.length ≤ 2001∧∀ c ∈ w.jars,20000 + e ≤ c + 9 * (w.rows.length:Int)
theorem Rich.come {w:Wl} {r:Int} (hr:w.run = true) (h:Rich 0 w):Rich 0 (w.come 2001 r)∧((w.come 2001 r).run = true→Rich 9 (w.come 2001 r)):=by
 obtain ⟨a,b,c⟩:=h
 rw [come_yes hr]
 by_cases hl:2001 ≤ w.rows.length
 ·rw [if_pos hl]
  exact ⟨⟨a,b,c⟩,fun z=>by rw [run_ov rfl] at z; cases z⟩
 ·rw [if_neg hl]
  have k:Rich 9 { w with rows:=w.rows ++ [(r,w.jars,w.cost)] }:=by
   refine ⟨a,?_,fun x hx=>?_⟩ <;> dsimp only <;> rw [List.length_append,List.length_singleton]
   ·omega
   ·have:=c x hx; omega
  exact ⟨⟨k.1,k.2.1,fun x hx=>by have:=k.2.2 x hx; omega⟩,fun _=>k⟩
theorem Rich.wk {js:List Str} (t:Bd) (r:Int) (v:PV) (w:Wl) (g:t.good js []) (hn:w.jars.length = js.length) (h0:0 ≤ r) (h1:r + t.rows ≤ 1000) (h:Rich 0 w):Rich 0 (wk 2001 js t r v w):=by
 have br:∀ (w:Wl) (z:Str) (m:Int),-9 ≤ m→Rich 9 w→Rich 0 (w.bring js z m):=fun w z m m1 h=>by
  obtain ⟨a,b,c⟩:=h
  refine ⟨a,b,fun x hx=>?_⟩
  rw [show (w.bring js z m).rows.length = w.rows.length from rfl]
  rcases bring_mem hx with hx | ⟨hl,hx⟩
  ·have:=c x hx; omega
  ·have:=c _ (getD_mem hl); omega
 refine (wk_ind (M:=2001) (js:=js) (R:=1000) (fun w=>Rich 0 w∧w.jars.length = js.length) (fun w=>Rich 9 w∧w.jars.length = js.length) (fun r w _ _ c d=>?_) (fun w ⟨⟨a,b,c⟩,d⟩=>⟨⟨a,b,fun x hx=>by have:=c x hx; omega⟩,d⟩) (fun w n n0 n1 ⟨⟨a,b,c⟩,d⟩=>⟨⟨a,b,fun x hx=>by have:=c x hx; show 20000 + 0 ≤ x + 9 * (w.rows.length:Int); omega⟩,d⟩) (fun w z m _ m1 m2 h=>⟨br w z m (by omega) h.1,by unfold Wl.bring; dsimp only; rw [List.length_set]; exact h.2⟩) (fun w z m r _ _ hz m1 m2 h=>?_) t r v w g h0 h1 ⟨h,hn⟩).1
 ·obtain ⟨k1,k2⟩:=Rich.come (r:=r) c d.1
  have:(w.come 2001 r).jars = w.jars:=by rw [come_yes c]; split <;> rfl
  exact ⟨⟨k1,by rw [this]; exact d.2⟩,fun z=>⟨k2 z,by rw [this]; exact d.2⟩⟩
 ·obtain ⟨⟨a,b,c⟩,d⟩:=h
  have hl:js.idxOf z < w.jars.length:=by rw [d]; exact (idx_spec hz).2.2
  have:=c _ (getD_mem hl)
  rw [if_neg (by omega)]
  exact ⟨br w z (-m) (by omega) ⟨a,b,c⟩,by unfold Wl.bring; dsimp only; rw [List.length_set]; exact d⟩
theorem Rich.whole {js:List Str} (t:Bd) (v:PV) (w:Wl) (g:t.good js []) (hn:w.jars.length = js.length) (h1:t.rows ≤ 1000) (h:Rich 0 w):(whole 2001 js t v w).st = none:=by
 have k:=Rich.wk t 0 v w g hn (by decide) (by omega) h
 unfold C.whole
 cases hr:(C.wk 2001 js t 0 v w).run with
 | false=>rw [come_no hr]; exact k.1
 | true=>exact (Rich.come hr k).1.1
end C
namespace C
open PySem L2 L3 Wd
open CY
noncomputable def stv:Option Int→PV
 | none=>.non
 | some r=>.int r
noncomputable def rpv (q:Int × List Int × Int):PV:=.tup [.int q.1,.tup (q.2.1.map PV.int),cf q.2.2]
noncomputable def wK (js:List Str) (pj:Addr) (cost:Int) (pr:Addr) (lim:Int) (st:Option Int) (ov:Bool):List (Key × PV):=[(Sum.inr "names",jpv js),(Sum.inr "jars",.ref pj),(Sum.inr "cost",cf cost),(Sum.inr "rows",.ref pr),(Sum.inr "limit",.int lim),(Sum.inr "stuck",stv st),(Sum.inr "over",.bl ov)]
structure WAt (S:Sto) (a pj pr:Addr) (js:List Str) (lim:Nat) (w:Wl):Prop where
 d:S a = some (.dct (wK js pj w.cost pr lim w.st w.ov))
 j:S pj = some (.lst (w.jars.map PV.int))
 r:S pr = some (.lst (w.rows.map rpv))
 ne:pj ≠ pr
noncomputable def OthW (a pj pr:Addr) (S S':Sto):Prop:=∀ b o,S b = some o→b ≠ a→b ≠ pj→b ≠ pr→S' b = some o
theorem OthW.refl {a pj pr:Addr} {S:Sto}:OthW a pj pr S S:=fun _ _ h _ _ _=>h
theorem OthW.trans {a pj pr:Addr} {S S1 S2:Sto} (x:OthW a pj pr S S1) (y:OthW a pj pr S1 S2):OthW a pj pr S S2:=fun b o h h1 h2 h3=>y b o (x b o h h1 h2 h3) h1 h2 h3
section
variable {js:List Str} {pj pr:Addr} {c lim:Int} {st:Option Int} {ov:Bool}
theorem v_names:val3 (wK js pj c pr lim st ov) (Sum.inr "names") = some (jpv js):=by simp [val3,wK,sS,ofS_inj]
theorem v_jars:val3 (wK js pj c pr lim st ov) (Sum.inr "jars") = some (.ref pj):=by simp [val3,wK,sS,ofS_inj]
theorem v_cost:val3 (wK js pj c pr lim st ov) (Sum.inr "cost") = some (cf c):=by simp [val3,wK,sS,ofS_inj]
theorem v_rows:val3 (wK js pj c pr lim st ov) (Sum.inr "rows") = some (.ref pr):=by simp [val3,wK,sS,ofS_inj]
theorem v_limit:val3 (wK js pj c pr lim st ov) (Sum.inr "limit") = some (.int lim):=by simp [val3,wK,sS,ofS_inj]
theorem v_stuck:val3 (wK js pj c pr lim st ov) (Sum.inr "stuck") = some (stv st):=by simp [val3,wK,sS,ofS_inj]
theorem v_over:val3 (wK js pj c pr lim st ov) (Sum.inr "over") = some (.bl ov):=by simp [val3,wK,sS,ofS_inj]
theorem p_over (b:Bool):put3 (wK js pj c pr lim st ov) (Sum.inr "over") (.bl b) = wK js pj c pr lim st b:=by simp [put3,wK,sS,ofS_inj]
theorem p_cost (n:Int):put3 (wK js pj c pr lim st ov) (Sum.inr "cost") (cf n) = wK js pj n pr lim st ov:=by simp [put3,wK,sS,ofS_inj]
theorem p_stuck (r:Int):put3 (wK js pj c pr lim st ov) (Sum.inr "stuck") (.int r) = wK js pj c pr lim (some r) ov:=by simp [put3,wK,sS,ofS_inj,stv]
theorem wK_len:(wK js pj c pr lim st ov).length < sizeLine:=by show 7 < sizeLine; decide
end
section
variable {S:Sto} {a pj pr:Addr} {js:List Str} {lim:Nat} {w:Wl}
theorem WAt.na (A:WAt S a pj pr js lim w):pj ≠ a∧pr ≠ a:=⟨fun e=>(by have:=A.j; rw [e,A.d] at this; cases this),fun e=>(by have:=A.r; rw [e,A.d] at this; cases this)⟩
theorem WAt.ud {w':Wl} (A:WAt S a pj pr js lim w) (h1:w'.jars = w.jars) (h2:w'.rows = w.rows):WAt (upd3 S a (.dct (wK js pj w'.cost pr lim w'.st w'.ov))) a pj pr js lim w':=⟨upd3_same,by rw [upd3_ne A.na.1,h1]; exact A.j,by rw [upd3_ne A.na.2,h2]; exact A.r,A.ne⟩
theorem WAt.uj {w':Wl} (A:WAt S a pj pr js lim w) (h1:w'.cost = w.cost) (h2:w'.rows = w.rows) (h3:w'.st = w.st) (h4:w'.ov = w.ov):WAt (upd3 S pj (.lst (w'.jars.map PV.int))) a pj pr js lim w':=⟨by rw [upd3_ne A.na.1.symm,h1,h3,h4]; exact A.d,upd3_same,by rw [upd3_ne A.ne.symm,h2]; exact A.r,A.ne⟩
theorem WAt.ur {w':Wl} (A:WAt S a pj pr js lim w) (h1:w'.cost = w.cost) (h2:w'.jars = w.jars) (h3:w'.st = w.st) (h4:w'.ov = w.ov):WAt (upd3 S pr (.lst (w'.rows.map rpv))) a pj pr js lim w':=⟨by rw [upd3_ne A.na.2.symm,h1,h3,h4]; exact A.d,by rw [upd3_ne A.ne,h2]; exact A.j,upd3_same,A.ne⟩
theorem OthW.ud {o:SO}:OthW a pj pr S (upd3 S a o):=fun b u h h1 _ _=>by rw [upd3_ne h1]; exact h
theorem OthW.uj {o:SO}:OthW a pj pr S (upd3 S pj o):=fun b u h _ h1 _=>by rw [upd3_ne h1]; exact h
theorem OthW.ur {o:SO}:OthW a pj pr S (upd3 S pr o):=fun b u h _ _ h1=>by rw [upd3_ne h1]; exact h
end
noncomputable abbrev LRowsSpec (n:Nat) (x:Sp3):Prop:=∀ {S:Sto} {t:Bd} {Q:VK3} {E:XK3},t.dep ≤ n→Q (.int t.rows) S→x [t.pv] S Q E
theorem sp_lrows {s0:Sp3} (n:Nat) (ih:LRowsSpec n s0):LRowsSpec (n + 1) (fn3 1 (b__law_rows s0)):=by
 intro S t Q E hd k
 unfold b__law_rows
 refine fnS ?_
 rw [show start3 1 [t.pv] = [some t.pv] from rfl]
 cases t with
 | rest=>simp only [Bd.pv]; walk_at "y"; exact k
 | pay x y=>simp only [Bd.pv]; walk_at "y"; exact k
 | put z m=>simp only [Bd.pv]; walk_at "y"; exact k
 | use z=>simp only [Bd.pv]; walk_at "y"; exact k
 | oft b=>
  simp only [Bd.dep] at hd
  simp only [Bd.pv]; walk_at "y"
  refine ih (by omega) ?_
  simp only [Bd.rows] at k
  show Q (.int (1 + (b.rows:Int))) S
  rw [show (1:Int) + (b.rows:Int) = ((b.rows + 1:Nat):Int) by omega]
  exact k
 | thn b c=>
  simp only [Bd.dep] at hd
  simp only [Bd.pv]; walk_at "y"
  refine ih (by omega) (ih (by omega) ?_)
  exact k
 | eit b c=>
  simp only [Bd.dep] at hd
  simp only [Bd.pv]; walk_at "y"
  refine ih (by omega) (ih (by omega) ?_)
  simp only [Bd.rows] at k
  show Q (.int (1 + (b.rows:Int) + (c.rows:Int))) S
  rw [show (1:Int) + (b.rows:Int) + (c.rows:Int) = ((b.rows + c.rows + 1:Nat):Int) by omega]
  exact k
 | tak z m b c=>
  simp only [Bd.dep] at hd
  simp only [Bd.pv]; walk_at "y"
  refine ih (by omega) (ih (by omega) ?_)
  simp only [Bd.rows] at k
  show Q (.int (1 + (b.rows:Int) + (c.rows:Int))) S
  rw [show (1:Int) + (b.rows:Int) + (c.rows:Int) = ((b.rows + c.rows + 1:Nat):Int) by omega]
  exact k
noncomputable abbrev LComeSpec (x:Sp3):Prop:=∀ {S:Sto} {a pj pr:Addr} {js:List Str} {lim:Nat} {w:Wl} {r:Int} {Q:VK3} {E:XK3},WAt S a pj pr js lim w→w.run = true→w.rows.length ≤ 5000→(∀ S',WAt S' a pj pr js lim (w.come (lim + 1) r)→OthW a pj pr S S'→Q (.bl (!(w.come (lim + 1) r).ov)) S')→x [.ref a,.int r] S Q E
theorem sp_lcome:LComeSpec (fn3 2 b__law_come):=by
 intro S a pj pr js lim w r Q E A hr hl k
 unfold b__law_come
 refine fnS ?_
 rw [show start3 2 [PV.ref a,PV.int r] = [some (.ref a),some (.int r)] from rfl]
 rw [come_yes hr] at k
 have hov:=(run_iff.mp hr).2
 refine seqS fun N hN=>?_
 walk_at "x"
 simp only [A.d,v_rows,v_limit,A.r,List.length_map,p_over]
 refine ⟨wK_len,?_⟩
 by_cases hm:lim + 1 ≤ w.rows.length
 ·rw [if_pos hm] at k
  rw [show decide ((lim:Int) < (w.rows.length:Int)) = true from decide_eq_true (by omega)]
  have A1:WAt (upd3 S a (.dct (wK js pj w.cost pr lim w.st true))) a pj pr js lim { w with ov:=true }:=A.ud (w':={ w with ov:=true }) rfl rfl
  refine hN _ _ (seqS fun N hN=>?_)
  walk_at "x"
  simp only [A1.d,v_over,Bool.not_true,Bool.false_eq_true,if_false]
  refine hN _ _ ?_
  walk_at "x"
  simp only [A1.d,v_over]
  exact k _ A1 .ud
 ·rw [if_neg hm] at k
  rw [show decide ((lim:Int) < (w.rows.length:Int)) = false from decide_eq_false (by omega)]
  have A1:WAt (upd3 S a (.dct (wK js pj w.cost pr lim w.st false))) a pj pr js lim { w with ov:=false }:=A.ud (w':={ w with ov:=false }) rfl rfl
  refine hN _ _ (seqS fun N hN=>?_)
  walk_at "x"
  simp only [A1.d,v_over,v_rows,v_jars,v_cost,A1.r,A1.j,Bool.not_false,if_true,true_and,List.length_map]
  refine ⟨Nat.lt_of_le_of_lt hl (by decide),?_⟩
  have A2:WAt (upd3 (upd3 S a (.dct (wK js pj w.cost pr lim w.st false))) pr (.lst (w.rows.map rpv ++ [.tup [.int r,.tup (w.jars.map PV.int),cf w.cost]]))) a pj pr js lim { w with rows:=w.rows ++ [(r,w.jars,w.cost)] }:=by
   have:=A1.ur (w':={ w with rows:=w.rows ++ [(r,w.jars,w.cost)] }) rfl rfl rfl hov
   rw [List.map_append] at this
   exact this
  refine hN _ _ ?_
  walk_at "x"
  simp only [A2.d,v_over]
  exact k _ A2 (OthW.ud.trans .ur)
noncomputable def wkA (M:Nat) (js:List Str):Bd→Int→PV→Wl→Wl
 | .pay x y,_,_,w=>w.pay (x * (2520 / y))
 | .put z m,_,_,w=>w.bring js z m
 | .eit a b,r,v,w=>if nm (pr1 v) = 0 then wk M js a (r + 1) (pr2 v) w else wk M js b (r + 1 + a.rows) (pr2 v) w
 | .tak z m a b,r,v,w=>if nm (pr1 v) = 0 then (if w.jars.getD (js.idxOf z) 0 < m then { w.bring js z (-m) with st:=some r } else wk M js a (r + 1) (pr2 v) (w.bring js z (-m))) else wk M js b (r + 1 + a.rows) (pr2 v) w
 | .oft a,r,v,w=>(lsP v).foldl (fun w g=>iter (fun w=>(wk M js a (r + 1) (pr2 g) w).go (Wl.come M r)) (nm (pr1 g)).toNat w) w
 | _,_,_,w=>w
theorem go_self (w:Wl):(w.go fun w=>w) = w:=by unfold Wl.go; split <;> rfl
theorem wk_row {M:Nat} {js:List Str} {t:Bd} {r:Int} {v:PV} {w:Wl} (h:t.hasRow = true):wk M js t r v w = (w.come M r).go (wkA M js t r v):=by
 cases t with
 | rest=>cases h
 | thn a b=>cases h
 | use z=>exact (go_self _).symm
 | _=>rfl
noncomputable abbrev LWalkSpec (n:Nat) (x:Sp3):Prop:=∀ {S:Sto} {a pj pr:Addr} {js:List Str} {lim:Nat} {t:Bd} {r:Int} {v:PV} {w:Wl} {Q:VK3} {E:XK3},WAt S a pj pr js lim w→WIn js.length (lim + 1) 0 w→lim ≤ 2000→t.dep ≤ n→t.good js []→isTr t v = true→0 ≤ r→r + t.rows ≤ 1000→
 (∀ S',WAt S' a pj pr js lim (wk (lim + 1) js t r v w)→OthW a pj pr S S'→Q .non S')→x [t.pv,.int r,v,.ref a] S Q E
noncomputable abbrev LAtSpec (n:Nat) (x:Sp3):Prop:=∀ {S:Sto} {a pj pr:Addr} {js:List Str} {lim:Nat} {t:Bd} {r:Int} {v:PV} {w:Wl} {Q:VK3} {E:XK3},WAt S a pj pr js lim w→w.run = true→WIn js.length (lim + 1) 9 w→lim ≤ 2000→t.dep ≤ n→t.good js []→isTr t v = true→t.hasRow = true→0 ≤ r→r + t.rows ≤ 1000→
 (∀ S',WAt S' a pj pr js lim (wkA (lim + 1) js t r v w)→OthW a pj pr S S'→Q .non S')→x [t.pv,.int r,v,.ref a] S Q E
theorem row_hd {t:Bd} (h:t.hasRow = true):t.hd ≠ ("rest":Str)∧t.hd ≠ ("then":Str):=by
 cases t with
 | rest=>cases h
 | thn a b=>cases h
 | _=>exact ⟨by simp [Bd.hd,ofS_inj],by simp [Bd.hd,ofS_inj]⟩
theorem come_ov {M:Nat} {r:Int} {w:Wl} (h:w.run = true):(w.come M r).run = !(w.come M r).ov:=by
 obtain ⟨a,b⟩:=run_iff.mp h
 rw [come_yes h]; unfold Wl.run; split <;> simp [a,b]
theorem sp_lwalk {xr xc s0 s1:Sp3} (sp_rows:LRowsSpec 6 xr) (sp_come:LComeSpec xc) (n:Nat) (hn:n ≤ 6) (ihA:LAtSpec n s0) (ih:LWalkSpec (n - 1) s1):LWalkSpec n (fn3 4 (CY.b__law_walk xr xc s0 s1)):=by
 intro S a pj pr js lim t r v w Q E A win hlim hd hg htr h0 h1 k
 unfold CY.b__law_walk
 refine fnS ?_
 rw [show start3 4 [t.pv,PV.int r,v,PV.ref a] = [some t.pv,some (.int r),some v,some (.ref a)] from rfl]
 refine seqS fun N hN=>?_
 simp only [if3,or3,tst,op3,v3,lk,c3,idx3,key3,A.d,v_stuck,v_over,is3]
 cases hst:w.st with
 | some q=>
  rw [wk_no (run_st hst)] at k
  simp only [stv,Bool.true_bne,Bool.not_false,if_true,retN3]
  exact k S A .refl
 | none=>
  simp only [stv,Bool.true_bne,Bool.not_true,Bool.false_eq_true,if_false]
  cases hov:w.ov with
  | true=>
   rw [wk_no (run_ov hov)] at k
   simp only [if_true,retN3]
   exact k S A .refl
  | false=>
   have hr:w.run = true:=run_iff.mpr ⟨hst,hov⟩
   simp only [Bool.false_eq_true,if_false]
   cases hrow:t.hasRow with
   | false=>
    cases t with
    | rest=>
     simp only [Bd.pv]; walk_at "y"
     simp only [retN3]
     exact k S A .refl
    | thn b c=>
     simp only [Bd.dep] at hd
     simp only [Bd.rows] at h1
     obtain ⟨x,y,rfl,hx,hy⟩:=tr_thn htr
     simp only [Bd.pv]; walk_at "y"
     refine hN _ _ ?_
     walk_at "y"
     refine ih A win hlim (by omega) hg.1 hx h0 (by omega) fun S1 A1 O1=>?_
     refine sp_rows (by omega) ?_
     refine ih A1 (WIn.wk (by omega) b r x w hg.1 h0 (by omega) win) hlim (by omega) hg.2 hy (by omega) (by omega) fun S2 A2 O2=>?_
     exact k S2 A2 (O1.trans O2)
    | _=>cases hrow
   | true=>
    obtain ⟨q1,q2⟩:=row_hd hrow
    rw [wk_row hrow] at k
    rw [Bd.pv_eq]
    simp only [at0,eq3,q1,decide_false,Bool.false_bne,Bool.false_eq_true,if_false,nil3]
    refine hN _ _ ?_
    simp only [if3,tst,op3,v3,lk,c3,idx3,at0,eq3,q2,decide_false,Bool.false_bne,Bool.false_eq_true,if_false,call3,args3]
    refine sp_come A hr (by have:=win.2.2.2.2.1; omega) fun S1 A1 O1=>?_
    have wc:=WIn.come (by omega) h0 (by omega) hr win
    simp only [← come_ov hr]
    cases hr1:(w.come (lim + 1) r).run with
    | false=>
     rw [Wl.go_no hr1] at k
     simp only [Bool.false_eq_true,if_false,nil3]
     exact k S1 A1 O1
    | true=>
     rw [Wl.go_yes hr1] at k
     simp only [if_true,expr3,call3,args3,v3,lk]
     rw [← Bd.pv_eq]
     exact ihA A1 hr1 (wc.2 hr1) hlim hd hg htr hrow h0 h1 fun S2 A2 O2=>k S2 A2 (O1.trans O2)
theorem strsOf_map:∀ js:List Str,strsOf (js.map PV.str) = some js
 | []=>rfl
 | j :: js=>by rw [List.map_cons]; unfold strsOf; rw [strsOf_map js]; rfl
theorem idx_jar {js:List Str} {z:Str} {S:Sto} {Q:VK3} (h:z ∈ js) (q:Q (.int (js.idxOf z:Nat)) S):indexT3 (jpv js) [.str z] S Q:=by
 unfold indexT3 jpv
 simp only [strsOf_map]
 exact ⟨js.idxOf z,(idx_spec h).1,(idx_spec h).2.1,q⟩
theorem jar_at {cs:List Int} {i:Nat} (h:i < cs.length):atI (cs.map PV.int) (i:Int) = some (.int (cs.getD i 0)):=atI_nat (by rw [List.getElem?_map,List.getElem?_eq_getElem h,List.getD_eq_getElem?_getD,List.getElem?_eq_getElem h]; rfl)
theorem ixN_nat {n i:Nat} (h:i < n):ixN n (i:Int) = some i:=by unfold ixN; rw [if_pos (by omega),if_pos (by omega)]; simp
theorem jar_set {cs:List Int} {i:Nat} {m:Int}:(cs.map PV.int).set i (.int m) = (cs.set i m).map PV.int:=by rw [List.map_set]
section
variable {i:Nat} {y z:Str} {σ:St3} {S:Sto} {D:Ends3} {a b:TS3}
theorem if_eqT (h:lk σ i = some (.str y)) (q:a D σ S):if3 (tst (op3 (eq3 false) (v3 i) (c3 (.str y)))) a b D σ S:=by
 simp only [if3,tst,op3,v3,h,c3,eq3,decide_true,Bool.false_bne,if_true]; exact q
theorem if_eqF (h:lk σ i = some (.str z)) (hz:z ≠ y) (q:b D σ S):if3 (tst (op3 (eq3 false) (v3 i) (c3 (.str y)))) a b D σ S:=by
 simp only [if3,tst,op3,v3,h,c3,eq3,hz,decide_false,Bool.false_bne,Bool.false_eq_true,if_false]; exact q
end
theorem ifB {c:TT3} {t u:TS3} {v:Bool} {σ:St3} {S:Sto} {D:Ends3} (h:∀ Q E,Q v S→c σ S Q E) (qt:v = true→t D σ S) (qf:v = false→u D σ S):if3 c t u D σ S:=by
 refine h _ _ ?_
 cases v with
 | true=>exact qt rfl
 | false=>exact qf rfl
theorem run_tst {S:Sto} {a pj pr:Addr} {js:List Str} {lim:Nat} {w:Wl} {σ:St3} {i:Nat} {Q:Bool→Sto→Prop} {E:XK3} (A:WAt S a pj pr js lim w) (hi:lk σ i = some (.ref a)) (q:Q w.run S):and3 (tst (op3 (is3 false) (op3 idx3 (v3 i) (c3 (.str "stuck"))) (c3 .non))) (not3 (tst (op3 idx3 (v3 i) (c3 (.str "over"))))) σ S Q E:=by
 simp only [and3,not3,tst,op3,v3,hi,c3,idx3,key3,A.d,v_stuck,v_over,is3]
 unfold Wl.run at q
 cases hst:w.st with
 | some r=>rw [hst] at q; simp only [stv,Bool.false_bne,Bool.false_eq_true,if_false]; exact q
 | none=>rw [hst] at q; simp only [stv,Bool.false_bne,if_true]; exact q
theorem and_gt {σ:St3} {S:Sto} {i:Nat} {n:Int} {c:TT3} {Q:Bool→Sto→Prop} {E:XK3} (h:lk σ i = some (.int n)) (q1:0 < n→c σ S Q E) (q2:¬ 0 < n→Q false S):and3 (tst (op3 gt3 (v3 i) (c3 (.int 0)))) c σ S Q E:=by
 simp only [and3,tst,op3,v3,h,c3,gt3,int3,decide_eq_true_eq]
 split
 ·rename_i hn; exact q1 hn
 ·rename_i hn; exact q2 hn
theorem iter_no {f:Wl→Wl} (hf:∀ w,w.run = false→f w = w):∀ (n:Nat) (w:Wl),w.run = false→iter f n w = w
 | 0,_,_=>rfl
 | n + 1,w,h=>by show iter f n (f w) = w; rw [hf w h]; exact iter_no hf n w h
theorem foldl_snoc {α β:Type} (f:β→α→β) (xs:List α) (x:α) (b:β):(xs ++ [x]).foldl f b = f (xs.foldl f b) x:=by rw [List.foldl_append]; rfl
theorem sp_lat {xp xc xr s0 s1:Sp3} (sp_plus:PlusSpec xp) (sp_come:LComeSpec xc) (sp_rows:LRowsSpec 6 xr) (n:Nat) (hn:n ≤ 6) (ih:LWalkSpec n s1):LAtSpec (n + 1) (fn3 10 (b__law_at_row xp xc xr s0 s1)):=by
 intro S a pj pr js lim t r v w Q E A hr win hlim hd hg htr hrow h0 h1 k
 obtain ⟨hst,hov⟩:=run_iff.mp hr
 unfold b__law_at_row
 refine fnS ?_
 rw [show start3 10 [t.pv,PV.int r,v,PV.ref a] = [some t.pv,some (.int r),some v,some (.ref a),none,none,none,none,none,none] from rfl]
 refine seqS fun N hN=>?_
 simp only [set3,op3,v3,lk,c3,idx3]
 rw [Bd.pv_eq]
 simp only [at0]
 refine hN _ _ ?_
 rw [← Bd.pv_eq]
 simp only [List.set_cons_succ,List.set_cons_zero]
 clear hN
 cases t with
 | rest=>cases hrow
 | thn b c=>cases hrow
 | use z=>exact absurd (show z ∈ [] from hg) (by simp)
 | pay x y=>
  refine if_eqT rfl ?_
  simp only [Bd.pv,sub3,call3,args3,op3,v3,lk,c3,idx3,key3,A.d,v_cost,at1]
  have c:Cost x y:=hg
  rw [cf_cost c]
  refine sp_plus win.2.2.1 (Int.mul_nonneg c.x0 (Int.ediv_nonneg (by decide) (by have:=c.low.pos; omega))) ?_
  simp only [setIt3,key3,A.d,p_cost]
  exact ⟨wK_len,k _ (A.ud (w':=w.pay (x * (2520 / y))) rfl rfl) .ud⟩
 | put z m=>
  have hz:z ∈ js:=hg.1
  have hl:js.idxOf z < w.jars.length:=by rw [win.1]; exact (idx_spec hz).2.2
  refine if_eqF rfl (by simp [Bd.hd,ofS_inj]) (if_eqT rfl (seqS fun N hN=>?_))
  simp only [Bd.pv,set3,bmT3,op3,v3,lk,c3,idx3,key3,A.d,v_names,args3,at1]
  refine idx_jar hz ?_
  refine hN _ _ ?_
  simp only [sub3,op3,v3,lk,c3,idx3,key3,A.d,v_jars,A.j,jar_at hl,at2,setIt3,add3,List.length_map,ixN_nat hl,jar_set,List.set_cons_succ,List.set_cons_zero]
  exact k _ (A.uj (w':=w.bring js z m) rfl rfl rfl rfl) .uj
 | eit b c=>
  simp only [Bd.dep] at hd
  simp only [Bd.rows] at h1
  obtain ⟨i,y,rfl,hy⟩:=tr_eit htr
  refine if_eqF rfl (by simp [Bd.hd,ofS_inj]) (if_eqF rfl (by simp [Bd.hd,ofS_inj]) (if_eqF rfl (by simp [Bd.hd,ofS_inj]) (seqS fun N hN=>?_)))
  simp only [Bd.hd,Bd.pv,if3,and3,tst,op3,v3,lk,c3,eq3,ofS_inj,String.reduceEq,decide_false,Bool.false_bne,Bool.false_eq_true,if_false,nil3]
  refine hN _ _ (seqS fun N hN=>?_)
  simp only [set3,op3,v3,lk,c3,add3,List.set_cons_succ,List.set_cons_zero]
  refine hN _ _ (seqS fun N hN=>?_)
  rcases hy with ⟨rfl,hy⟩ | ⟨rfl,hy⟩
  ·simp only [if3,tst,op3,v3,lk,c3,idx3,at0,eq3,Int.reduceEq,decide_false,Bool.false_bne,Bool.false_eq_true,if_false,nil3]
   refine hN _ _ ?_
   simp only [expr3,call3,args3,op3,v3,lk,c3,idx3,at0,at1,sub3',int3,Int.reduceSub,atm2_3]
   exact ih A win.weak hlim (by omega) hg.1 hy (by omega) (by omega) k
  ·simp only [if3,tst,op3,v3,lk,c3,idx3,at0,eq3,decide_true,Bool.false_bne,if_true,set3,call3,args3,un3,neg3,atm2_3]
   refine sp_rows (by omega) ?_
   simp only [add3,List.set_cons_succ,List.set_cons_zero]
   refine hN _ _ ?_
   simp only [expr3,call3,args3,op3,v3,lk,c3,idx3,at0,at1,sub3',int3,Int.reduceSub,Int.reduceNeg,atm1_3]
   exact ih A win.weak hlim (by omega) hg.2 hy (by omega) (by omega) k
 | tak z m b c=>
  simp only [Bd.dep] at hd
  simp only [Bd.rows] at h1
  obtain ⟨i,y,rfl,hy⟩:=tr_tak htr
  have hz:z ∈ js:=hg.1
  have hl:js.idxOf z < w.jars.length:=by rw [win.1]; exact (idx_spec hz).2.2
  refine if_eqF rfl (by simp [Bd.hd,ofS_inj]) (if_eqF rfl (by simp [Bd.hd,ofS_inj]) (if_eqF rfl (by simp [Bd.hd,ofS_inj]) (seqS fun N hN=>?_)))
  rcases hy with ⟨rfl,hy⟩ | ⟨rfl,hy⟩
  ·have rest:∀ S1 w1 x5,WAt S1 a pj pr js lim w1→WIn js.length (lim + 1) 0 w1→OthW a pj pr S S1→wk (lim + 1) js b (r + 1) y w1 = wkA (lim + 1) js (.tak z m b c) r (.tup [.int 0,y]) w→N [some (Bd.tak z m b c).pv,some (.int r),some (.tup [.int 0,y]),some (.ref a),some (.str (Bd.tak z m b c).hd),x5,none,none,none,none] S1:=by
    intro S1 w1 x5 A1 win1 O1 e1
    refine hN _ _ (seqS fun N hN=>?_)
    simp only [set3,op3,v3,lk,c3,add3,List.set_cons_succ,List.set_cons_zero]
    refine hN _ _ (seqS fun N hN=>?_)
    simp only [if3,tst,op3,v3,lk,c3,idx3,at0,eq3,Int.reduceEq,decide_false,Bool.false_bne,Bool.false_eq_true,if_false,nil3]
    refine hN _ _ ?_
    simp only [Bd.pv,expr3,call3,args3,op3,v3,lk,c3,idx3,at0,at1,sub3',int3,Int.reduceSub,Int.reduceNeg,atm2_5]
    exact ih A1 win1 hlim (by omega) hg.2.2.2.1 hy (by omega) (by omega) fun S2 A2 O2=>k S2 (by rw [← e1]; exact A2) (O1.trans O2)
   refine ifB (v:=true) (fun Q E q=>by simp only [and3,tst,op3,v3,lk,c3,idx3,at0,eq3,Bd.hd,decide_true,Bool.false_bne,if_true]; exact q) (fun _=>?_) (fun h=>nomatch h)
   refine seqS fun N1 hN1=>?_
   simp only [Bd.pv,set3,bmT3,op3,v3,lk,c3,idx3,key3,A.d,v_names,args3,at1]
   refine idx_jar hz ?_
   simp only [List.set_cons_succ,List.set_cons_zero]
   refine hN1 _ _ (seqS fun N1 hN1=>?_)
   refine ifB (v:=decide (w.jars.getD (js.idxOf z) 0 < m)) (fun Q E q=>by simp only [tst,op3,v3,lk,c3,idx3,key3,A.d,v_jars,A.j,jar_at hl,at2,lt3,int3]; exact q) (fun hs=>?_) (fun hs=>?_)
   ·have hs:=of_decide_eq_true hs
    simp only [sub3,v3,lk,c3,setIt3,key3,A.d,p_stuck]
    refine ⟨wK_len,hN1 _ _ ?_⟩
    have A1:WAt (upd3 S a (.dct (wK js pj w.cost pr lim (some r) w.ov))) a pj pr js lim { w with st:=some r }:=A.ud (w':={ w with st:=some r }) rfl rfl
    simp only [sub3,op3,v3,lk,c3,idx3,key3,A1.d,v_jars,A1.j,jar_at hl,at2,setIt3,sub3',int3,List.length_map,ixN_nat hl,jar_set]
    have A2:=A1.uj (w':={ w.bring js z (-m) with st:=some r }) rfl rfl rfl rfl
    refine rest _ { w.bring js z (-m) with st:=some r } _ A2 ?_ (OthW.ud.trans .uj) ?_
    ·have:=win.bring (z:=z) (m:=-m) (by have:=hg.2.2.1; omega) (by have:=hg.2.1; omega); exact this
    ·rw [wk_no (run_st (r:=r) rfl)]
     simp only [wkA,nm,pr1,pr2,if_true,hs]
   ·have hs:=of_decide_eq_false hs
    refine hN1 _ _ ?_
    simp only [sub3,op3,v3,lk,c3,idx3,key3,A.d,v_jars,A.j,jar_at hl,at2,setIt3,sub3',int3,List.length_map,ixN_nat hl,jar_set]
    refine rest _ (w.bring js z (-m)) _ (A.uj (w':=w.bring js z (-m)) rfl rfl rfl rfl) (win.bring (by have:=hg.2.2.1; omega) (by have:=hg.2.1; omega)) .uj ?_
    simp only [wkA,nm,pr1,pr2,if_true,hs,if_false]
  ·refine ifB (v:=false) (fun Q E q=>by simp only [and3,tst,op3,v3,lk,c3,idx3,at0,eq3,Bd.hd,decide_true,Bool.false_bne,if_true,Int.reduceEq,decide_false]; exact q) (fun h=>nomatch h) (fun _=>?_)
   refine hN _ _ (seqS fun N hN=>?_)
   simp only [set3,op3,v3,lk,c3,add3,List.set_cons_succ,List.set_cons_zero]
   refine hN _ _ (seqS fun N hN=>?_)
   simp only [Bd.pv,if3,tst,op3,v3,lk,c3,idx3,at0,eq3,decide_true,Bool.false_bne,if_true,set3,call3,args3,un3,neg3,atm2_5]
   refine sp_rows (by omega) ?_
   simp only [add3,List.set_cons_succ,List.set_cons_zero]
   refine hN _ _ ?_
   simp only [Bd.pv,expr3,call3,args3,op3,v3,lk,c3,idx3,at0,at1,sub3',int3,Int.reduceSub,Int.reduceNeg,atm1_5]
   exact ih A win.weak hlim (by omega) hg.2.2.2.2 hy (by omega) (by omega) k
 | oft b=>
  simp only [Bd.dep] at hd
  simp only [Bd.rows] at h1
  obtain ⟨gs,rfl,hgs⟩:=tr_oft htr
  rw [List.all_eq_true] at hgs
  refine if_eqF rfl (by simp [Bd.hd,ofS_inj]) (if_eqF rfl (by simp [Bd.hd,ofS_inj]) (if_eqT rfl ?_))
  simp only [for3,iter3,v3,lk]
  obtain ⟨F,hF⟩:∃ F:PV→Wl→Wl,F = fun g w=>iter (fun w=>(wk (lim + 1) js b (r + 1) (pr2 g) w).go (Wl.come (lim + 1) r)) (nm (pr1 g)).toNat w:=⟨_,rfl⟩
  have k':∀ S',WAt S' a pj pr js lim (gs.foldl (fun w g=>F g w) w)→OthW a pj pr S S'→Q .non S':=by rw [hF]; exact k
  refine forL_by (fun done σ S'=>∃ (x6 x7 x8:Option PV),σ = [some (Bd.oft b).pv,some (.int r),some (.tup gs),some (.ref a),some (.str (Bd.oft b).hd),none,x6,x7,x8,none]∧WAt S' a pj pr js lim (done.foldl (fun w g=>F g w) w)∧WIn js.length (lim + 1) 0 (done.foldl (fun w g=>F g w) w)∧OthW a pj pr S S') ⟨_,_,_,rfl,A,win.weak,.refl⟩ (fun _ _ _ _=>trivial) ?_ ?_
  ·rintro done g rest σ S1 K e ⟨x6,x7,x8,rfl,A1,win1,O1⟩ hK
   obtain ⟨m,y,rfl,hm,hy⟩:=go_of (hgs g (by have e':gs = done ++ g :: rest:=e; rw [e']; simp))
   simp only [foldl_snoc] at hK
   generalize done.foldl (fun w g=>F g w) w = w1 at A1 win1 hK
   simp only [Tg.put,Tg.puts,List.set_cons_succ,List.set_cons_zero]
   refine seqS fun N hN=>?_
   simp only [set3,v3,lk,List.set_cons_succ,List.set_cons_zero]
   refine hN _ _ ?_
   obtain ⟨f,hf⟩:∃ f:Wl→Wl,f = fun w=>(wk (lim + 1) js b (r + 1) y w).go (Wl.come (lim + 1) r):=⟨_,rfl⟩
   have hFf:F (.tup [.int m,y]) w1 = iter f m.toNat w1:=by rw [hF,hf]; rfl
   have fno:∀ w,w.run = false→f w = w:=fun w h=>by rw [hf]; show (wk (lim + 1) js b (r + 1) y w).go _ = w; rw [wk_no h,Wl.go_no h]
   rw [hFf] at hK
   refine ⟨fun j σ S'=>∃ w',σ = [some (Bd.oft b).pv,some (.int r),some (.tup gs),some (.ref a),some (.str (Bd.oft b).hd),none,some (.int m),some y,some (.int j),none]∧WAt S' a pj pr js lim w'∧WIn js.length (lim + 1) 0 w'∧OthW a pj pr S S'∧iter f j w' = iter f m.toNat w1,⟨m.toNat,w1,by rw [Int.toNat_of_nonneg (by omega)],A1,win1,O1,rfl⟩,?_⟩
   rintro j σ S2 ⟨w2,rfl,A2,win2,O2,e2⟩
   have fin:(j = 0 ∨ w2.run = false)→K [some (Bd.oft b).pv,some (.int r),some (.tup gs),some (.ref a),some (.str (Bd.oft b).hd),none,some (.int m),some y,some (.int j),none] S2:=fun h=>by
    have e3:w2 = iter f m.toNat w1:=by
     rw [← e2]
     rcases h with h | h
     ·subst h; rfl
     ·exact (iter_no fno j w2 h).symm
    rw [e3] at A2 win2
    exact hK _ _ ⟨_,_,_,rfl,A2,win2,O2⟩
   refine and_gt rfl (fun hj=>?_) (fun hj=>?_)
   rotate_left
   ·simp only [Bool.false_eq_true,if_false]; exact fin (.inl (by omega))
   obtain ⟨j,rfl⟩:∃ i,j = i + 1:=⟨j - 1,by omega⟩
   refine run_tst A2 rfl ?_
   cases hr2:w2.run with
   | false=>simp only [Bool.false_eq_true,if_false]; exact fin (.inr hr2)
   | true=>
     simp only [if_true]
     refine ⟨fun σ S'=>∃ w',σ = [some (Bd.oft b).pv,some (.int r),some (.tup gs),some (.ref a),some (.str (Bd.oft b).hd),none,some (.int m),some y,some (.int j),none]∧WAt S' a pj pr js lim w'∧WIn js.length (lim + 1) 0 w'∧OthW a pj pr S S'∧w' = f w2,fun σ S' ⟨w',h1,h2,h3,h4,h5⟩=>⟨j,Nat.lt_succ_self j,w',h1,h2,h3,h4,by rw [h5]; exact e2⟩,?_⟩
     refine seqS fun N hN=>?_
     simp only [set3,op3,v3,lk,c3,sub3',int3,List.set_cons_succ,List.set_cons_zero]
     rw [show ((j + 1:Nat):Int) - 1 = (j:Int) by omega]
     refine hN _ _ (seqS fun N hN=>?_)
     simp only [Bd.pv,expr3,call3,args3,op3,v3,lk,c3,idx3,at1,add3]
     refine ih A2 win2 hlim (by omega) hg hy (by omega) (by omega) fun S3 A3 O3=>?_
     have win3:=WIn.wk (by omega) b (r + 1) y w2 hg (by omega) (by omega) win2
     refine hN _ _ ?_
     refine ifB (v:=(wk (lim + 1) js b (r + 1) y w2).run) (fun Q E q=>run_tst A3 rfl q) (fun hr3=>?_) (fun hr3=>?_)
     ·simp only [expr3,call3,args3,v3,lk]
      refine sp_come A3 hr3 (by have:=win3.2.2.2.2.1; omega) fun S4 A4 O4=>?_
      refine ⟨_,rfl,A4,(WIn.come (by omega) h0 (by omega) hr3 win3).1,(O2.trans O3).trans O4,?_⟩
      rw [hf]; exact (Wl.go_yes hr3).symm
     ·refine ⟨_,rfl,A3,win3,O2.trans O3,?_⟩
      rw [hf]; exact (Wl.go_no hr3).symm
  ·rintro σ S1 ⟨x6,x7,x8,rfl,A1,win1,O1⟩
   exact k' S1 A1 O1
noncomputable def w0 (cs:List Int):Wl:=⟨cs,0,[],none,false⟩
noncomputable abbrev LWalkedSpec (x:Sp3):Prop:=∀ {S:Sto} {js:List Str} {ds:List (Str × Bd)} {cs:List Int} {i:Nat} {z:Str} {t:Bd} {v:PV} {lim:Nat} {Q:VK3} {E:XK3},ds[i]? = some (z,t)→WIn js.length (lim + 1) 0 (w0 cs)→lim ≤ 2000→t.dep ≤ 6→t.good js []→isTr t v = true→t.rows ≤ 1000→
 (∀ a pj pr S',S a = none→S pj = none→S pr = none→WAt S' a pj pr js lim (whole (lim + 1) js t v (w0 cs))→Ext S S'→Q (.ref a) S')→x [hpv js ds,.tup (cs.map PV.int),.int i,v,.int lim] S Q E
theorem sp_lwalked {xw xc xr:Sp3} (sp_walk:LWalkSpec 6 xw) (sp_come:LComeSpec xc) (sp_rows:LRowsSpec 6 xr):LWalkedSpec (fn3 7 (b__law_walked xw xc xr)):=by
 intro S js ds cs i z t v lim Q E hi win hlim hd hg htr hrw k
 unfold b__law_walked
 refine fnS ?_
 rw [show start3 7 [hpv js ds,PV.tup (cs.map PV.int),PV.int i,v,PV.int lim] = [some (hpv js ds),some (.tup (cs.map PV.int)),some (.int i),some v,some (.int lim),none,none] from rfl]
 refine seqS fun N hN=>?_
 rw [show hpv js ds = .tup [jpv js,.tup (ds.map dpv)] from rfl]
 walk_at "x"
 intro p hp
 simp only [at0]
 intro p1 hp1 p2 hp2
 have n1:p1 ≠ p:=fun e=>by rw [e,upd3_same] at hp1; cases hp1
 have hp1':S p1 = none:=by rw [upd3_ne n1] at hp1; exact hp1
 have n2:p2 ≠ p1:=fun e=>by rw [e,upd3_same] at hp2; cases hp2
 have hp2':upd3 S p (SO.dct []) p2 = none:=by rw [upd3_ne n2] at hp2; exact hp2
 have n3:p2 ≠ p:=fun e=>by rw [e,upd3_same] at hp2'; cases hp2'
 have hp2'':S p2 = none:=by rw [upd3_ne n3] at hp2'; exact hp2'
 refine ⟨by rw [upd3_ne n3.symm,upd3_ne n1.symm,upd3_same],?_⟩
 simp only [keyed,key3]
 rw [show merge3 [] [(Sum.inr (Str.ofString "names"),jpv js),(Sum.inr (Str.ofString "jars"),PV.ref p1),(Sum.inr (Str.ofString "cost"),PV.tup [PV.int 0,PV.int 1]),(Sum.inr (Str.ofString "rows"),PV.ref p2),(Sum.inr (Str.ofString "limit"),PV.int lim)] = [(Sum.inr (Str.ofString "names"),jpv js),(Sum.inr (Str.ofString "jars"),PV.ref p1),(Sum.inr (Str.ofString "cost"),PV.tup [PV.int 0,PV.int 1]),(Sum.inr (Str.ofString "rows"),PV.ref p2),(Sum.inr (Str.ofString "limit"),PV.int lim)] by simp [merge3,put3,sS,ofS_inj]]
 refine hN _ _ (seqS fun N hN=>?_)
 simp only [sub3,v3,lk,c3,setIt3,key3,upd3_same]
 refine ⟨by show 5 < sizeLine; decide,?_⟩
 rw [show put3 [(Sum.inr (Str.ofString "names"),jpv js),(Sum.inr (Str.ofString "jars"),PV.ref p1),(Sum.inr (Str.ofString "cost"),PV.tup [PV.int 0,PV.int 1]),(Sum.inr (Str.ofString "rows"),PV.ref p2),(Sum.inr (Str.ofString "limit"),PV.int lim)] (Sum.inr (Str.ofString "stuck"):Key) PV.non = [(Sum.inr (Str.ofString "names"),jpv js),(Sum.inr (Str.ofString "jars"),PV.ref p1),(Sum.inr (Str.ofString "cost"),PV.tup [PV.int 0,PV.int 1]),(Sum.inr (Str.ofString "rows"),PV.ref p2),(Sum.inr (Str.ofString "limit"),PV.int lim),(Sum.inr (Str.ofString "stuck"),PV.non)] by simp [put3,sS,ofS_inj]]
 refine hN _ _ (seqS fun N hN=>?_)
 simp only [sub3,v3,lk,c3,setIt3,key3,upd3_same]
 refine ⟨by show 6 < sizeLine; decide,?_⟩
 rw [show put3 [(Sum.inr (Str.ofString "names"),jpv js),(Sum.inr (Str.ofString "jars"),PV.ref p1),(Sum.inr (Str.ofString "cost"),PV.tup [PV.int 0,PV.int 1]),(Sum.inr (Str.ofString "rows"),PV.ref p2),(Sum.inr (Str.ofString "limit"),PV.int lim),(Sum.inr (Str.ofString "stuck"),PV.non)] (Sum.inr (Str.ofString "over"):Key) (PV.bl false) = wK js p1 0 p2 lim none false by simp [put3,sS,ofS_inj,wK,cf_zero,stv]]
 simp only [upd3_upd3]
 have A:WAt (upd3 (upd3 (upd3 (upd3 S p (SO.dct [])) p1 (SO.lst (cs.map PV.int))) p2 (SO.lst [])) p (.dct (wK js p1 0 p2 lim none false))) p p1 p2 js lim (w0 cs):=⟨upd3_same,by rw [upd3_ne n1,upd3_ne n2.symm,upd3_same]; rfl,by rw [upd3_ne n3,upd3_same]; rfl,n2.symm⟩
 have X:Ext S (upd3 (upd3 (upd3 (upd3 S p (SO.dct [])) p1 (SO.lst (cs.map PV.int))) p2 (SO.lst [])) p (.dct (wK js p1 0 p2 lim none false))):=fun b o h=>by
  have e1:b ≠ p:=fun e=>by rw [e,hp] at h; cases h
  have e2:b ≠ p1:=fun e=>by rw [e,hp1'] at h; cases h
  have e3:b ≠ p2:=fun e=>by rw [e,hp2''] at h; cases h
  rw [upd3_ne e1,upd3_ne e3,upd3_ne e2,upd3_ne e1]; exact h
 generalize upd3 (upd3 (upd3 (upd3 S p (SO.dct [])) p1 (SO.lst (cs.map PV.int))) p2 (SO.lst [])) p (.dct (wK js p1 0 p2 lim none false)) = S1 at A X
 have toE:∀ {S'},OthW p p1 p2 S1 S'→Ext S S':=fun O b o h=>O b o (X b o h) (fun e=>by rw [e,hp] at h; cases h) (fun e=>by rw [e,hp1'] at h; cases h) (fun e=>by rw [e,hp2''] at h; cases h)
 refine hN _ _ (seqS fun N hN=>?_)
 simp only [set3,op3,v3,lk,c3,idx3,at1]
 rw [atI_nat (v:=dpv (z,t)) (by rw [List.getElem?_map,hi]; rfl)]
 unfold dpv
 simp only [at1,List.set_cons_succ,List.set_cons_zero]
 refine hN _ _ (seqS fun N hN=>?_)
 simp only [expr3,call3,args3,v3,lk,c3]
 refine sp_walk A win hlim hd hg htr (by decide) (by omega) fun S2 A2 O2=>?_
 have win2:=WIn.wk (by omega) t 0 v (w0 cs) hg (by decide) (by omega) win
 refine hN _ _ (seqS fun N hN=>?_)
 refine ifB (v:=(wk (lim + 1) js t 0 v (w0 cs)).run) (fun Q E q=>run_tst A2 rfl q) (fun hr=>?_) (fun hr=>?_)
 ·simp only [expr3,call3,args3,v3,lk]
  refine sp_rows hd ?_
  refine sp_come A2 hr (by have:=win2.2.2.2.2.1; omega) fun S3 A3 O3=>?_
  refine hN _ _ ?_
  simp only [ret3,v3,lk]
  exact k p p1 p2 S3 hp hp1' hp2'' A3 (toE (O2.trans O3))
 ·refine hN _ _ ?_
  simp only [ret3,v3,lk]
  refine k p p1 p2 S2 hp hp1' hp2'' ?_ (toE O2)
  unfold whole
  rw [come_no hr]
  exact A2
noncomputable def dF (js:List Str) (M:Nat) (w:Wl) (ps:Addr):List (Str × PV):=[("names",jpv js),("jars",.tup (w.jars.map PV.int)),("most",.int M),("cost",cf w.cost),("seen",.ref ps)]
structure DAt (S:Sto) (o ps:Addr) (js:List Str) (M:Nat) (w:Wl):Prop where
 o:S o = some (.ins "Doing" (dF js M w ps))
 s:S ps = some (.lst (w.rows.map rpv))
noncomputable def OthD (o ps:Addr) (S S':Sto):Prop:=∀ b u,S b = some u→b ≠ o→b ≠ ps→S' b = some u
theorem OthD.refl {o ps:Addr} {S:Sto}:OthD o ps S S:=fun _ _ h _ _=>h
theorem OthD.trans {o ps:Addr} {S S1 S2:Sto} (x:OthD o ps S S1) (y:OthD o ps S1 S2):OthD o ps S S2:=fun b u h h1 h2=>y b u (x b u h h1 h2) h1 h2
theorem OthD.ext {o ps:Addr} {S S':Sto} (x:Ext S S'):OthD o ps S S':=fun b u h _ _=>x b u h
theorem OthD.uo {o ps:Addr} {S:Sto} {u:SO}:OthD o ps S (upd3 S o u):=fun b _ h h1 _=>by rw [upd3_ne h1]; exact h
theorem OthD.us {o ps:Addr} {S:Sto} {u:SO}:OthD o ps S (upd3 S ps u):=fun b _ h _ h1=>by rw [upd3_ne h1]; exact h
section
variable {js:List Str} {M:Nat} {w:Wl} {ps:Addr}
theorem f_names:(dF js M w ps).lookup ("names":Str) = some (jpv js):=rfl
theorem f_jars:(dF js M w ps).lookup ("jars":Str) = some (.tup (w.jars.map PV.int)):=rfl
theorem f_most:(dF js M w ps).lookup ("most":Str) = some (.int M):=rfl
theorem f_cost:(dF js M w ps).lookup ("cost":Str) = some (cf w.cost):=rfl
theorem f_seen:(dF js M w ps).lookup ("seen":Str) = some (.ref ps):=rfl
theorem f_m1:(dF js M w ps).lookup ("come_to":Str) = none:=rfl
theorem f_m2:(dF js M w ps).lookup ("pay":Str) = none:=rfl
theorem f_m3:(dF js M w ps).lookup ("bring":Str) = none:=rfl
theorem f_m4:(dF js M w ps).lookup ("take":Str) = none:=rfl
theorem f_pj (cs:List Int):putF3 ("jars":Str) (.tup (cs.map PV.int)) (dF js M w ps) = dF js M { w with jars:=cs } ps:=by simp [putF3,dF,ofS_inj]
theorem f_pc (n:Int):putF3 ("cost":Str) (cf n) (dF js M w ps) = dF js M { w with cost:=n } ps:=by simp [putF3,dF,ofS_inj]
theorem dF_len:(dF js M w ps).length < 1000:=by show 5 < 1000; decide
end
section
variable {S:Sto} {o ps:Addr} {js:List Str} {M:Nat} {w:Wl}
theorem DAt.ne (A:DAt S o ps js M w):ps ≠ o:=fun e=>by have:=A.s; rw [e,A.o] at this; cases this
theorem DAt.ins (A:DAt S o ps js M w) {k:Addr→List (Str × PV)→Prop} (q:k o (dF js M w ps)):ins3 "Doing" S (.ref o) k:=by
 unfold ins3; simp only [A.o]; exact ⟨trivial,q⟩
theorem DAt.ext {S':Sto} (A:DAt S o ps js M w) (x:Ext S S'):DAt S' o ps js M w:=⟨x _ _ A.o,x _ _ A.s⟩
theorem DAt.uo {w':Wl} (A:DAt S o ps js M w) (h:w'.rows = w.rows):DAt (upd3 S o (.ins "Doing" (dF js M w' ps))) o ps js M w':=⟨upd3_same,by rw [upd3_ne A.ne,h]; exact A.s⟩
theorem DAt.us {w':Wl} (A:DAt S o ps js M w) (h1:w'.jars = w.jars) (h2:w'.cost = w.cost):DAt (upd3 S ps (.lst (w'.rows.map rpv))) o ps js M w':=⟨by rw [upd3_ne A.ne.symm]; unfold dF; rw [h1,h2]; exact A.o,upd3_same⟩
end
theorem fnX {n:Nat} {b:TS3} {args:List PV} {S:Sto} {Q:VK3} {E:XK3} (h:b { nx:=fun _ S'=>Q .non S',rt:=Q,ex:=fun p _ S'=>E p [] S' } (start3 n args) S):fnX3 n b args S Q E:=h
noncomputable abbrev tooLong (M:Nat):PV:=.exc "TooLong" ["most"] [.int M]
noncomputable abbrev stuckAt (r:Int):PV:=.exc "Stuck" ["row"] [.int r]
noncomputable abbrev ComeToSpec (x:Sp3):Prop:=∀ {S:Sto} {o ps:Addr} {js:List Str} {M:Nat} {w:Wl} {r:Int} {Q:VK3} {E:XK3},DAt S o ps js M w→w.run = true→w.rows.length ≤ 5000→((w.come M r).run = true→∀ S',DAt S' o ps js M (w.come M r)→OthD o ps S S'→Q .non S')→((w.come M r).ov = true→E (tooLong M) [] S)→x [.ref o,.int r] S Q E
theorem sp_cometo:ComeToSpec (fnX3 2 b_Doing_come_to):=by
 intro S o ps js M w r Q E A hr hl k kx
 unfold b_Doing_come_to
 refine fnX ?_
 rw [show start3 2 [PV.ref o,PV.int r] = [some (.ref o),some (.int r)] from rfl]
 obtain ⟨hst,hov⟩:=run_iff.mp hr
 rw [come_yes hr] at k kx
 refine seqS fun N hN=>?_
 refine ifB (v:=decide ((M:Int) ≤ (w.rows.length:Int))) (fun Q E q=>?_) (fun h=>?_) (fun h=>?_)
 ·simp only [tst,op3,callB3,args3,fld3,v3,lk]
  refine A.ins ?_
  simp only [f_seen,len3,A.s,List.length_map]
  refine A.ins ?_
  simp only [f_most,ge3,int3]
  exact q
 ·have h:=of_decide_eq_true h
  rw [if_pos (by omega)] at kx
  simp only [raise3,args3,fld3,v3,lk]
  refine A.ins ?_
  simp only [f_most]
  exact kx rfl
 ·have h:=of_decide_eq_false h
  rw [if_neg (by omega)] at k
  refine hN _ _ ?_
  simp only [expr3,bm3,args3,fld3,tup3,v3,lk]
  refine A.ins ?_
  simp only [f_seen,ty3,A.s]
  refine ⟨trivial,A.ins ?_⟩
  simp only [f_jars]
  refine A.ins ?_
  simp only [f_cost,append3,A.s,List.length_map]
  refine ⟨Nat.lt_of_le_of_lt hl (by decide),?_⟩
  have:=A.us (w':={ w with rows:=w.rows ++ [(r,w.jars,w.cost)] }) rfl rfl
  rw [List.map_append] at this
  exact k (run_iff.mpr ⟨hst,hov⟩) _ this .us
noncomputable abbrev PaySpec (x:Sp3):Prop:=∀ {S:Sto} {o ps:Addr} {js:List Str} {M:Nat} {w:Wl} {n:Int} {Q:VK3} {E:XK3},DAt S o ps js M w→0 ≤ w.cost→0 ≤ n→(∀ S',DAt S' o ps js M (w.pay n)→OthD o ps S S'→Q .non S')→x [.ref o,cf n] S Q E
theorem sp_pay {xp:Sp3} (sp_plus:PlusSpec xp):PaySpec (fn3 2 (b_Doing_pay xp)):=by
 intro S o ps js M w n Q E A h0 h1 k
 unfold b_Doing_pay
 refine fnS ?_
 rw [show start3 2 [PV.ref o,cf n] = [some (.ref o),some (cf n)] from rfl]
 simp only [sfld3,call3,args3,fld3,v3,lk]
 refine A.ins ?_
 simp only [f_cost]
 refine sp_plus h0 h1 (A.ins ?_)
 rw [f_pc]
 exact ⟨dF_len,k _ (A.uo (w':=w.pay n) rfl) .uo⟩
theorem bring_join {z:Str} {m:Int}:∀ {js:List Str} {cs:List Int},js.Nodup→cs.length = js.length→z ∈ js→(List.zipWith jn (cs.map fun c=>(c,0)) (mvl js z m 0)).map (fun p=>PV.int p.1) = (cs.set (js.idxOf z) (cs.getD (js.idxOf z) 0 + m)).map PV.int
 | [],_,_,_,h=>by simp at h
 | j :: js,[],_,h,_=>by simp at h
 | j :: js,c :: cs,hn,hl,hz=>by
  have hn':=List.nodup_cons.mp hn
  rw [List.idxOf_cons]
  unfold mvl
  simp only [List.map_cons,List.zipWith_cons_cons]
  by_cases e:j = z
  ·subst e
   have e0:∀ {js:List Str} {cs:List Int},cs.length = js.length→j ∉ js→(List.zipWith jn (cs.map fun c=>(c,0)) (js.map fun y=>if y = j then (m,0) else (0,0))).map (fun p=>PV.int p.1) = cs.map PV.int:=by
    intro js
    induction js with
    | nil=>intro cs h _; simp only [List.length_nil,List.length_eq_zero_iff] at h; subst h; rfl
    | cons y js ih=>
     intro cs h hni
     cases cs with
     | nil=>simp at h
     | cons d cs=>
      rw [List.mem_cons,not_or] at hni
      simp only [List.map_cons,List.zipWith_cons_cons]
      rw [ih (by simpa using h) hni.2,if_neg (Ne.symm hni.1)]
      simp [jn]
   rw [e0 (by simpa using hl) hn'.1,if_pos rfl]
   simp [jn]
  ·have e2:(j == z) = false:=by simpa using e
   have hz':z ∈ js:=by simpa [Ne.symm e] using hz
   have ih:=bring_join (m:=m) hn'.2 (cs:=cs) (by simpa using hl) hz'
   unfold mvl at ih
   rw [e2,if_neg e,ih]
   simp [jn]
noncomputable abbrev BringSpec (x:Sp3):Prop:=∀ {S:Sto} {o ps:Addr} {js:List Str} {M:Nat} {w:Wl} {z:Str} {m:Int} {Q:VK3} {E:XK3},DAt S o ps js M w→js.Nodup→js.length ≤ 1000→w.jars.length = js.length→z ∈ js→(∀ S',DAt S' o ps js M (w.bring js z m)→OthD o ps S S'→Q .non S')→x [.ref o,.str z,.int m] S Q E
theorem sp_bring {xa xt:Sp3} (sp_added:AddedSpec xa) (sp_things:ThingsSpec xt):BringSpec (fn3 3 (b_Doing_bring xa xt)):=by
 intro S o ps js M w z m Q E A hn hj hl hz k
 unfold b_Doing_bring
 refine fnS ?_
 rw [show start3 3 [PV.ref o,PV.str z,PV.int m] = [some (.ref o),some (.str z),some (.int m)] from rfl]
 simp only [sfld3,call3,args3,fld3,v3,lk]
 refine A.ins ?_
 simp only [f_jars]
 refine A.ins ?_
 simp only [f_names]
 refine sp_things hj fun S1 X1=>?_
 rw [mvl_es (d:=0),show (w.jars.map PV.int) = Ty.es (0,w.jars.map fun c=>(c,0)) by unfold Ty.es; rw [List.map_map]; rfl]
 refine sp_added (by rw [List.length_map]; omega) fun S2 X2=>?_
 have A2:=A.ext (X1.trans X2)
 rw [show (Ty.join (0,w.jars.map fun c=>(c,0)) (0,mvl js z m 0)).es = _ from bring_join hn hl hz]
 refine A2.ins ?_
 rw [f_pj]
 exact ⟨dF_len,k _ (A2.uo (w':=w.bring js z m) rfl) ((OthD.ext (X1.trans X2)).trans .uo)⟩
noncomputable abbrev TakeSpec (x:Sp3):Prop:=∀ {S:Sto} {o ps:Addr} {js:List Str} {M:Nat} {w:Wl} {z:Str} {m r:Int} {Q:VK3} {E:XK3},DAt S o ps js M w→js.Nodup→js.length ≤ 1000→w.jars.length = js.length→z ∈ js→(¬ w.jars.getD (js.idxOf z) 0 < m→∀ S',DAt S' o ps js M (w.bring js z (-m))→OthD o ps S S'→Q .non S')→(w.jars.getD (js.idxOf z) 0 < m→E (stuckAt r) [] S)→x [.ref o,.str z,.int m,.int r] S Q E
theorem sp_take {xb:Sp3} (sp_bring:BringSpec xb):TakeSpec (fnX3 4 (b_Doing_take xb)):=by
 intro S o ps js M w z m r Q E A hn hj hl hz k kx
 unfold b_Doing_take
 refine fnX ?_
 rw [show start3 4 [PV.ref o,PV.str z,PV.int m,PV.int r] = [some (.ref o),some (.str z),some (.int m),some (.int r)] from rfl]
 have hlt:js.idxOf z < w.jars.length:=by rw [hl]; exact (idx_spec hz).2.2
 refine seqS fun N hN=>?_
 refine ifB (v:=decide (w.jars.getD (js.idxOf z) 0 < m)) (fun Q E q=>?_) (fun h=>?_) (fun h=>?_)
 ·simp only [tst,op3,bmT3,args3,fld3,v3,lk]
  refine A.ins ?_
  simp only [f_jars]
  refine A.ins ?_
  simp only [f_names]
  refine idx_jar hz ?_
  simp only [idx3,jar_at hlt,lt3,int3]
  exact q
 ·simp only [raise3,args3,v3,lk]
  exact kx (of_decide_eq_true h)
 ·refine hN _ _ ?_
  simp only [expr3,meth3,args3,un3,neg3,v3,lk]
  refine A.ins ⟨f_m3,?_⟩
  exact sp_bring A hn hj hl hz (k (of_decide_eq_false h))
noncomputable def Out (o ps:Addr) (js:List Str) (M:Nat) (S:Sto) (w:Wl) (Q:VK3) (E:XK3):Prop:=
 (w.run = true→∀ S',DAt S' o ps js M w→OthD o ps S S'→Q .non S')∧(w.ov = true→∀ S',OthD o ps S S'→E (tooLong M) [] S')∧∀ r,w.st = some r→w.ov = false→∀ S',OthD o ps S S'→E (stuckAt r) [] S'
theorem Out.x {o ps:Addr} {js:List Str} {M:Nat} {S S1:Sto} {w w':Wl} {Q Q':VK3} {E:XK3} {E':XK3} (k:Out o ps js M S w Q E) (O:OthD o ps S S1) (hE:∀ p S',E p [] S'→E' p [] S') (e:w'.run = false→w = w') (h:w'.run = true→∀ S',DAt S' o ps js M w'→OthD o ps S1 S'→Q' .non S'):Out o ps js M S1 w' Q' E':=by
 refine ⟨h,fun hov S' O'=>hE _ _ (k.2.1 (by rw [e (run_ov hov)]; exact hov) S' (O.trans O')),fun r hst hov S' O'=>hE _ _ (k.2.2 r (by rw [e (run_st hst)]; exact hst) (by rw [e (run_st hst)]; exact hov) S' (O.trans O'))⟩
theorem come_out {x:Sp3} (sp:ComeToSpec x) {S:Sto} {o ps:Addr} {js:List Str} {M:Nat} {w:Wl} {r:Int} {Q:VK3} {E:XK3} (A:DAt S o ps js M w) (hr:w.run = true) (hl:w.rows.length ≤ 5000) (k:Out o ps js M S (w.come M r) Q E):x [.ref o,.int r] S Q E:=by
 refine sp A hr hl k.1 fun h=>k.2.1 h S .refl
noncomputable abbrev GoStepSpec (x:Sp3):Prop:=∀ {S:Sto} {o ps:Addr} {js:List Str} {M:Nat} {t:Bd} {r:Int} {v:PV} {w:Wl} {Q:VK3} {E:XK3},DAt S o ps js M w→w.run = true→WIn js.length M 0 w→M ≤ 2001→js.Nodup→js.length ≤ 1000→t.good js []→(t.hd = ("pay":Str) ∨ t.hd = ("put":Str))→Out o ps js M S (wk M js t r v w) Q E→x [.ref o,t.pv,.int r] S Q E
theorem sp_gostep {xc xp xb:Sp3} (sp_come:ComeToSpec xc) (sp_pay:PaySpec xp) (sp_bring:BringSpec xb):GoStepSpec (fnX3 3 (b_go_step xc xp xb)):=by
 intro S o ps js M t r v w Q E A hr win hM hn hj hg ht k
 unfold b_go_step
 refine fnX ?_
 rw [show start3 3 [PV.ref o,t.pv,PV.int r] = [some (.ref o),some t.pv,some (.int r)] from rfl]
 have hc:(w.come M r).jars = w.jars∧(w.come M r).cost = w.cost:=by rw [come_yes hr]; split <;> exact ⟨rfl,rfl⟩
 refine seqS fun N hN=>?_
 simp only [expr3,methX3,args3,v3,lk]
 refine A.ins ⟨f_m1,?_⟩
 refine come_out sp_come A hr (by have:=win.2.2.2.2.1; omega) (k.x .refl (fun _ _ h=>h) ?_ fun hr1 S1 A1 O1=>?_)
 ·intro h
  cases t with
  | pay x y=>exact Wl.go_no h
  | put z m=>exact Wl.go_no h
  | _=>rcases ht with ht | ht <;> exact absurd ht (by simp [Bd.hd,ofS_inj])
 ·refine hN _ _ (seqS fun N hN=>?_)
  cases t with
  | pay x y=>
   have k1:Out o ps js M S ((w.come M r).pay (x * (2520 / y))) Q E:=by
    have:wk M js (.pay x y) r v w = (w.come M r).pay (x * (2520 / y)):=Wl.go_yes hr1
    rw [← this]; exact k
   have c:Cost x y:=hg
   simp only [Bd.pv,if3,tst,op3,v3,lk,c3,idx3,at0,eq3,decide_true,Bool.false_bne,if_true,expr3,meth3,args3,at1]
   refine A1.ins ⟨f_m2,?_⟩
   rw [cf_cost c]
   refine sp_pay A1 (by rw [hc.2]; exact win.2.2.1) (Int.mul_nonneg c.x0 (Int.ediv_nonneg (by decide) (by have:=c.low.pos; omega))) fun S2 A2 O2=>?_
   refine hN _ _ ?_
   simp only [Bd.pv,if3,tst,op3,v3,lk,c3,idx3,at0,eq3,ofS_inj,String.reduceEq,decide_false,Bool.false_bne,Bool.false_eq_true,if_false,nil3]
   exact k1.1 hr1 S2 A2 (O1.trans O2)
  | put z m=>
   have k1:Out o ps js M S ((w.come M r).bring js z m) Q E:=by
    have:wk M js (.put z m) r v w = (w.come M r).bring js z m:=Wl.go_yes hr1
    rw [← this]; exact k
   simp only [Bd.pv,if3,tst,op3,v3,lk,c3,idx3,at0,eq3,ofS_inj,String.reduceEq,decide_false,Bool.false_bne,Bool.false_eq_true,if_false,nil3]
   refine hN _ _ ?_
   simp only [Bd.pv,if3,tst,op3,v3,lk,c3,idx3,at0,eq3,decide_true,Bool.false_bne,if_true,expr3,meth3,args3,at1,at2]
   refine A1.ins ⟨f_m3,?_⟩
   exact sp_bring A1 hn hj (by rw [hc.1]; exact win.1) hg.1 fun S2 A2 O2=>k1.1 hr1 S2 A2 (O1.trans O2)
  | _=>rcases ht with ht | ht <;> exact absurd ht (by simp [Bd.hd,ofS_inj])
noncomputable abbrev GoSpec (n:Nat) (x:Sp3):Prop:=∀ {S:Sto} {o ps:Addr} {js:List Str} {M:Nat} {t:Bd} {r:Int} {v:PV} {w:Wl} {Q:VK3} {E:XK3},DAt S o ps js M w→w.run = true→WIn js.length M 0 w→M ≤ 2001→js.Nodup→js.length ≤ 1000→t.dep ≤ n→t.size ≤ 900→t.good js []→isTr t v = true→intB (2 ^ 60) v = true→0 ≤ r→r + t.rows ≤ 1000→Out o ps js M S (wk M js t r v w) Q E→x [.ref o,t.pv,v,.int r] S Q E
noncomputable abbrev GoChSpec (n:Nat) (x:Sp3):Prop:=∀ {S:Sto} {o ps:Addr} {js:List Str} {M:Nat} {t:Bd} {r:Int} {v:PV} {w:Wl} {Q:VK3} {E:XK3},DAt S o ps js M w→w.run = true→WIn js.length M 0 w→M ≤ 2001→js.Nodup→js.length ≤ 1000→t.dep ≤ n→t.size ≤ 900→t.good js []→isTr t v = true→intB (2 ^ 60) v = true→0 ≤ r→r + t.rows ≤ 1000→(t.hd = ("either":Str) ∨ t.hd = ("take":Str))→Out o ps js M S (wk M js t r v w) Q E→x [.ref o,t.pv,v,.int r] S Q E
noncomputable abbrev GoOftSpec (n:Nat) (x:Sp3):Prop:=∀ {S:Sto} {o ps:Addr} {js:List Str} {M:Nat} {b:Bd} {r:Int} {gs:List PV} {w:Wl} {Q:VK3} {E:XK3},DAt S o ps js M w→w.run = true→WIn js.length M 0 w→M ≤ 2001→js.Nodup→js.length ≤ 1000→(Bd.oft b).dep ≤ n→b.size ≤ 900→b.good js []→(∀ g ∈ gs,isGo b g = true)→intB (2 ^ 60) (.tup gs) = true→0 ≤ r→r + (Bd.oft b).rows ≤ 1000→Out o ps js M S (wk M js (.oft b) r (.tup gs) w) Q E→x [.ref o,(Bd.oft b).pv,.tup gs,.int r] S Q E
theorem sp_go {xr xs s0 s1 s2:Sp3} (sp_rows:RowsInSpec 6 xr) (sp_step:GoStepSpec xs) (n:Nat) (hn6:n ≤ 6) (ihO:GoOftSpec n s0) (ihC:GoChSpec n s1) (ih:GoSpec (n - 1) s2):GoSpec n (fnX3 5 (b_go xr xs s0 s1 s2)):=by
 intro S o ps js M t r v w Q E A hr win hM hn hj hd hsz hg htr hib h0 h1 k
 unfold b_go
 refine fnX ?_
 rw [show start3 5 [PV.ref o,t.pv,v,PV.int r] = [some (.ref o),some t.pv,some v,some (.int r),none] from rfl]
 refine seqS fun N hN=>?_
 simp only [set3,op3,v3,lk,c3,idx3]
 rw [Bd.pv_eq]
 simp only [at0,List.set_cons_succ,List.set_cons_zero]
 refine hN _ _ ?_
 rw [← Bd.pv_eq]
 clear hN
 cases t with
 | thn b c=>
  simp only [Bd.dep] at hd
  simp only [Bd.rows] at h1
  simp only [Bd.size] at hsz
  obtain ⟨x,y,rfl,hx,hy⟩:=tr_thn htr
  have hib2:=intB_mem hib
  refine if_eqT rfl (seqS fun N hN=>?_)
  simp only [Bd.pv,expr3,callX3,args3,op3,v3,lk,c3,idx3,at0,at1]
  refine ih A hr win hM hn hj (by omega) (by omega) hg.1 hx (hib2 _ (by simp)) h0 (by omega) (k.x .refl (fun _ _ h=>h) ?_ fun hr1 S1 A1 O1=>?_)
  ·exact fun h=>wk_no h
  ·refine hN _ _ ?_
   simp only [Bd.pv,expr3,callX3,call3,args3,op3,v3,lk,c3,idx3,at1,at2]
   refine sp_rows (by omega) (by omega) fun S2 X2=>?_
   simp only [add3]
   refine ih (A1.ext X2) hr1 (WIn.wk hM b r x w hg.1 h0 (by omega) win) hM hn hj (by omega) (by omega) hg.2 hy (hib2 _ (by simp)) (by omega) (by omega) (k.x (O1.trans (.ext X2)) (fun _ _ h=>h) (fun _=>rfl) fun hr2 S3 A3 O3=>k.1 hr2 S3 A3 ((O1.trans (.ext X2)).trans O3))
 | oft b=>
  simp only [Bd.size] at hsz
  obtain ⟨gs,rfl,hgs⟩:=tr_oft htr
  rw [List.all_eq_true] at hgs
  refine if_eqF rfl (by simp [Bd.hd,ofS_inj]) (if_eqT rfl ?_)
  simp only [expr3,callX3,args3,v3,lk]
  exact ihO A hr win hM hn hj hd (by omega) hg hgs hib h0 h1 k
 | use z=>exact absurd (show z ∈ [] from hg) (by simp)
 | rest=>
  refine if_eqF rfl (by simp [Bd.hd,ofS_inj]) (if_eqF rfl (by simp [Bd.hd,ofS_inj]) ?_)
  refine ifB (v:=false) (fun Q E q=>?_) (fun h=>nomatch h) (fun _=>?_)
  ·simp only [tst,op3,v3,lk,c3,tup3,args3]
   rw [show ([PV.str "either",PV.str "take"]:List PV) = (["either","take"]:List Str).map PV.str from rfl]
   refine in_tstrs (Bd.hd_ok _) et_ok ?_
   rw [show (false != decide (Bd.rest.hd ∈ (["either","take"]:List Str))) = false by simp [Bd.hd,ofS_inj]]
   exact q
  ·simp only [if3,tst,op3,v3,lk,c3,eq3,Bd.hd,decide_true,Bool.true_bne,Bool.not_true,Bool.false_eq_true,if_false,nil3]
   exact k.1 hr S A .refl
 | eit b c=>
  refine if_eqF rfl (by simp [Bd.hd,ofS_inj]) (if_eqF rfl (by simp [Bd.hd,ofS_inj]) ?_)
  refine ifB (v:=true) (fun Q E q=>?_) (fun _=>?_) (fun h=>nomatch h)
  ·simp only [tst,op3,v3,lk,c3,tup3,args3]
   rw [show ([PV.str "either",PV.str "take"]:List PV) = (["either","take"]:List Str).map PV.str from rfl]
   refine in_tstrs (Bd.hd_ok _) et_ok ?_
   rw [show (false != decide ((Bd.eit b c).hd ∈ (["either","take"]:List Str))) = true by simp [Bd.hd,ofS_inj]]
   exact q
  ·simp only [expr3,callX3,args3,v3,lk]
   exact ihC A hr win hM hn hj hd hsz hg htr hib h0 h1 (.inl rfl) k
 | tak z m b c=>
  refine if_eqF rfl (by simp [Bd.hd,ofS_inj]) (if_eqF rfl (by simp [Bd.hd,ofS_inj]) ?_)
  refine ifB (v:=true) (fun Q E q=>?_) (fun _=>?_) (fun h=>nomatch h)
  ·simp only [tst,op3,v3,lk,c3,tup3,args3]
   rw [show ([PV.str "either",PV.str "take"]:List PV) = (["either","take"]:List Str).map PV.str from rfl]
   refine in_tstrs (Bd.hd_ok _) et_ok ?_
   rw [show (false != decide ((Bd.tak z m b c).hd ∈ (["either","take"]:List Str))) = true by simp [Bd.hd,ofS_inj]]
   exact q
  ·simp only [expr3,callX3,args3,v3,lk]
   exact ihC A hr win hM hn hj hd hsz hg htr hib h0 h1 (.inr rfl) k
 | pay x y=>
  refine if_eqF rfl (by simp [Bd.hd,ofS_inj]) (if_eqF rfl (by simp [Bd.hd,ofS_inj]) ?_)
  refine ifB (v:=false) (fun Q E q=>?_) (fun h=>nomatch h) (fun _=>?_)
  ·simp only [tst,op3,v3,lk,c3,tup3,args3]
   rw [show ([PV.str "either",PV.str "take"]:List PV) = (["either","take"]:List Str).map PV.str from rfl]
   refine in_tstrs (Bd.hd_ok _) et_ok ?_
   rw [show (false != decide ((Bd.pay x y).hd ∈ (["either","take"]:List Str))) = false by simp [Bd.hd,ofS_inj]]
   exact q
  ·simp only [if3,tst,op3,v3,lk,c3,eq3,Bd.hd,ofS_inj,String.reduceEq,decide_false,Bool.true_bne,Bool.not_false,if_true,expr3,callX3,args3]
   exact sp_step (v:=v) A hr win hM hn hj hg (.inl rfl) k
 | put z m=>
  refine if_eqF rfl (by simp [Bd.hd,ofS_inj]) (if_eqF rfl (by simp [Bd.hd,ofS_inj]) ?_)
  refine ifB (v:=false) (fun Q E q=>?_) (fun h=>nomatch h) (fun _=>?_)
  ·simp only [tst,op3,v3,lk,c3,tup3,args3]
   rw [show ([PV.str "either",PV.str "take"]:List PV) = (["either","take"]:List Str).map PV.str from rfl]
   refine in_tstrs (Bd.hd_ok _) et_ok ?_
   rw [show (false != decide ((Bd.put z m).hd ∈ (["either","take"]:List Str))) = false by simp [Bd.hd,ofS_inj]]
   exact q
  ·simp only [if3,tst,op3,v3,lk,c3,eq3,Bd.hd,ofS_inj,String.reduceEq,decide_false,Bool.true_bne,Bool.not_false,if_true,expr3,callX3,args3]
   exact sp_step (v:=v) A hr win hM hn hj hg (.inr rfl) k
theorem fold_no {F:PV→Wl→Wl} (hF:∀ g w,w.run = false→F g w = w):∀ (l:List PV) (w:Wl),w.run = false→l.foldl (fun w g=>F g w) w = w
 | [],_,_=>rfl
 | g :: l,w,h=>by rw [List.foldl_cons,hF g w h]; exact fold_no hF l w h
theorem iter_snoc (f:Wl→Wl):∀ (n:Nat) (w:Wl),iter f (n + 1) w = f (iter f n w)
 | 0,_=>rfl
 | n + 1,w=>iter_snoc f n (f w)
theorem iter_add (f:Wl→Wl):∀ (n m:Nat) (w:Wl),iter f (n + m) w = iter f m (iter f n w)
 | 0,m,w=>by rw [Nat.zero_add]; rfl
 | n + 1,m,w=>by rw [Nat.add_right_comm]; exact iter_add f n m (f w)
theorem sp_goch {xc xt xr xh s0 s1 s2:Sp3} (sp_come:ComeToSpec xc) (sp_take:TakeSpec xt) (sp_rows:RowsInSpec 6 xr) (sp_chosen:ChosenSpec xh) (n:Nat) (hn6:n ≤ 6) (ih:GoSpec n s2):GoChSpec (n + 1) (fnX3 5 (b_go_choice xc xt xr xh s0 s1 s2)):=by
 intro S o ps js M t r v w Q E A hr win hM hn hj hd hsz hg htr hib h0 h1 ht k
 unfold b_go_choice
 refine fnX ?_
 rw [show start3 5 [PV.ref o,t.pv,v,PV.int r] = [some (.ref o),some t.pv,some v,some (.int r),none] from rfl]
 have hrow:t.hasRow = true:=by
  cases t with
  | eit b c=>rfl
  | tak z m b c=>rfl
  | _=>rcases ht with ht | ht <;> exact absurd ht (by simp [Bd.hd,ofS_inj])
 have hc:(w.come M r).jars = w.jars:=by rw [come_yes hr]; split <;> rfl
 have wc:=WIn.come hM h0 (show r ≤ 1000 by omega) hr win
 rw [wk_row hrow] at k
 refine seqS fun N hN=>?_
 simp only [expr3,methX3,args3,v3,lk]
 refine A.ins ⟨f_m1,?_⟩
 refine come_out sp_come A hr (by have:=win.2.2.2.2.1; omega) (k.x .refl (fun _ _ h=>h) (fun h=>Wl.go_no h) fun hr1 S1 A1 O1=>?_)
 rw [Wl.go_yes hr1] at k
 have win1:=wc.2 hr1
 generalize hw1:w.come M r = w1 at k A1 hr1 win1
 have hib2:∀ {x y},v = .tup [x,y]→intB (2 ^ 60) y = true:=fun e=>by rw [e] at hib; exact intB_mem hib _ (by simp)
 refine hN _ _ (seqS fun N hN=>?_)
 cases t with
 | eit b c=>
  simp only [Bd.dep] at hd
  simp only [Bd.rows] at h1
  simp only [Bd.size] at hsz
  obtain ⟨i,y,rfl,hy⟩:=tr_eit htr
  refine ifB (v:=false) (fun Q E q=>by simp only [Bd.pv,and3,tst,op3,v3,lk,c3,idx3,at0,eq3,ofS_inj,String.reduceEq,decide_false,Bool.false_bne,Bool.false_eq_true,if_false]; exact q) (fun h=>nomatch h) (fun _=>?_)
  refine hN _ _ (seqS fun N hN=>?_)
  rcases hy with ⟨rfl,hy⟩ | ⟨rfl,hy⟩
  ·simp only [set3,ife3,tst,op3,v3,lk,c3,idx3,at0,eq3,decide_true,Bool.false_bne,if_true,add3,List.set_cons_succ,List.set_cons_zero]
   refine hN _ _ ?_
   simp only [expr3,callX3,call3,args3,op3,v3,lk,c3,idx3,at1,at0]
   refine sp_chosen (a:=b) (b:=c) (hd:=[.str "either"]) (.inl rfl) (by decide) ?_
   rw [if_pos rfl]
   exact ih A1 hr1 win1.weak hM hn hj (by omega) (by omega) hg.1 hy (hib2 rfl) (by omega) (by omega) (k.x O1 (fun _ _ h=>h) (fun _=>by simp only [wkA,nm,pr1,pr2,if_true]) fun hr2 S2 A2 O2=>k.1 (by simpa only [wkA,nm,pr1,pr2,if_true] using hr2) S2 (by simpa only [wkA,nm,pr1,pr2,if_true] using A2) (O1.trans O2))
  ·simp only [set3,ife3,tst,op3,v3,lk,c3,idx3,at0,eq3,Int.reduceEq,decide_false,Bool.false_bne,Bool.false_eq_true,if_false,call3,args3,Bd.pv,un3,neg3,add3,Int.reduceNeg,atm2_3]
   refine sp_rows (by omega) (by omega) fun S2 X2=>?_
   simp only [List.set_cons_succ,List.set_cons_zero]
   refine hN _ _ ?_
   simp only [expr3,callX3,call3,args3,op3,v3,lk,c3,idx3,at1,at0]
   refine sp_chosen (a:=b) (b:=c) (hd:=[.str "either"]) (.inr rfl) (by decide) ?_
   rw [if_neg (by decide)]
   exact ih (A1.ext X2) hr1 win1.weak hM hn hj (by omega) (by omega) hg.2 hy (hib2 rfl) (by omega) (by omega) (k.x (O1.trans (.ext X2)) (fun _ _ h=>h) (fun _=>by simp only [wkA,nm,pr1,pr2,Int.reduceEq,if_false]) fun hr2 S3 A3 O3=>k.1 (by simpa only [wkA,nm,pr1,pr2,Int.reduceEq,if_false] using hr2) S3 (by simpa only [wkA,nm,pr1,pr2,Int.reduceEq,if_false] using A3) ((O1.trans (.ext X2)).trans O3))
 | tak z m b c=>
  simp only [Bd.dep] at hd
  simp only [Bd.rows] at h1
  simp only [Bd.size] at hsz
  obtain ⟨i,y,rfl,hy⟩:=tr_tak htr
  rcases hy with ⟨rfl,hy⟩ | ⟨rfl,hy⟩
  ·refine ifB (v:=true) (fun Q E q=>by simp only [Bd.pv,and3,tst,op3,v3,lk,c3,idx3,at0,eq3,decide_true,Bool.false_bne,if_true]; exact q) (fun _=>?_) (fun h=>nomatch h)
   simp only [Bd.pv,expr3,methX3,args3,op3,v3,lk,c3,idx3,at1,at2]
   refine A1.ins ⟨f_m4,?_⟩
   simp only [wkA,nm,pr1,pr2,if_true] at k
   refine sp_take A1 hn hj (by rw [← hw1,hc]; exact win.1) hg.1 (fun hs S2 A2 O2=>?_) (fun hs=>?_)
   ·rw [if_neg hs] at k
    refine hN _ _ (seqS fun N hN=>?_)
    simp only [set3,ife3,tst,op3,v3,lk,c3,idx3,at0,eq3,decide_true,Bool.false_bne,if_true,add3,List.set_cons_succ,List.set_cons_zero]
    refine hN _ _ ?_
    simp only [expr3,callX3,call3,args3,op3,v3,lk,c3,idx3,at1,at0]
    refine sp_chosen (a:=b) (b:=c) (hd:=[.str "take",.str z,.int m]) (.inl rfl) (Nat.le_refl 3) ?_
    rw [if_pos rfl]
    exact ih A2 hr1 (win1.bring (by have:=hg.2.2.1; omega) (by have:=hg.2.1; omega)) hM hn hj (by omega) (by omega) hg.2.2.2.1 hy (hib2 rfl) (by omega) (by omega) (k.x (O1.trans O2) (fun _ _ h=>h) (fun _=>rfl) fun hr3 S3 A3 O3=>k.1 hr3 S3 A3 ((O1.trans O2).trans O3))
   ·rw [if_pos hs] at k
    exact k.2.2 r rfl (run_iff.mp hr1).2 S1 O1
  ·refine ifB (v:=false) (fun Q E q=>by simp only [Bd.pv,and3,tst,op3,v3,lk,c3,idx3,at0,eq3,decide_true,Bool.false_bne,if_true,Int.reduceEq,decide_false]; exact q) (fun h=>nomatch h) (fun _=>?_)
   refine hN _ _ (seqS fun N hN=>?_)
   simp only [set3,ife3,tst,op3,v3,lk,c3,idx3,at0,eq3,Int.reduceEq,decide_false,Bool.false_bne,Bool.false_eq_true,if_false,call3,args3,Bd.pv,un3,neg3,add3,Int.reduceNeg,atm2_5]
   refine sp_rows (by omega) (by omega) fun S2 X2=>?_
   simp only [List.set_cons_succ,List.set_cons_zero]
   refine hN _ _ ?_
   simp only [expr3,callX3,call3,args3,op3,v3,lk,c3,idx3,at1,at0]
   refine sp_chosen (a:=b) (b:=c) (hd:=[.str "take",.str z,.int m]) (.inr rfl) (Nat.le_refl 3) ?_
   rw [if_neg (by decide)]
   exact ih (A1.ext X2) hr1 win1.weak hM hn hj (by omega) (by omega) hg.2.2.2.2 hy (hib2 rfl) (by omega) (by omega) (k.x (O1.trans (.ext X2)) (fun _ _ h=>h) (fun _=>by simp only [wkA,nm,pr1,pr2,Int.reduceEq,if_false]) fun hr2 S3 A3 O3=>k.1 (by simpa only [wkA,nm,pr1,pr2,Int.reduceEq,if_false] using hr2) S3 (by simpa only [wkA,nm,pr1,pr2,Int.reduceEq,if_false] using A3) ((O1.trans (.ext X2)).trans O3))
 | _=>rcases ht with ht | ht <;> exact absurd ht (by simp [Bd.hd,ofS_inj])
theorem sp_gooft {xc s0 s1 s2:Sp3} (sp_come:ComeToSpec xc) (n:Nat) (ih:GoSpec n s2):GoOftSpec (n + 1) (fnX3 6 (b_go_often xc s0 s1 s2)):=by
 intro S o ps js M b r gs w Q E A hr win hM hn hj hd hsz hg hgs hib h0 h1 k
 unfold b_go_often
 refine fnX ?_
 rw [show start3 6 [PV.ref o,(Bd.oft b).pv,PV.tup gs,PV.int r] = [some (.ref o),some (Bd.oft b).pv,some (.tup gs),some (.int r),none,none] from rfl]
 simp only [Bd.dep] at hd
 simp only [Bd.rows] at h1
 have wc:=WIn.come hM h0 (show r ≤ 1000 by omega) hr win
 rw [wk_row rfl] at k
 refine seqS fun N hN=>?_
 simp only [expr3,methX3,args3,v3,lk]
 refine A.ins ⟨f_m1,?_⟩
 refine come_out sp_come A hr (by have:=win.2.2.2.2.1; omega) (k.x .refl (fun _ _ h=>h) (fun h=>Wl.go_no h) fun hr1 S1 A1 O1=>?_)
 rw [Wl.go_yes hr1] at k
 have win1:=(wc.2 hr1).weak
 generalize w.come M r = w1 at k A1 hr1 win1
 refine hN _ _ ?_
 simp only [for3,iter3,v3,lk]
 obtain ⟨F,hF⟩:∃ F:PV→Wl→Wl,F = fun g w=>iter (fun w=>(wk M js b (r + 1) (pr2 g) w).go (Wl.come M r)) (nm (pr1 g)).toNat w:=⟨_,rfl⟩
 have fno:∀ y w,w.run = false→(fun w=>(wk M js b (r + 1) y w).go (Wl.come M r)) w = w:=fun y w h=>by show (wk M js b (r + 1) y w).go _ = w; rw [wk_no h,Wl.go_no h]
 have Fno:∀ g w,w.run = false→F g w = w:=fun g w h=>by rw [hF]; exact iter_no (fno _) _ w h
 have k':Out o ps js M S (gs.foldl (fun w g=>F g w) w1) Q E:=by rw [hF]; exact k
 refine forL_by (fun done σ S'=>∃ (x4 x5:Option PV),σ = [some (.ref o),some (Bd.oft b).pv,some (.tup gs),some (.int r),x4,x5]∧DAt S' o ps js M (done.foldl (fun w g=>F g w) w1)∧(done.foldl (fun w g=>F g w) w1).run = true∧WIn js.length M 0 (done.foldl (fun w g=>F g w) w1)∧OthD o ps S S') ⟨_,_,rfl,A1,hr1,win1,O1⟩ (fun _ _ _ _=>trivial) ?_ ?_
 ·rintro done g rest σ S2 K e ⟨x4,x5,rfl,A2,hr2,win2,O2⟩ hK
  have e':gs = done ++ g :: rest:=e
  obtain ⟨m,y,rfl,hm,hy⟩:=go_of (hgs g (by rw [e']; simp))
  have hib2:=intB_mem (intB_mem hib _ (show PV.tup [.int m,y] ∈ gs by rw [e']; simp))
  have hm2:m.natAbs ≤ 2 ^ 60:=by have:=hib2 (.int m) (by simp); simpa [intB] using this
  have k2:Out o ps js M S (rest.foldl (fun w g=>F g w) (F (.tup [.int m,y]) (done.foldl (fun w g=>F g w) w1))) Q E:=by
   rw [e',List.foldl_append,List.foldl_cons] at k'; exact k'
  simp only [foldl_snoc] at hK
  generalize done.foldl (fun w g=>F g w) w1 = w2 at A2 win2 hK hr2 k2
  obtain ⟨f,hf⟩:∃ f:Wl→Wl,f = fun w=>(wk M js b (r + 1) y w).go (Wl.come M r):=⟨_,rfl⟩
  have hFf:F (.tup [.int m,y]) w2 = iter f m.toNat w2:=by rw [hF,hf]; rfl
  have fno':∀ w,w.run = false→f w = w:=fun w h=>by rw [hf]; exact fno y w h
  rw [hFf] at hK k2
  simp only [Tg.put,List.set_cons_succ,List.set_cons_zero]
  simp only [for3,rng1,op3,v3,lk,c3,idx3,at0]
  refine ⟨by omega,by omega,?_⟩
  refine forL_by (fun dn σ S'=>∃ (x5:Option PV),σ = [some (.ref o),some (Bd.oft b).pv,some (.tup gs),some (.int r),some (.tup [.int m,y]),x5]∧dn.length ≤ m.toNat∧DAt S' o ps js M (iter f dn.length w2)∧(iter f dn.length w2).run = true∧WIn js.length M 0 (iter f dn.length w2)∧OthD o ps S S') ⟨_,rfl,Nat.zero_le _,A2,hr2,win2,O2⟩ (fun _ _ _ _=>trivial) ?_ ?_
  ·rintro dn u rs σ S3 K2 e2 ⟨x5,rfl,hdn,A3,hr3,win3,O3⟩ hK2
   obtain ⟨rfl,hi⟩:=num_mem e2
   simp only [List.length_append,List.length_singleton,iter_snoc] at hK2
   have stop:∀ w',w'.run = false→f (iter f dn.length w2) = w'→rest.foldl (fun w g=>F g w) (iter f m.toNat w2) = w':=fun w' h e=>by
    rw [show m.toNat = (dn.length + 1) + (m.toNat - (dn.length + 1)) by omega,iter_add,iter_snoc,e,iter_no fno' _ w' h]
    exact fold_no Fno rest w' h
   generalize iter f dn.length w2 = w3 at A3 win3 hK2 hr3 stop
   simp only [Tg.put,List.set_cons_succ,List.set_cons_zero]
   refine seqS fun N2 hN2=>?_
   simp only [Bd.pv,expr3,callX3,args3,op3,v3,lk,c3,idx3,at1,add3]
   refine ih A3 hr3 win3 hM hn hj (by omega) hsz hg hy (hib2 _ (by simp)) (by omega) (by omega) (k2.x O3 (fun _ _ h=>h) (fun h=>stop _ h (by rw [hf]; exact Wl.go_no h)) fun hr4 S4 A4 O4=>?_)
   have win4:=WIn.wk hM b (r + 1) y w3 hg (by omega) (by omega) win3
   refine hN2 _ _ ?_
   simp only [expr3,methX3,args3,v3,lk]
   have e4:f w3 = (wk M js b (r + 1) y w3).come M r:=by rw [hf]; exact Wl.go_yes hr4
   refine A4.ins ⟨f_m1,?_⟩
   refine come_out sp_come A4 hr4 (by have:=win4.2.2.2.2.1; omega) (k2.x (O3.trans O4) (fun _ _ h=>h) (fun h=>stop _ h e4) fun hr5 S5 A5 O5=>?_)
   exact hK2 _ _ ⟨_,rfl,hi,by rw [e4]; exact A5,by rw [e4]; exact hr5,by rw [e4]; exact (WIn.come hM h0 (by omega) hr4 win4).1,(O3.trans O4).trans O5⟩
  ·rintro σ S3 ⟨x5,rfl,hdn,A3,hr3,win3,O3⟩
   rw [ints_len] at A3 hr3 win3
   exact hK _ _ ⟨_,_,rfl,A3,hr3,win3,O3⟩
 ·rintro σ S2 ⟨x4,x5,rfl,A2,hr2,win2,O2⟩
  exact k'.1 hr2 S2 A2 O2
noncomputable abbrev InitSpec (x:Sp3):Prop:=∀ {S:Sto} {o:Addr} {js:List Str} {M:Nat} {cs:List Int} {Q:VK3} {E:XK3},S o = some (.ins "Doing" [])→(∀ ps S',S ps = none→DAt S' o ps js M (w0 cs)→(∀ b u,S b = some u→b ≠ o→S' b = some u)→Q .non S')→x [.ref o,jpv js,.tup (cs.map PV.int),.int M] S Q E
theorem sp_init:InitSpec (fn3 4 b_Doing___init__):=by
 intro S o js M cs Q E h k
 unfold b_Doing___init__
 refine fnS ?_
 rw [show start3 4 [PV.ref o,jpv js,PV.tup (cs.map PV.int),PV.int M] = [some (.ref o),some (jpv js),some (.tup (cs.map PV.int)),some (.int M)] from rfl]
 refine seqS fun N hN=>?_
 simp only [sfld3,v3,lk,ins3,h]
 refine ⟨trivial,by decide,hN _ _ (seqS fun N hN=>?_)⟩
 simp only [sfld3,v3,lk,ins3,upd3_same,upd3_upd3]
 refine ⟨trivial,by show 1 < 1000; decide,hN _ _ (seqS fun N hN=>?_)⟩
 simp only [sfld3,v3,lk,ins3,upd3_same,upd3_upd3]
 refine ⟨trivial,by show 2 < 1000; decide,hN _ _ (seqS fun N hN=>?_)⟩
 simp only [sfld3,v3,lk,ins3,upd3_same,upd3_upd3,tup3,args3,c3]
 refine ⟨trivial,by show 3 < 1000; decide,hN _ _ ?_⟩
 simp only [sfld3,v3,lk,lst3,args3]
 intro p hp
 have hpo:p ≠ o:=fun e=>by rw [e,upd3_same] at hp; cases hp
 rw [upd3_ne hpo] at hp
 simp only [ins3,upd3_ne hpo.symm,upd3_same]
 refine ⟨trivial,by show 4 < 1000; decide,?_⟩
 have e:putF3 (Str.ofString "seen") (.ref p) (putF3 (Str.ofString "cost") (.tup [.int 0,.int 1]) (putF3 (Str.ofString "most") (.int M) (putF3 (Str.ofString "jars") (.tup (cs.map PV.int)) (putF3 (Str.ofString "names") (jpv js) [])))) = dF js M (w0 cs) p:=by
  simp [putF3,dF,ofS_inj,w0,cf_zero]
 rw [e]
 refine k p _ hp ⟨upd3_same,by rw [upd3_ne hpo,upd3_same]; rfl⟩ fun b u hb hbo=>?_
 have hbp:b ≠ p:=fun e=>by rw [e,hp] at hb; cases hb
 rw [upd3_ne hbo,upd3_ne hbp,upd3_ne hbo]; exact hb
noncomputable abbrev DoneSpec (x:Sp3):Prop:=∀ {S:Sto} {js:List Str} {ds:List (Str × Bd)} {cs:List Int} {i M:Nat} {z:Str} {t:Bd} {v:PV} {Q:VK3} {E:XK3},ds[i]? = some (z,t)→WIn js.length M 0 (w0 cs)→M ≤ 2001→js.Nodup→js.length ≤ 1000→t.dep ≤ 6→t.size ≤ 900→t.good js []→isTr t v = true→intB (2 ^ 60) v = true→
 ((whole M js t v (w0 cs)).run = true→∀ p S',S p = none→S' p = some (.lst ((whole M js t v (w0 cs)).rows.map rpv))→Ext S S'→Q (.ref p) S')→((whole M js t v (w0 cs)).ov = true→∀ S',Ext S S'→E (tooLong M) [] S')→(∀ r,(whole M js t v (w0 cs)).st = some r→(whole M js t v (w0 cs)).ov = false→∀ S',Ext S S'→E (stuckAt r) [] S')→x [hpv js ds,.tup (cs.map PV.int),.int i,v,.int M] S Q E
theorem sp_done {xi xg xc xr:Sp3} (sp_init:InitSpec xi) (sp_go:GoSpec 6 xg) (sp_come:ComeToSpec xc) (sp_rows:RowsInSpec 6 xr):DoneSpec (fnX3 7 (b_done xi xg xc xr)):=by
 intro S js ds cs i M z t v Q E hi win hM hn hj hd hsz hg htr hib k1 k2 k3
 have hrw:t.rows ≤ 1000:=by have:=t.rows_size; omega
 unfold b_done
 refine fnX ?_
 rw [show start3 7 [hpv js ds,PV.tup (cs.map PV.int),PV.int i,v,PV.int M] = [some (hpv js ds),some (.tup (cs.map PV.int)),some (.int i),some v,some (.int M),none,none] from rfl]
 refine seqS fun N hN=>?_
 rw [show hpv js ds = .tup [jpv js,.tup (ds.map dpv)] from rfl]
 simp only [set3,op3,v3,lk,c3,idx3,at1]
 rw [atI_nat (v:=dpv (z,t)) (by rw [List.getElem?_map,hi]; rfl)]
 unfold dpv
 simp only [at1,List.set_cons_succ,List.set_cons_zero]
 refine hN _ _ (seqS fun N hN=>?_)
 simp only [set3,make3,args3,op3,v3,lk,c3,idx3,at0]
 intro o ho
 refine sp_init upd3_same fun ps S1 hps A1 O1=>?_
 have hpo:ps ≠ o:=fun e=>by rw [e,upd3_same] at hps; cases hps
 rw [upd3_ne hpo] at hps
 have X1:Ext S S1:=fun b u h=>by
  have hb:b ≠ o:=fun e=>by rw [e,ho] at h; cases h
  exact O1 b u (by rw [upd3_ne hb]; exact h) hb
 have toE:∀ {S'},OthD o ps S1 S'→Ext S S':=fun O b u h=>O b u (X1 b u h) (fun e=>by rw [e,ho] at h; cases h) (fun e=>by rw [e,hps] at h; cases h)
 have K:Out o ps js M S1 (whole M js t v (w0 cs)) (fun _ S'=>Q (.ref ps) S') E:=⟨fun h S' A O=>k1 h ps S' hps A.s (toE O),fun h S' O=>k2 h S' (toE O),fun r h h' S' O=>k3 r h h' S' (toE O)⟩
 refine ⟨rfl,hN _ _ (seqS fun N hN=>?_)⟩
 simp only [List.set_cons_succ,List.set_cons_zero,expr3,callX3,args3,v3,lk,c3]
 refine sp_go A1 rfl win hM hn hj hd hsz hg htr hib (by decide) (by omega) (K.x .refl (fun _ _ h=>h) (fun h=>come_no h) fun hr2 S2 A2 O2=>?_)
 have win2:=WIn.wk hM t 0 v (w0 cs) hg (by decide) (by omega) win
 refine hN _ _ (seqS fun N hN=>?_)
 simp only [expr3,methX3,call3,args3,v3,lk]
 refine A2.ins ⟨f_m1,?_⟩
 refine sp_rows hd hsz fun S3 X3=>?_
 refine come_out sp_come (A2.ext X3) hr2 (by have:=win2.2.2.2.2.1; omega) (K.x (O2.trans (.ext X3)) (fun _ _ h=>h) (fun _=>rfl) fun hr4 S4 A4 O4=>?_)
 refine hN _ _ ?_
 simp only [ret3,fld3,v3,lk]
 refine A4.ins ?_
 simp only [f_seen]
 exact K.1 hr4 S4 A4 ((O2.trans (.ext X3)).trans O4)
theorem ov_come {M:Nat} {r:Int} {w:Wl} (h:w.ov = true→M ≤ w.rows.length):(w.come M r).ov = true→M ≤ (w.come M r).rows.length:=by
 cases hr:w.run with
 | false=>rw [come_no hr]; exact h
 | true=>
  rw [come_yes hr]
  split
  ·rename_i hl; exact fun _=>hl
  ·intro h2
   have:=(run_iff.mp hr).2
   dsimp only at h2
   rw [this] at h2; cases h2
theorem ov_go {P:Wl→Prop} {w:Wl} {f:Wl→Wl} (h:P w) (k:w.run = true→P (f w)):P (w.go f):=by
 cases hr:w.run with
 | false=>rw [Wl.go_no hr]; exact h
 | true=>rw [Wl.go_yes hr]; exact k hr
theorem ov_wk {M:Nat} {js:List Str}:∀ (t:Bd) (r:Int) (v:PV) (w:Wl),(w.ov = true→M ≤ w.rows.length)→(wk M js t r v w).ov = true→M ≤ (wk M js t r v w).rows.length:=by
 intro t
 induction t with
 | rest=>intro r v w h; exact h
 | pay x y=>intro r v w h; exact ov_go (P:=fun w=>w.ov = true→M ≤ w.rows.length) (ov_come h) fun _=>ov_come h
 | put z m=>intro r v w h; exact ov_go (P:=fun w=>w.ov = true→M ≤ w.rows.length) (ov_come h) fun _=>ov_come h
 | use z=>intro r v w h; exact ov_come h
 | thn a b iha ihb=>intro r v w h; exact ihb _ _ _ (iha _ _ _ h)
 | eit a b iha ihb=>
  intro r v w h
  refine ov_go (P:=fun w=>w.ov = true→M ≤ w.rows.length) (ov_come h) fun _=>?_
  split
  ·exact iha _ _ _ (ov_come h)
  ·exact ihb _ _ _ (ov_come h)
 | tak z m a b iha ihb=>
  intro r v w h
  refine ov_go (P:=fun w=>w.ov = true→M ≤ w.rows.length) (ov_come h) fun _=>?_
  split
  ·split
   ·exact ov_come h
   ·exact iha _ _ _ (ov_come h)
  ·exact ihb _ _ _ (ov_come h)
 | oft a iha=>
  intro r v w h
  refine ov_go (P:=fun w=>w.ov = true→M ≤ w.rows.length) (ov_come h) fun _=>?_
  refine fold_ind (P:=fun w=>w.ov = true→M ≤ w.rows.length) (f:=fun g w=>iter (fun w=>(wk M js a (r + 1) (pr2 g) w).go (Wl.come M r)) (nm (pr1 g)).toNat w) (fun u w q=>iter_ind (P:=fun w=>w.ov = true→M ≤ w.rows.length) (fun w q=>?_) _ w q) _ _ (ov_come h)
  exact ov_go (P:=fun w=>w.ov = true→M ≤ w.rows.length) (iha _ _ _ q) fun _=>ov_come (iha _ _ _ q)
theorem ov_len {M:Nat} {js:List Str} (t:Bd) (v:PV) (w:Wl) (hw:w.ov = false) (h:(whole M js t v w).ov = true):M ≤ (whole M js t v w).rows.length:=ov_come (ov_wk t 0 v w (fun z=>by rw [hw] at z; cases z)) h
theorem Sh.t {S:Sto} {i:Int} (h:i.natAbs < 2 ^ 64):Sh S (.int i) (.int i) 65 0:=by
 have hl:i.natAbs.log2 < 64:=by
  by_cases h0:i.natAbs = 0
  ·rw [h0]; decide
  ·exact (Nat.log2_lt h0).mpr h
 exact ⟨.int i,by simp [PyData.canLay0],by simpa [PyData.showable] using small_log h,by simp [PyData.depth],by rw [PyData.shown_int,PySem.ofString_length]; exact PySem.int_text_length_le (k:=64) (by decide) hl⟩
theorem Sh.lst {S:Sto} {a:Addr} {n k:Nat} {vs:List PV} {ds:List PyData} (h:S a = some (.lst vs)) (b:Shs S vs ds n k):Sh S (.ref a) (.list ds) (n + 3) (k + 1):=
 ⟨.ref h b.dat,by simp [PyData.canLay0,b.lay],by simp [PyData.showable,b.shw],by simp only [PyData.depth]; exact Nat.succ_le_succ b.dep,by
  rw [PyData.shown_list,strLen_append,strLen_append]
  have e1:((("[":String):Str)).length = 1:=rfl
  have e3:((("]":String):Str)).length = 1:=rfl
  have q:=b.len
  rcases ds with _ | ⟨d,ds⟩
  ·have:(Str.join ", " (PyData.shownAll [])).length = 0:=by simp [PyData.shownAll]; rfl
   omega
  ·have:=join_length_add (PyData.shownAll (d :: ds)) (by simp [PyData.shownAll])
   omega⟩
noncomputable def rdt (q:Int × List Int × Int):PyData:=.tuple [.int q.1,.tuple (q.2.1.map PyData.int),.tuple [.int (M3.lowT q.2.2 2520),.int (M3.lowB q.2.2 2520)]]
theorem Sh.row {S:Sto} {n:Nat} {q:Int × List Int × Int} (hn:n ≤ 8) (h:RowOk n q):Sh S (rpv q) (rdt q) 1000 4:=by
 obtain ⟨⟨a1,a2⟩,b,c,d1,d2⟩:=h
 have lt:∀ i:Int,-(2 ^ 40) ≤ i→i ≤ 2 ^ 40→i.natAbs < 2 ^ 64:=fun i h1 h2=>by omega
 have b0:=cf_bot q.2.2
 have cc:Sh S (cf q.2.2) (.tuple [.int (M3.lowT q.2.2 2520),.int (M3.lowB q.2.2 2520)]) 140 2:=
  (Sh.tup (((Sh.t (lt _ (by have:=cf_nonneg d1; omega) (cf_le d1 d2))).le (Nat.le_refl _) (Nat.zero_le 1)).cons (((Sh.t (S:=S) (lt _ (by omega) (by omega))).le (Nat.le_refl _) (Nat.zero_le 1)).cons (.nil' _)))).le (by decide) (by decide)
 have jj:Sh S (.tup (q.2.1.map PV.int)) (.tuple (q.2.1.map PyData.int)) 600 2:=
  (Sh.tup (Shs.map PV.int PyData.int (n:=65) (k:=1) fun x hx=>(Sh.t (lt _ (c x hx).1 (c x hx).2)).le (Nat.le_refl _) (Nat.zero_le _))).le (by omega) (by decide)
 exact (Sh.tup (((Sh.t (lt _ (by omega) (by omega))).le (Nat.le_refl _) (Nat.zero_le 3)).cons ((jj.le (Nat.le_refl _) (by decide)).cons ((cc.le (Nat.le_refl _) (by decide)).cons (.nil' _))))).le (by decide) (by decide)
theorem Sh.rows {S:Sto} {n M:Nat} {e:Int} {w:Wl} {a:Addr} (hn:n ≤ 8) (hM:M ≤ 2001) (h:WIn n M e w) (ha:S a = some (.lst (w.rows.map rpv))):Sh S (.ref a) (.list (w.rows.map rdt)) 2100000 5:=
 (Sh.lst ha (Shs.map rpv rdt fun q hq=>Sh.row hn (h.2.2.2.2.2 q hq))).le (by have:=h.2.2.2.2.1; have:w.rows.length * (1000 + 2) ≤ 2001 * 1002:=Nat.mul_le_mul_right _ (by omega); omega) (by decide)
end C
namespace G19
open PySem L2 L3
noncomputable def top (i:Nat):Stmt:=PySem.Challenge.pw_dueworth_k19_stuck_or_too_long.main.body.getD i (.Pass ⟨0,0,0,0⟩)
noncomputable def mt (i j:Nat):Stmt:=(clsBody (top i)).getD j (.Pass ⟨0,0,0,0⟩)
noncomputable abbrev xat:List (Str × Str):=[("TooLong","most"),("Stuck","row")]
noncomputable abbrev xtab:List (Str × Str × Bool):=[("TooLong","BadText",false),("TooLong","NoHouse",false),("TooLong","Stuck",false),("TooLong","TooLong",true),("TooLong","NoStory",false),("TooLong","TooMany",false),("TooLong","NoRow",false),("Stuck","BadText",false),("Stuck","NoHouse",false),("Stuck","Stuck",true),("Stuck","TooLong",false),("Stuck","NoStory",false),("Stuck","TooMany",false),("Stuck","NoRow",false)]
structure Txt (P:Program) (w:World) (K:PySem.W.Frag) (mg:Str→Option Value):Prop where
 o_sides_of:Own4 K mg "sides_of" (top 2) ["body"]
 o_parts_in:Own4 K mg "parts_in" (top 3) ["body"]
 o_has_row:Own4 K mg "has_row" (top 5) ["part"]
 o_rows_in:Own4 K mg "rows_in" (top 6) ["body"]
 o_common:Own4 K mg "common" (top 17) ["one","other"]
 o_fraction:Own4 K mg "fraction" (top 18) ["top","bottom"]
 o_plus:Own4 K mg "plus" (top 19) ["one","other"]
 o_chosen:Own4 K mg "chosen" (top 21) ["body","trace"]
 o_things_of:Own4 K mg "things_of" (top 23) ["jars","name","things"]
 o_added:Own4 K mg "added" (top 24) ["one","other"]
 o_Doing___init__:OwnM K "Doing" "__init__" "Doing.__init__" (mt 26 0) ["self","names","jars","most"]
 o_Doing_come_to:OwnM K "Doing" "come_to" "Doing.come_to" (mt 26 1) ["self","row"]
 o_Doing_pay:OwnM K "Doing" "pay" "Doing.pay" (mt 26 2) ["self","cost"]
 o_Doing_bring:OwnM K "Doing" "bring" "Doing.bring" (mt 26 3) ["self","name","things"]
 o_Doing_take:OwnM K "Doing" "take" "Doing.take" (mt 26 4) ["self","name","things","row"]
 o_go_often:Own4 K mg "go_often" (top 27) ["doing","body","goings","row"]
 o_go_choice:Own4 K mg "go_choice" (top 28) ["doing","body","trace","row"]
 o_go_step:Own4 K mg "go_step" (top 29) ["doing","body","row"]
 o_go:Own4 K mg "go" (top 30) ["doing","body","trace","row"]
 o_done:Own4 K mg "done" (top 31) ["house","jars","d","trace","most"]
 o__law_deal:Own4 K mg "_law_deal" (top 33) ["_law_script","_law_base"]
 o__law_draw:Own4 K mg "_law_draw" (top 34) ["_law_deal_here","_law_many"]
 o__law_words:Own4 K mg "_law_words" (top 35) ["_law_deal_here","_law_many"]
 o__law_low:Own4 K mg "_law_low" (top 36) ["_law_top","_law_bottom"]
 o__law_plus:Own4 K mg "_law_plus" (top 37) ["_law_one","_law_other"]
 o__law_cost:Own4 K mg "_law_cost" (top 38) ["_law_deal_here"]
 o__law_leaf:Own4 K mg "_law_leaf" (top 39) ["_law_deal_here","_law_jars"]
 o__law_body:Own4 K mg "_law_body" (top 40) ["_law_deal_here","_law_jars","_law_left","_law_down"]
 o__law_pass_count:Own4 K mg "_law_pass_count" (top 41) ["_law_body_here"]
 o__law_round_count:Own4 K mg "_law_round_count" (top 42) ["_law_body_here"]
 o__law_deed_body:Own4 K mg "_law_deed_body" (top 43) ["_law_deal_here","_law_jars","_law_room","_law_most"]
 o__law_house:Own4 K mg "_law_house" (top 44) ["_law_deal_here","_law_most_jars","_law_most_deeds","_law_room"]
 o__law_any_house:Own4 K mg "_law_any_house" (top 45) ["_law_deal_here"]
 o__law_trace_to:Own4 K mg "_law_trace_to" (top 46) ["_law_deal_here","_law_body_here","_law_left","_law_wide"]
 o__law_rows:Own4 K mg "_law_rows" (top 47) ["_law_body_here"]
 o__law_come:Own4 K mg "_law_come" (top 48) ["_law_world","_law_row"]
 o__law_at_row:Own4 K mg "_law_at_row" (top 49) ["_law_body_here","_law_at","_law_trace","_law_world"]
 o__law_walk:Own4 K mg "_law_walk" (top 50) ["_law_body_here","_law_at","_law_trace","_law_world"]
 o__law_walked:Own4 K mg "_law_walked" (top 51) ["_law_house_here","_law_jars","_law_d","_law_trace","_law_limit"]
 o__law_due:Own4 K mg "_law_due" (top 52) ["_law_world","_law_most"]
 o__law_told:Own4 K mg "_law_told" (top 53) ["_law_house_here","_law_jars","_law_d","_law_trace","_law_most"]
 o__law_at_bound:Own4 K mg "_law_at_bound" (top 54) ["_law_deal_here"]
 c_Doing:Cl4 K mg "Doing" ["names","jars","most","cost","seen"]
 z_ValueError:mg "ValueError" = none
 z_abs:mg "abs" = none
 z_int:mg "int" = none
 z_isinstance:mg "isinstance" = none
 z_len:mg "len" = none
 z_list:mg "list" = none
 z_max:mg "max" = none
 z_range:mg "range" = none
 z_repr:mg "repr" = none
 z_reversed:mg "reversed" = none
 z_tuple:mg "tuple" = none
 z_zip:mg "zip" = none
 c_SIDES_FROM:∃ a,mg "SIDES_FROM" = some (.ref a)∧KD P w K a (C.k_SIDES_FROM.map fun kv=>(kv.1,V.int kv.2))
 n_DueError:XN4 K mg "DueError"
 n_BadText:XN4 K mg "BadText"
 n_NoHouse:XN4 K mg "NoHouse"
 n_Stuck:XN4 K mg "Stuck"
 n_TooLong:XN4 K mg "TooLong"
 n_NoStory:XN4 K mg "NoStory"
 n_TooMany:XN4 K mg "TooMany"
 n_NoRow:XN4 K mg "NoRow"
 x_TooLong:XC4 K mg "TooLong" "TooLong.__init__" (mt 12 0) ["self","most"] ["most"]
 x_Stuck:XC4 K mg "Stuck" "Stuck.__init__" (mt 11 0) ["self","row"] ["row"]
 t_DueError:XE4 K mg "DueError" ["TooLong","Stuck"]
 x_at:XAttr K xat
 x_tab:XTab K xtab
section
variable {P:Program} {w:World} {K:PySem.W.Frag} {mg:Str→Option Value} {base:Heap}
theorem nd_0:(["part"]:List Str).Nodup:=by decide +kernel
theorem nd_1:(["jar","name","things"]:List Str).Nodup:=by decide +kernel
theorem nd_2:(["left","right"]:List Str).Nodup:=by decide +kernel
theorem nd_3:(["_law_one"]:List Str).Nodup:=by decide +kernel
theorem nd_4:(["_law_k","_law_deal_here","_law_letters"]:List Str).Nodup:=by decide +kernel
theorem nd_5:(["_law_j","_law_deal_here","_law_letters"]:List Str).Nodup:=by decide +kernel
theorem nd_6:(["_law_k","_law_deal_here","_law_first","_law_jars","_law_many","_law_room","_law_words_here"]:List Str).Nodup:=by decide +kernel
theorem nd_7:(["_law_k","_law_deal_here","_law_jars","_law_words_here"]:List Str).Nodup:=by decide +kernel
theorem nd_8:(["_law_name","_law_deal_here"]:List Str).Nodup:=by decide +kernel
theorem xi_TooLong (T:Txt P w K mg):XR4 P w K mg base "TooLong" ["most"]:=xr1 ["self","most"] T.x_TooLong rfl fun _ _ _ _ _ _ _=>pss_one (ps_xf0 (pv 0) (pv 1) rfl)
theorem xi_Stuck (T:Txt P w K mg):XR4 P w K mg base "Stuck" ["row"]:=xr1 ["self","row"] T.x_Stuck rfl fun _ _ _ _ _ _ _=>pss_one (ps_xf0 (pv 0) (pv 1) rfl)
noncomputable def w_sides_of:Sp3:=fn3 1 C.b_sides_of
theorem ok_sides_of (T:Txt P w K mg):Ok4 P w K mg base 1 "sides_of" 1 w_sides_of:=mk4 ["body"] T.o_sides_of (fun _ _ _ _ _ _ _ hr nd=>(s3one (s3ret (e3slice (e3v 0) (o3some (kg4 hr T.c_SIDES_FROM (ixi hr (e3v 0)) (cB b3len T.z_len (l1 (e3v 0))))) o3none)))) rfl
noncomputable def r_parts_in:Nat→Sp3
 | 0=>no3
 | n + 1=>fn3 3 (C.b_parts_in w_sides_of (r_parts_in n))
noncomputable def w_parts_in:Sp3:=r_parts_in 12
theorem ok_parts_in (T:Txt P w K mg):Ok4 P w K mg base 13 "parts_in" 1 w_parts_in:=all4 (b:=1) (r:=r_parts_in) T.o_parts_in (fun n R0=>mk4 ["body","found","side"] T.o_parts_in (fun _ _ _ _ _ _ _ hr nd=>(s3cons (s4 1 nd (e3lst (l1 (e3v 0))))
  (s3cons (s3for PassesOwn.never rfl (i3any (c4 (ok_sides_of T) hr (l1 (e3v 0)))) (gn 2 nd) (s3one (s3expr (bm4 kd_extend m3extend (e3v 1) (l1 (c4 R0 hr (l1 (e3v 2))))))))
  (s3one (s3ret (e3v 1)))))) rfl) rfl rfl 12
noncomputable def w_has_row:Sp3:=fn3 1 C.b_has_row
theorem ok_has_row (T:Txt P w K mg):Ok4 P w K mg base 1 "has_row" 1 w_has_row:=mk4 ["part"] T.o_has_row (fun _ _ _ _ _ _ _ hr nd=>(s3one (s3ret (e3cmp (op3notin (hu160 hr)) (ixi hr (e3v 0)) (e3tup (lc e3str (l1 e3str))) rfl)))) rfl
noncomputable def w_rows_in:Sp3:=fn3 1 (C.b_rows_in w_parts_in w_has_row)
theorem ok_rows_in (T:Txt P w K mg):Ok4 P w K mg base 14 "rows_in" 1 w_rows_in:=mk4 ["body"] T.o_rows_in (fun _ _ _ _ _ _ _ hr nd=>(s3one (s3ret (cB b3len T.z_len (l1 (ec4 [] 1 [] ["part"] (i3any (c4 (ok_parts_in T) hr (l1 (e3v 0)))) (fun _=>(gn 0 nd_0)) (fun _=>(f3one (t3val (c4 (ok_has_row T) hr (l1 (e3v 0)))))) (fun _=>(e3v 0)))))))) rfl
noncomputable def w_common:Sp3:=fn3 3 C.b_common
theorem ok_common (T:Txt P w K mg):Ok4 P w K mg base 1 "common" 2 w_common:=mk4 ["one","other","left"] T.o_common (fun _ _ _ _ _ _ _ hr nd=>(s3cons (s3while PassesOwn.never (tne hr (e3v 1) e3int) (s3cons (s4 2 nd (e3op o3mod (e3v 0) (e3v 1)))
  (s3cons (s4 0 nd (e3v 1))
  (s3one (s4 1 nd (e3v 2))))))
  (s3one (s3ret (cB b3abs T.z_abs (l1 (e3v 0))))))) rfl
noncomputable def w_fraction:Sp3:=fn3 3 (C.b_fraction w_common)
theorem ok_fraction (T:Txt P w K mg):Ok4 P w K mg base 2 "fraction" 2 w_fraction:=mk4 ["top","bottom","part"] T.o_fraction (fun _ _ _ _ _ _ _ hr nd=>(s3cons (s4 2 nd (c4 (ok_common T) hr (lc (e3v 0) (l1 (e3v 1)))))
  (s3cons (s3if (t3cmp o3lt (e3v 1) e3int (nomark _)) (s3one (s4 2 nd (e3un un3neg (e3v 2)))) s3nil)
  (s3one (s3ret (e3tup (lc (e3op o3fdiv (e3v 0) (e3v 2)) (l1 (e3op o3fdiv (e3v 1) (e3v 2)))))))))) rfl
noncomputable def w_plus:Sp3:=fn3 2 (C.b_plus w_fraction)
theorem ok_plus (T:Txt P w K mg):Ok4 P w K mg base 3 "plus" 2 w_plus:=mk4 ["one","other"] T.o_plus (fun _ _ _ _ _ _ _ hr nd=>(s3one (s3ret (c4 (ok_fraction T) hr (lc (e3op op3add (e3op op3mul (ixi hr (e3v 0)) (ixi hr (e3v 1))) (e3op op3mul (ixi hr (e3v 1)) (ixi hr (e3v 0)))) (l1 (e3op op3mul (ixi hr (e3v 0)) (ixi hr (e3v 1))))))))) rfl
noncomputable def w_chosen:Sp3:=fn3 2 C.b_chosen
theorem ok_chosen (T:Txt P w K mg):Ok4 P w K mg base 1 "chosen" 2 w_chosen:=mk4 ["body","trace"] T.o_chosen (fun _ _ _ _ _ _ _ hr nd=>(s3one (s3ret (ixx hr (e3v 0) (e3op op3add (e3un un3neg e3int) (ixi hr (e3v 1))))))) rfl
noncomputable def w_things_of:Sp3:=fn3 3 C.b_things_of
theorem ok_things_of (T:Txt P w K mg):Ok4 P w K mg base 1 "things_of" 3 w_things_of:=mk4 ["jars","name","things"] T.o_things_of (fun _ _ _ _ _ _ _ hr nd=>(s3one (s3ret (cT b3tuple T.z_tuple (l1 (ec4 ["things","name"] 1 [1,2] ["jar","name","things"] (i3any (e3v 0)) (fun _=>(gn 0 nd_1)) (fun _=>f3nil) (fun _=>(e3ife (teq hr (e3v 0) (e3v 1)) (e3v 2) e3int)))))))) rfl
noncomputable def w_added:Sp3:=fn3 2 C.b_added
theorem ok_added (T:Txt P w K mg):Ok4 P w K mg base 1 "added" 2 w_added:=mk4 ["one","other"] T.o_added (fun _ _ _ _ _ _ _ hr nd=>(s3one (s3ret (cT b3tuple T.z_tuple (l1 (ec4 [] 2 [] ["left","right"] (i3zip rfl rfl rfl T.z_zip (by decide +kernel) (lc (e3v 0) (l1 (e3v 1)))) (fun _=>(g3t rfl (g3cons (gn 0 nd_2) (g3cons (gn 1 nd_2) g3nil)))) (fun _=>f3nil) (fun _=>(e3op op3add (e3v 0) (e3v 1))))))))) rfl
noncomputable def w_Doing___init__:Sp3:=fn3 4 CY.b_Doing___init__
theorem ok_Doing___init__ (T:Txt P w K mg):OkM P w K mg base 1 "Doing" "__init__" 4 w_Doing___init__:=mkM ["self","names","jars","most"] T.o_Doing___init__ (fun _ _ _ _ _ _ _ hr nd=>(s3cons (sf4 T.c_Doing (e3v 1) (e3v 0))
  (s3cons (sf4 T.c_Doing (e3v 2) (e3v 0))
  (s3cons (sf4 T.c_Doing (e3v 3) (e3v 0))
  (s3cons (sf4 T.c_Doing (e3tup (lc e3int (l1 e3int))) (e3v 0))
  (s3one (sf4 T.c_Doing (e3lst l3nil) (e3v 0)))))))) rfl
noncomputable def w_Doing_come_to:Sp3:=fnX3 2 CY.b_Doing_come_to
theorem ok_Doing_come_to (T:Txt P w K mg):OkMX P w K mg base 3 "Doing" "come_to" 2 w_Doing_come_to:=mkMX ["self","row"] T.o_Doing_come_to (fun _ _ _ _ _ _ _ hr nd=>(s3cons (s3if (t3cmp o3ge (cB b3len T.z_len (l1 (ef4 T.c_Doing (e3v 0)))) (ef4 T.c_Doing (e3v 0)) (nomark _)) (s3one (ra4 (xi_TooLong T) hr (l1 (ef4 T.c_Doing (e3v 0))))) s3nil)
  (s3one (s3expr (bm4 kd_append m3append (ef4 T.c_Doing (e3v 0)) (l1 (e3tup (lc (e3v 1) (lc (ef4 T.c_Doing (e3v 0)) (l1 (ef4 T.c_Doing (e3v 0)))))))))))) rfl
noncomputable def w_Doing_pay:Sp3:=fn3 2 (CY.b_Doing_pay w_plus)
theorem ok_Doing_pay (T:Txt P w K mg):OkM P w K mg base 4 "Doing" "pay" 2 w_Doing_pay:=mkM ["self","cost"] T.o_Doing_pay (fun _ _ _ _ _ _ _ hr nd=>(s3one (sf4 T.c_Doing (c4 (ok_plus T) hr (lc (ef4 T.c_Doing (e3v 0)) (l1 (e3v 1)))) (e3v 0)))) rfl
noncomputable def w_Doing_bring:Sp3:=fn3 3 (CY.b_Doing_bring w_added w_things_of)
theorem ok_Doing_bring (T:Txt P w K mg):OkM P w K mg base 2 "Doing" "bring" 3 w_Doing_bring:=mkM ["self","name","things"] T.o_Doing_bring (fun _ _ _ _ _ _ _ hr nd=>(s3one (sf4 T.c_Doing (c4 (ok_added T) hr (lc (ef4 T.c_Doing (e3v 0)) (l1 (c4 (ok_things_of T) hr (lc (ef4 T.c_Doing (e3v 0)) (lc (e3v 1) (l1 (e3v 2)))))))) (e3v 0)))) rfl
noncomputable def w_Doing_take:Sp3:=fnX3 4 (CY.b_Doing_take w_Doing_bring)
theorem ok_Doing_take (T:Txt P w K mg):OkMX P w K mg base 3 "Doing" "take" 4 w_Doing_take:=mkMX ["self","name","things","row"] T.o_Doing_take (fun _ _ _ _ _ _ _ hr nd=>(s3cons (s3if (t3cmp o3lt (ixx hr (ef4 T.c_Doing (e3v 0)) (e3bmT PySem.F.plainAttrs_tuple PySem.F.slot_tuple_index PySem.F.type_tuple_index m3indexT rfl (ef4 T.c_Doing (e3v 0)) (l1 (e3v 1)))) (e3v 2) (nomark _)) (s3one (ra4 (xi_Stuck T) hr (l1 (e3v 3)))) s3nil)
  (s3one (s3expr (em4 (ok_Doing_bring T) hr (e3v 0) (lc (e3v 1) (l1 (e3un un3neg (e3v 2))))))))) rfl
noncomputable def w_go_step:Sp3:=fnX3 3 (CY.b_go_step w_Doing_come_to w_Doing_pay w_Doing_bring)
theorem ok_go_step (T:Txt P w K mg):OkX P w K mg base 5 "go_step" 3 w_go_step:=mkX ["doing","body","row"] T.o_go_step (fun _ _ _ _ _ _ _ hr nd=>(s3cons (s3expr (emX (ok_Doing_come_to T) hr (e3v 0) (l1 (e3v 2))))
  (s3cons (s3if (teq hr (ixi hr (e3v 1)) e3str) (s3one (s3expr (em4 (ok_Doing_pay T) hr (e3v 0) (l1 (ixi hr (e3v 1)))))) s3nil)
  (s3one (s3if (teq hr (ixi hr (e3v 1)) e3str) (s3one (s3expr (em4 (ok_Doing_bring T) hr (e3v 0) (lc (ixi hr (e3v 1)) (l1 (ixi hr (e3v 1))))))) s3nil))))) rfl
noncomputable def rr_go_often:Nat→Sp3 × Sp3 × Sp3
 | 0=>(no3,no3,no3)
 | n + 1=>(fnX3 6 (CY.b_go_often w_Doing_come_to (rr_go_often n).1 (rr_go_often n).2.1 (rr_go_often n).2.2),fnX3 5 (CY.b_go_choice w_Doing_come_to w_Doing_take w_rows_in w_chosen (rr_go_often n).1 (rr_go_often n).2.1 (rr_go_often n).2.2),fnX3 5 (CY.b_go w_rows_in w_go_step (rr_go_often n).1 (rr_go_often n).2.1 (rr_go_often n).2.2))
noncomputable def r_go_often (n:Nat):Sp3:=(rr_go_often n).1
noncomputable def r_go_choice (n:Nat):Sp3:=(rr_go_often n).2.1
noncomputable def r_go (n:Nat):Sp3:=(rr_go_often n).2.2
theorem st_go_often (T:Txt P w K mg) (n:Nat) {s0 s1 s2:Sp3} (R0:OkX P w K mg base (14 + n) "go_often" 4 s0) (R1:OkX P w K mg base (14 + n) "go_choice" 4 s1) (R2:OkX P w K mg base (14 + n) "go" 4 s2):OkX P w K mg base (14 + n + 1) "go_often" 4 (fnX3 6 (CY.b_go_often w_Doing_come_to s0 s1 s2)):=mkX ["doing","body","goings","row","going","number"] T.o_go_often (fun _ _ _ _ _ _ _ hr nd=>(s3cons (s3expr (emX (ok_Doing_come_to T) hr (e3v 0) (l1 (e3v 3))))
  (s3one (s3for plX rfl (i3any (e3v 2)) (gn 4 nd) (s3one (s3for plX rfl (i3range1 rfl rfl T.z_range (l1 (ixi hr (e3v 4)))) (gn 5 nd) (s3cons (s3expr (cX R2 hr (lc (e3v 0) (lc (ixi hr (e3v 1)) (lc (ixi hr (e3v 4)) (l1 (e3op op3add (e3v 3) e3int)))))))
  (s3one (s3expr (emX (ok_Doing_come_to T) hr (e3v 0) (l1 (e3v 3)))))))))))) rfl
theorem st_go_choice (T:Txt P w K mg) (n:Nat) {s0 s1 s2:Sp3} (R0:OkX P w K mg base (14 + n) "go_often" 4 s0) (R1:OkX P w K mg base (14 + n) "go_choice" 4 s1) (R2:OkX P w K mg base (14 + n) "go" 4 s2):OkX P w K mg base (14 + n + 1) "go_choice" 4 (fnX3 5 (CY.b_go_choice w_Doing_come_to w_Doing_take w_rows_in w_chosen s0 s1 s2)):=mkX ["doing","body","trace","row","first"] T.o_go_choice (fun _ _ _ _ _ _ _ hr nd=>(s3cons (s3expr (emX (ok_Doing_come_to T) hr (e3v 0) (l1 (e3v 3))))
  (s3cons (s3if (t3w (w3and (teq hr (ixi hr (e3v 1)) e3str) (w3and1 (teq hr (ixi hr (e3v 2)) e3int)))) (s3one (s3expr (emX (ok_Doing_take T) hr (e3v 0) (lc (ixi hr (e3v 1)) (lc (ixi hr (e3v 1)) (l1 (e3v 3))))))) s3nil)
  (s3cons (s4 4 nd (e3ife (teq hr (ixi hr (e3v 2)) e3int) (e3op op3add (e3v 3) e3int) (e3op op3add (e3op op3add (e3v 3) e3int) (c4 (ok_rows_in T) hr (l1 (ixx hr (e3v 1) (e3un un3neg e3int)))))))
  (s3one (s3expr (cX R2 hr (lc (e3v 0) (lc (c4 (ok_chosen T) hr (lc (e3v 1) (l1 (e3v 2)))) (lc (ixi hr (e3v 2)) (l1 (e3v 4)))))))))))) rfl
theorem st_go (T:Txt P w K mg) (n:Nat) {s0 s1 s2:Sp3} (R0:OkX P w K mg base (14 + n) "go_often" 4 s0) (R1:OkX P w K mg base (14 + n) "go_choice" 4 s1) (R2:OkX P w K mg base (14 + n) "go" 4 s2):OkX P w K mg base (14 + n + 1) "go" 4 (fnX3 5 (CY.b_go w_rows_in w_go_step s0 s1 s2)):=mkX ["doing","body","trace","row","head"] T.o_go (fun _ _ _ _ _ _ _ hr nd=>(s3cons (s4 4 nd (ixi hr (e3v 1)))
  (s3one (s3if (teq hr (e3v 4) e3str) (s3cons (s3expr (cX R2 hr (lc (e3v 0) (lc (ixi hr (e3v 1)) (lc (ixi hr (e3v 2)) (l1 (e3v 3)))))))
  (s3one (s3expr (cX R2 hr (lc (e3v 0) (lc (ixi hr (e3v 1)) (lc (ixi hr (e3v 2)) (l1 (e3op op3add (e3v 3) (c4 (ok_rows_in T) hr (l1 (ixi hr (e3v 1))))))))))))) (s3one (s3if (teq hr (e3v 4) e3str) (s3one (s3expr (cX R0 hr (lc (e3v 0) (lc (e3v 1) (lc (e3v 2) (l1 (e3v 3)))))))) (s3one (s3if (t3cmp (op3in (hu160 hr)) (e3v 4) (e3tup (lc e3str (l1 e3str))) rfl) (s3one (s3expr (cX R1 hr (lc (e3v 0) (lc (e3v 1) (lc (e3v 2) (l1 (e3v 3)))))))) (s3one (s3if (tne hr (e3v 4) e3str) (s3one (s3expr (cX (ok_go_step T) hr (lc (e3v 0) (lc (e3v 1) (l1 (e3v 3))))))) s3nil)))))))))) rfl
theorem all_go_often (T:Txt P w K mg):∀ n:Nat,OkX P w K mg base (14 + n) "go_often" 4 (r_go_often n)∧OkX P w K mg base (14 + n) "go_choice" 4 (r_go_choice n)∧OkX P w K mg base (14 + n) "go" 4 (r_go n)
 | 0=>⟨.zero T.o_go_often,.zero T.o_go_choice,.zero T.o_go⟩
 | n + 1=>let ⟨h0,h1,h2⟩:=all_go_often T n; ⟨st_go_often T n h0 h1 h2,st_go_choice T n h0 h1 h2,st_go T n h0 h1 h2⟩
noncomputable def w_go:Sp3:=r_go 12
theorem ok_go (T:Txt P w K mg):OkX P w K mg base 26 "go" 4 w_go:=(all_go_often T 12).2.2
noncomputable def w_done:Sp3:=fnX3 7 (CY.b_done w_Doing___init__ w_go w_Doing_come_to w_rows_in)
theorem ok_done (T:Txt P w K mg):OkX P w K mg base 27 "done" 5 w_done:=mkX ["house","jars","d","trace","most","body","doing"] T.o_done (fun _ _ _ _ _ _ _ hr nd=>(s3cons (s4 5 nd (ixi hr (ixx hr (ixi hr (e3v 0)) (e3v 2))))
  (s3cons (s4 6 nd (mk5 T.c_Doing (ok_Doing___init__ T) hr (lc (ixi hr (e3v 0)) (lc (e3v 1) (l1 (e3v 4))))))
  (s3cons (s3expr (cX (ok_go T) hr (lc (e3v 6) (lc (e3v 5) (lc (e3v 3) (l1 e3int))))))
  (s3cons (s3expr (emX (ok_Doing_come_to T) hr (e3v 6) (l1 (c4 (ok_rows_in T) hr (l1 (e3v 5))))))
  (s3one (s3ret (ef4 T.c_Doing (e3v 6))))))))) rfl
noncomputable def w__law_deal:Sp3:=fn3 5 C.b__law_deal
theorem ok__law_deal (T:Txt P w K mg):Ok4 P w K mg base 1 "_law_deal" 2 w__law_deal:=mk4 ["_law_script","_law_base","_law_one","_law_some","_law_number"] T.o__law_deal (fun _ _ _ _ _ _ _ hr nd=>(s3cons (sc4 [] 1 [] ["_law_one"] 3 nd (i3any (e3slice (e3v 0) (o3some (e3v 1)) (o3some e3int))) (fun _=>(gn 0 nd_3)) (fun _=>f3nil) (fun _=>(cB (b3max2 rfl) T.z_max (lc (e3v 0) (l1 (e3op o3sub e3int (e3v 0)))))))
  (s3cons (s4 4 nd (e3op op3add e3int (e3v 1)))
  (s3cons (s3for PassesOwn.never rfl (i3any (e3v 3)) (gn 2 nd) (s3one (s4 4 nd (e3op o3mod (e3op op3add (e3op op3mul (e3v 4) e3int) (e3op o3mod (e3v 2) e3int)) e3int))))
  (s3one (s3ret (e3disp (pp3cons e3str (e3v 4) (pp3cons e3str e3int (pp3cons e3str (e3lrev star_comp rfl (ec4 [] 1 [] ["_law_one"] (i3any (e3v 3)) (fun _=>(gn 0 nd_3)) (fun _=>(f3one (t3cmp o3ge (e3v 0) (e3op o3pow e3int e3int) (nomark _)))) (fun _=>(e3v 0))) rfl T.z_list rfl T.z_reversed) pp3nil)))))))))) rfl
noncomputable def w__law_draw:Sp3:=fn3 5 C.b__law_draw
theorem ok__law_draw (T:Txt P w K mg):Ok4 P w K mg base 1 "_law_draw" 2 w__law_draw:=mk4 ["_law_deal_here","_law_many","_law_number","_law_one","_law_other"] T.o__law_draw (fun _ _ _ _ _ _ _ hr nd=>(s3cons (s3while PassesOwn.never (t3w (w3and (teq hr (ixx hr (e3v 0) e3str) e3int) (w3and1 (t3cmp o3gt (cB b3len T.z_len (l1 (ixx hr (e3v 0) e3str))) e3int (nomark _))))) (s3one (s3sub (hu1 hr) (bm40 kd_pop m3pop (ixx hr (e3v 0) e3str)) (e3v 0) e3str)))
  (s3cons (s4 2 nd (ixx hr (e3v 0) e3str))
  (s3cons (s3if (t3cmp o3gt (e3v 2) e3int (nomark _)) (s3cons (s3sub (hu1 hr) (e3op o3fdiv (e3v 2) (e3v 1)) (e3v 0) e3str)
  (s3one (s3ret (e3op o3mod (e3v 2) (e3v 1))))) s3nil)
  (s3cons (s4 3 nd (e3op o3mod (e3op op3add (e3op op3mul (ixx hr (e3v 0) e3str) e3int) e3int) e3int))
  (s3cons (s3sub (hu1 hr) (e3op o3mod (e3op op3add (e3op op3mul (e3v 3) e3int) e3int) e3int) (e3v 0) e3str)
  (s3cons (s4 4 nd (e3op o3mod (e3op op3mul (ixx hr (e3v 0) e3str) (ixx hr (e3v 0) e3str)) e3int))
  (s3one (s3ret (e3op o3mod (e3op op3add (e3op op3mul (e3op o3mod (e3op op3mul (e3v 3) (e3v 3)) e3int) e3int) (e3v 4)) (e3v 1))))))))))) rfl
noncomputable def w__law_words:Sp3:=fn3 11 (C.b__law_words w__law_draw)
theorem ok__law_words (T:Txt P w K mg):Ok4 P w K mg base 2 "_law_words" 2 w__law_words:=mk4 ["_law_deal_here","_law_many","_law_letters","_law_taken","_law_k","_law_core","_law_at","_law_turn","_law_near","_law_found","_law_name"] T.o__law_words (fun _ _ _ _ _ _ _ hr nd=>(s3cons (s4 2 nd e3str)
  (s3cons (s4 3 nd (e3lst (lc e3str (lc e3str (lc e3str (lc e3str (lc e3str (lc e3str (lc e3str (lc e3str (lc e3str (l1 e3str))))))))))))
  (s3cons (s4 5 nd (bm4 kd_join m3join e3str (l1 (ec4 ["_law_letters","_law_deal_here"] 1 [0,2] ["_law_k","_law_deal_here","_law_letters"] (i3range1 rfl rfl T.z_range (l1 (c4 (ok__law_draw T) hr (lc (e3v 0) (l1 e3int))))) (fun _=>(gn 0 nd_4)) (fun _=>f3nil) (fun _=>(ixx hr (e3v 2) (c4 (ok__law_draw T) hr (lc (e3v 1) (l1 e3int)))))))))
  (s3cons (s3three (i:=6) (j:=7) (k:=8) rfl nd rfl rfl rfl rfl rfl rfl (e3tup (lc (c4 (ok__law_draw T) hr (lc (e3v 0) (l1 (e3op op3add (cB b3len T.z_len (l1 (e3v 5))) e3int)))) (lc (c4 (ok__law_draw T) hr (lc (e3v 0) (l1 e3int))) (l1 (e3cmp (op3eq (hu150 hr)) (c4 (ok__law_draw T) hr (lc (e3v 0) (l1 e3int))) e3int (nomark _)))))))
  (s3cons (s4 9 nd (e3lst l3nil))
  (s3cons (s3for PassesOwn.never rfl (i3range1 rfl rfl T.z_range (l1 (e3v 1))) (gn 4 nd) (s3cons (s4 10 nd (e3op op3add (e3op op3add (e3slice (e3v 5) o3none (o3some (e3v 6))) (ixx hr (e3v 2) (e3op o3mod (e3op op3add (e3v 7) (e3v 4)) e3int))) (e3slice (e3v 5) (o3some (e3v 6)) o3none)))
  (s3cons (s3if (t3not (t3val (e3v 8))) (s3one (s4 10 nd (bm4 kd_join m3join e3str (l1 (ec4 ["_law_letters","_law_deal_here"] 1 [0,2] ["_law_j","_law_deal_here","_law_letters"] (i3range1 rfl rfl T.z_range (l1 (e3op op3add e3int (c4 (ok__law_draw T) hr (lc (e3v 0) (l1 e3int)))))) (fun _=>(gn 0 nd_5)) (fun _=>f3nil) (fun _=>(ixx hr (e3v 2) (c4 (ok__law_draw T) hr (lc (e3v 1) (l1 e3int)))))))))) s3nil)
  (s3cons (s3while PassesOwn.never (t3w (w3or (t3cmp (op3in (hu160 hr)) (e3v 10) (e3v 3) rfl) (w3or1 (t3cmp (op3in (hu160 hr)) (e3v 10) (e3v 9) rfl)))) (s3one (s4 10 nd (e3op op3add (ixx hr (e3v 2) (e3op o3mod (e3op op3add (bm4 kd_index m3index (e3v 2) (l1 (ixi hr (e3v 10)))) e3int) e3int)) (e3slice (e3v 10) (o3some e3int) o3none)))))
  (s3one (s3expr (bm4 kd_append m3append (e3v 9) (l1 (e3v 10)))))))))
  (s3one (s3ret (e3v 9)))))))))) rfl
noncomputable def w__law_low:Sp3:=fn3 4 C.b__law_low
theorem ok__law_low (T:Txt P w K mg):Ok4 P w K mg base 1 "_law_low" 2 w__law_low:=mk4 ["_law_top","_law_bottom","_law_one","_law_other"] T.o__law_low (fun _ _ _ _ _ _ _ hr nd=>(s3cons (s3par (i:=2) (j:=3) rfl nd rfl rfl (by decide) rfl rfl (lc (cB (b3max2 rfl) T.z_max (lc (e3v 0) (l1 (e3op o3sub e3int (e3v 0))))) (l1 (e3v 1))))
  (s3cons (s3while PassesOwn.never (t3cmp o3gt (e3v 3) e3int (nomark _)) (s3one (s3par (i:=2) (j:=3) rfl nd rfl rfl (by decide) rfl rfl (lc (e3v 3) (l1 (e3op o3mod (e3v 2) (e3v 3)))))))
  (s3one (s3ret (e3tup (lc (e3op o3fdiv (e3v 0) (e3v 2)) (l1 (e3op o3fdiv (e3v 1) (e3v 2)))))))))) rfl
noncomputable def w__law_plus:Sp3:=fn3 2 (C.b__law_plus w__law_low)
theorem ok__law_plus (T:Txt P w K mg):Ok4 P w K mg base 2 "_law_plus" 2 w__law_plus:=mk4 ["_law_one","_law_other"] T.o__law_plus (fun _ _ _ _ _ _ _ hr nd=>(s3one (s3ret (c4 (ok__law_low T) hr (lc (e3op op3add (e3op op3mul (ixi hr (e3v 0)) (ixi hr (e3v 1))) (e3op op3mul (ixi hr (e3v 1)) (ixi hr (e3v 0)))) (l1 (e3op op3mul (ixi hr (e3v 0)) (ixi hr (e3v 1))))))))) rfl
noncomputable def w__law_cost:Sp3:=fn3 2 (C.b__law_cost w__law_draw w__law_low)
theorem ok__law_cost (T:Txt P w K mg):Ok4 P w K mg base 2 "_law_cost" 1 w__law_cost:=mk4 ["_law_deal_here","_law_form"] T.o__law_cost (fun _ _ _ _ _ _ _ hr nd=>(s3cons (s4 1 nd (c4 (ok__law_draw T) hr (lc (e3v 0) (l1 e3int))))
  (s3cons (s3if (teq hr (e3v 1) e3int) (s3one (s3ret (e3tup (lc e3int (l1 e3int))))) s3nil)
  (s3cons (s3if (t3cmp o3lt (e3v 1) e3int (nomark _)) (s3one (s3ret (e3tup (lc (e3op op3add e3int (c4 (ok__law_draw T) hr (lc (e3v 0) (l1 e3int)))) (l1 e3int))))) s3nil)
  (s3one (s3ret (c4 (ok__law_low T) hr (lc (c4 (ok__law_draw T) hr (lc (e3v 0) (l1 e3int))) (l1 (e3op op3add e3int (c4 (ok__law_draw T) hr (lc (e3v 0) (l1 e3int))))))))))))) rfl
noncomputable def w__law_leaf:Sp3:=fn3 4 (C.b__law_leaf w__law_draw w__law_cost)
theorem ok__law_leaf (T:Txt P w K mg):Ok4 P w K mg base 3 "_law_leaf" 2 w__law_leaf:=mk4 ["_law_deal_here","_law_jars","_law_form","_law_many"] T.o__law_leaf (fun _ _ _ _ _ _ _ hr nd=>(s3cons (s4 2 nd (c4 (ok__law_draw T) hr (lc (e3v 0) (l1 e3int))))
  (s3cons (s3if (teq hr (e3v 2) e3int) (s3one (s3ret (e3tup (l1 e3str)))) s3nil)
  (s3cons (s3if (t3w (w3or (t3cmp o3lt (e3v 2) e3int (nomark _)) (w3or1 (teq hr (cB b3len T.z_len (l1 (e3v 1))) e3int)))) (s3one (s3ret (e3tup (lc e3str (l1 (c4 (ok__law_cost T) hr (l1 (e3v 0)))))))) s3nil)
  (s3cons (s4 3 nd (ixx hr (e3lst (lc e3int (lc e3int (l1 (e3op op3add e3int (c4 (ok__law_draw T) hr (lc (e3v 0) (l1 e3int)))))))) (c4 (ok__law_draw T) hr (lc (e3v 0) (l1 e3int)))))
  (s3one (s3ret (e3tup (lc e3str (lc (ixx hr (e3v 1) (c4 (ok__law_draw T) hr (lc (e3v 0) (l1 (cB b3len T.z_len (l1 (e3v 1))))))) (l1 (e3v 3)))))))))))) rfl
noncomputable def r__law_body:Nat→Sp3
 | 0=>no3
 | n + 1=>fn3 8 (C.b__law_body w__law_draw w__law_leaf (r__law_body n))
noncomputable def w__law_body:Sp3:=r__law_body 12
theorem ok__law_body (T:Txt P w K mg):Ok4 P w K mg base 15 "_law_body" 4 w__law_body:=all4 (b:=3) (r:=r__law_body) T.o__law_body (fun n R0=>mk4 ["_law_deal_here","_law_jars","_law_left","_law_down","_law_form","_law_one","_law_other","_law_many"] T.o__law_body (fun _ _ _ _ _ _ _ hr nd=>(s3cons (s4 4 nd (c4 (ok__law_draw T) hr (lc (e3v 0) (l1 e3int))))
  (s3cons (s3if (t3w (w3or (teq hr (e3v 3) e3int) (w3or (t3cmp o3lt (ixi hr (e3v 2)) e3int (nomark _)) (w3or1 (t3cmp o3lt (e3v 4) e3int (nomark _)))))) (s3one (s3ret (c4 (ok__law_leaf T) hr (lc (e3v 0) (l1 (e3v 1)))))) s3nil)
  (s3cons (s3if (t3cmp o3lt (e3v 4) e3int (nomark _)) (s3cons (s3sub (hu1 hr) (e3op o3sub (ixi hr (e3v 2)) e3int) (e3v 2) e3int)
  (s3one (s3ret (e3tup (lc e3str (l1 (c4 R0 hr (lc (e3v 0) (lc (e3v 1) (lc (e3v 2) (l1 (e3op o3sub (e3v 3) e3int)))))))))))) s3nil)
  (s3cons (s3sub (hu1 hr) (e3op o3sub (ixi hr (e3v 2)) e3int) (e3v 2) e3int)
  (s3cons (s4 5 nd (c4 R0 hr (lc (e3v 0) (lc (e3v 1) (lc (e3v 2) (l1 (e3op o3sub (e3v 3) e3int)))))))
  (s3cons (s4 6 nd (c4 R0 hr (lc (e3v 0) (lc (e3v 1) (lc (e3v 2) (l1 (e3op o3sub (e3v 3) e3int)))))))
  (s3cons (s3if (t3cmp o3lt (e3v 4) e3int (nomark _)) (s3one (s3ret (e3tup (lc e3str (lc (e3v 5) (l1 (e3v 6))))))) s3nil)
  (s3cons (s3if (t3w (w3or (teq hr (e3v 4) e3int) (w3or1 (teq hr (cB b3len T.z_len (l1 (e3v 1))) e3int)))) (s3one (s3ret (e3tup (lc e3str (lc (e3v 5) (l1 (e3v 6))))))) s3nil)
  (s3cons (s4 7 nd (ixx hr (e3lst (lc e3int (lc e3int (lc e3int (l1 (e3op op3add e3int (c4 (ok__law_draw T) hr (lc (e3v 0) (l1 e3int))))))))) (c4 (ok__law_draw T) hr (lc (e3v 0) (l1 e3int)))))
  (s3one (s3ret (e3tup (lc e3str (lc (ixx hr (e3v 1) (c4 (ok__law_draw T) hr (lc (e3v 0) (l1 (cB b3len T.z_len (l1 (e3v 1))))))) (lc (e3v 7) (lc (e3v 5) (l1 (e3v 6))))))))))))))))))) rfl) rfl rfl 12
noncomputable def r__law_pass_count:Nat→Sp3
 | 0=>no3
 | n + 1=>fn3 1 (C.b__law_pass_count (r__law_pass_count n))
noncomputable def w__law_pass_count:Sp3:=r__law_pass_count 12
theorem ok__law_pass_count (T:Txt P w K mg):Ok4 P w K mg base 12 "_law_pass_count" 1 w__law_pass_count:=all4 (b:=0) (r:=r__law_pass_count) T.o__law_pass_count (fun n R0=>mk4 ["_law_body_here"] T.o__law_pass_count (fun _ _ _ _ _ _ _ hr nd=>(s3cons (s3if (teq hr (ixi hr (e3v 0)) e3str) (s3one (s3ret (e3op op3mul (c4 R0 hr (l1 (ixi hr (e3v 0)))) (c4 R0 hr (l1 (ixi hr (e3v 0))))))) s3nil)
  (s3cons (s3if (t3w (w3or (teq hr (ixi hr (e3v 0)) e3str) (w3or1 (teq hr (ixi hr (e3v 0)) e3str)))) (s3one (s3ret (e3op op3add (c4 R0 hr (l1 (ixx hr (e3v 0) (e3un un3neg e3int)))) (c4 R0 hr (l1 (ixx hr (e3v 0) (e3un un3neg e3int))))))) s3nil)
  (s3one (s3ret e3int))))) rfl) rfl rfl 12
noncomputable def r__law_round_count:Nat→Sp3
 | 0=>no3
 | n + 1=>fn3 1 (C.b__law_round_count w__law_pass_count (r__law_round_count n))
noncomputable def w__law_round_count:Sp3:=r__law_round_count 12
theorem ok__law_round_count (T:Txt P w K mg):Ok4 P w K mg base 24 "_law_round_count" 1 w__law_round_count:=all4 (b:=12) (r:=r__law_round_count) T.o__law_round_count (fun n R0=>mk4 ["_law_body_here"] T.o__law_round_count (fun _ _ _ _ _ _ _ hr nd=>(s3cons (s3if (teq hr (ixi hr (e3v 0)) e3str) (s3one (s3ret (e3op op3add (c4 (ok__law_pass_count T) hr (l1 (ixi hr (e3v 0)))) (c4 R0 hr (l1 (ixi hr (e3v 0))))))) s3nil)
  (s3cons (s3if (t3cmp (op3in (hu160 hr)) (ixi hr (e3v 0)) (e3tup (lc e3str (lc e3str (l1 e3str)))) rfl) (s3one (s3ret (e3op op3add (c4 R0 hr (l1 (ixx hr (e3v 0) (e3un un3neg e3int)))) (c4 R0 hr (l1 (ixx hr (e3v 0) (e3un un3neg e3int))))))) s3nil)
  (s3one (s3ret e3int))))) rfl) rfl rfl 12
noncomputable def w__law_deed_body:Sp3:=fn3 5 (C.b__law_deed_body w__law_body w__law_pass_count w__law_round_count w__law_leaf)
theorem ok__law_deed_body (T:Txt P w K mg):Ok4 P w K mg base 25 "_law_deed_body" 4 w__law_deed_body:=mk4 ["_law_deal_here","_law_jars","_law_room","_law_most","_law_body_here"] T.o__law_deed_body (fun _ _ _ _ _ _ _ hr nd=>(s3cons (s4 4 nd (c4 (ok__law_body T) hr (lc (e3v 0) (lc (e3v 1) (lc (e3lst (l1 (e3op o3sub (e3v 2) e3int))) (l1 e3int))))))
  (s3cons (s3if (t3cmp o3gt (e3op op3add (c4 (ok__law_pass_count T) hr (l1 (e3v 4))) (c4 (ok__law_round_count T) hr (l1 (e3v 4)))) (e3v 3) (nomark _)) (s3one (s4 4 nd (e3tup (lc e3str (lc (e3tup (lc e3str (l1 (c4 (ok__law_leaf T) hr (lc (e3v 0) (l1 (e3v 1))))))) (l1 (c4 (ok__law_leaf T) hr (lc (e3v 0) (l1 (e3v 1)))))))))) s3nil)
  (s3one (s3ret (e3v 4)))))) rfl
noncomputable def w__law_house:Sp3:=fn3 9 (C.b__law_house w__law_words w__law_draw w__law_deed_body)
theorem ok__law_house (T:Txt P w K mg):Ok4 P w K mg base 26 "_law_house" 4 w__law_house:=mk4 ["_law_deal_here","_law_most_jars","_law_most_deeds","_law_room","_law_words_here","_law_jars","_law_first","_law_many","_law_deeds"] T.o__law_house (fun _ _ _ _ _ _ _ hr nd=>(s3cons (s4 4 nd (c4 (ok__law_words T) hr (lc (e3v 0) (l1 e3int))))
  (s3cons (s4 5 nd (cT b3tuple T.z_tuple (l1 (e3slice (e3v 4) o3none (o3some (c4 (ok__law_draw T) hr (lc (e3v 0) (l1 (e3op op3add (e3v 1) e3int)))))))))
  (s3cons (s4 6 nd (ixx hr (e3lst (lc e3int (l1 e3int))) (c4 (ok__law_draw T) hr (lc (e3v 0) (l1 e3int)))))
  (s3cons (s4 7 nd (e3op op3add e3int (c4 (ok__law_draw T) hr (lc (e3v 0) (l1 (e3v 2))))))
  (s3cons (sc4 ["_law_words_here","_law_room","_law_many","_law_jars","_law_first","_law_deal_here"] 1 [0,6,5,7,3,4] ["_law_k","_law_deal_here","_law_first","_law_jars","_law_many","_law_room","_law_words_here"] 8 nd (i3range1 rfl rfl T.z_range (l1 (e3v 7))) (fun _=>(gn 0 nd_6)) (fun _=>f3nil) (fun _=>(e3tup (lc (ixx hr (e3v 6) (e3op op3add (e3v 2) (e3v 0))) (l1 (c4 (ok__law_deed_body T) hr (lc (e3v 1) (lc (e3v 3) (lc (e3v 5) (l1 (e3op o3fdiv e3int (e3v 4))))))))))))
  (s3one (s3ret (e3tup (lc (e3v 5) (l1 (cT b3tuple T.z_tuple (l1 (e3v 8)))))))))))))) rfl
noncomputable def w__law_any_house:Sp3:=fn3 4 (C.b__law_any_house w__law_draw w__law_house w__law_words w__law_body)
theorem ok__law_any_house (T:Txt P w K mg):Ok4 P w K mg base 27 "_law_any_house" 1 w__law_any_house:=mk4 ["_law_deal_here","_law_words_here","_law_jars","_law_many"] T.o__law_any_house (fun _ _ _ _ _ _ _ hr nd=>(s3cons (s3if (teq hr (c4 (ok__law_draw T) hr (lc (e3v 0) (l1 e3int))) e3int) (s3one (s3ret (c4 (ok__law_house T) hr (lc (e3v 0) (lc e3int (lc e3int (l1 e3int))))))) s3nil)
  (s3cons (s4 1 nd (c4 (ok__law_words T) hr (lc (e3v 0) (l1 e3int))))
  (s3cons (s4 2 nd (cT b3tuple T.z_tuple (l1 (e3slice (e3v 1) o3none (o3some (c4 (ok__law_draw T) hr (lc (e3v 0) (l1 e3int))))))))
  (s3cons (s4 3 nd (e3op op3add e3int (c4 (ok__law_draw T) hr (lc (e3v 0) (l1 e3int)))))
  (s3one (s3ret (e3tup (lc (e3v 2) (l1 (cT b3tuple T.z_tuple (l1 (ec4 ["_law_words_here","_law_jars","_law_deal_here"] 1 [0,2,1] ["_law_k","_law_deal_here","_law_jars","_law_words_here"] (i3range1 rfl rfl T.z_range (l1 (e3v 3))) (fun _=>(gn 0 nd_7)) (fun _=>f3nil) (fun _=>(e3tup (lc (ixx hr (e3v 3) (e3op op3add e3int (e3v 0))) (l1 (c4 (ok__law_body T) hr (lc (e3v 1) (lc (e3v 2) (lc (e3lst (l1 e3int)) (l1 e3int)))))))))))))))))))))) rfl
noncomputable def r__law_trace_to:Nat→Sp3
 | 0=>no3
 | n + 1=>fn3 9 (C.b__law_trace_to w__law_draw (r__law_trace_to n))
noncomputable def w__law_trace_to:Sp3:=r__law_trace_to 12
theorem ok__law_trace_to (T:Txt P w K mg):Ok4 P w K mg base 13 "_law_trace_to" 4 w__law_trace_to:=all4 (b:=1) (r:=r__law_trace_to) T.o__law_trace_to (fun n R0=>mk4 ["_law_deal_here","_law_body_here","_law_left","_law_wide","_law_one","_law_side","_law_found","_law_k","_law_many"] T.o__law_trace_to (fun _ _ _ _ _ _ _ hr nd=>(s3cons (s3if (teq hr (ixi hr (e3v 1)) e3str) (s3cons (s4 4 nd (c4 R0 hr (lc (e3v 0) (lc (ixi hr (e3v 1)) (lc (e3v 2) (l1 (e3v 3)))))))
  (s3one (s3ret (e3tup (lc (e3v 4) (l1 (c4 R0 hr (lc (e3v 0) (lc (ixi hr (e3v 1)) (lc (e3v 2) (l1 (e3v 3)))))))))))) s3nil)
  (s3cons (s3if (t3w (w3or (teq hr (ixi hr (e3v 1)) e3str) (w3or1 (teq hr (ixi hr (e3v 1)) e3str)))) (s3cons (s4 5 nd (c4 (ok__law_draw T) hr (lc (e3v 0) (l1 e3int))))
  (s3one (s3ret (e3tup (lc (e3v 5) (l1 (c4 R0 hr (lc (e3v 0) (lc (ixx hr (e3v 1) (e3op o3sub (e3v 5) e3int)) (lc (e3v 2) (l1 (e3v 3)))))))))))) s3nil)
  (s3cons (s4 6 nd (e3lst l3nil))
  (s3cons (s3for PassesOwn.never rfl (i3range1 rfl rfl T.z_range (l1 (e3op op3mul (c4 (ok__law_draw T) hr (lc (e3v 0) (l1 e3int))) (cT b3int T.z_int (l1 (e3cmp (op3eq (hu150 hr)) (ixi hr (e3v 1)) e3str (nomark _))))))) (gn 7 nd) (s3one (s3if (t3cmp o3gt (ixi hr (e3v 2)) e3int (nomark _)) (s3cons (s3sub (hu1 hr) (e3op o3sub (ixi hr (e3v 2)) e3int) (e3v 2) e3int)
  (s3cons (s4 8 nd (e3op op3add e3int (c4 (ok__law_draw T) hr (lc (e3v 0) (l1 (ixx hr (e3lst (lc e3int (l1 (e3v 3)))) (c4 (ok__law_draw T) hr (lc (e3v 0) (l1 e3int)))))))))
  (s3one (s3expr (bm4 kd_append m3append (e3v 6) (l1 (e3tup (lc (e3v 8) (l1 (c4 R0 hr (lc (e3v 0) (lc (ixi hr (e3v 1)) (lc (e3v 2) (l1 (e3v 3))))))))))))))) s3nil)))
  (s3one (s3ret (cT b3tuple T.z_tuple (l1 (e3v 6)))))))))) rfl) rfl rfl 12
noncomputable def r__law_rows:Nat→Sp3
 | 0=>no3
 | n + 1=>fn3 1 (CY.b__law_rows (r__law_rows n))
noncomputable def w__law_rows:Sp3:=r__law_rows 12
theorem ok__law_rows (T:Txt P w K mg):Ok4 P w K mg base 12 "_law_rows" 1 w__law_rows:=all4 (b:=0) (r:=r__law_rows) T.o__law_rows (fun n R0=>mk4 ["_law_body_here"] T.o__law_rows (fun _ _ _ _ _ _ _ hr nd=>(s3cons (s3if (teq hr (ixi hr (e3v 0)) e3str) (s3one (s3ret e3int)) s3nil)
  (s3cons (s3if (teq hr (ixi hr (e3v 0)) e3str) (s3one (s3ret (e3op op3add (c4 R0 hr (l1 (ixi hr (e3v 0)))) (c4 R0 hr (l1 (ixi hr (e3v 0))))))) s3nil)
  (s3cons (s3if (t3w (w3or (teq hr (ixi hr (e3v 0)) e3str) (w3or1 (teq hr (ixi hr (e3v 0)) e3str)))) (s3one (s3ret (e3op op3add (e3op op3add e3int (c4 R0 hr (l1 (ixx hr (e3v 0) (e3un un3neg e3int))))) (c4 R0 hr (l1 (ixx hr (e3v 0) (e3un un3neg e3int))))))) s3nil)
  (s3cons (s3if (teq hr (ixi hr (e3v 0)) e3str) (s3one (s3ret (e3op op3add e3int (c4 R0 hr (l1 (ixi hr (e3v 0))))))) s3nil)
  (s3one (s3ret e3int))))))) rfl) rfl rfl 12
noncomputable def w__law_come:Sp3:=fn3 2 CY.b__law_come
theorem ok__law_come (T:Txt P w K mg):Ok4 P w K mg base 1 "_law_come" 2 w__law_come:=mk4 ["_law_world","_law_row"] T.o__law_come (fun _ _ _ _ _ _ _ hr nd=>(s3cons (s3sub (hu1 hr) (e3cmp o3gt (cB b3len T.z_len (l1 (ixx hr (e3v 0) e3str))) (ixx hr (e3v 0) e3str) (nomark _)) (e3v 0) e3str)
  (s3cons (s3if (t3not (t3val (ixx hr (e3v 0) e3str))) (s3one (s3expr (bm4 kd_append m3append (ixx hr (e3v 0) e3str) (l1 (e3tup (lc (e3v 1) (lc (cT b3tuple T.z_tuple (l1 (ixx hr (e3v 0) e3str))) (l1 (ixx hr (e3v 0) e3str))))))))) s3nil)
  (s3one (s3ret (e3not (ixx hr (e3v 0) e3str))))))) rfl
noncomputable def rr__law_at_row:Nat→Sp3 × Sp3
 | 0=>(no3,no3)
 | n + 1=>(fn3 10 (CY.b__law_at_row w__law_plus w__law_come w__law_rows (rr__law_at_row n).1 (rr__law_at_row n).2),fn3 4 (CY.b__law_walk w__law_rows w__law_come (rr__law_at_row n).1 (rr__law_at_row n).2))
noncomputable def r__law_at_row (n:Nat):Sp3:=(rr__law_at_row n).1
noncomputable def r__law_walk (n:Nat):Sp3:=(rr__law_at_row n).2
theorem st__law_at_row (T:Txt P w K mg) (n:Nat) {s0 s1:Sp3} (R0:Ok4 P w K mg base (12 + n) "_law_at_row" 4 s0) (R1:Ok4 P w K mg base (12 + n) "_law_walk" 4 s1):Ok4 P w K mg base (12 + n + 1) "_law_at_row" 4 (fn3 10 (CY.b__law_at_row w__law_plus w__law_come w__law_rows s0 s1)):=mk4 ["_law_body_here","_law_at","_law_trace","_law_world","_law_word","_law_spot","_law_many","_law_one","_law_left","_law_spot_at"] T.o__law_at_row (fun _ _ _ _ _ _ _ hr nd=>(s3cons (s4 4 nd (ixi hr (e3v 0)))
  (s3one (s3if (teq hr (e3v 4) e3str) (s3one (s3sub (hu1 hr) (c4 (ok__law_plus T) hr (lc (ixx hr (e3v 3) e3str) (l1 (ixi hr (e3v 0))))) (e3v 3) e3str)) (s3one (s3if (teq hr (e3v 4) e3str) (s3cons (s4 5 nd (e3bmT PySem.F.plainAttrs_tuple PySem.F.slot_tuple_index PySem.F.type_tuple_index m3indexT rfl (ixx hr (e3v 3) e3str) (l1 (ixi hr (e3v 0)))))
  (s3one (s3sub (hu1 hr) (e3op op3add (ixx hr (ixx hr (e3v 3) e3str) (e3v 5)) (ixi hr (e3v 0))) (ixx hr (e3v 3) e3str) (e3v 5)))) (s3one (s3if (teq hr (e3v 4) e3str) (s3one (s3for PassesOwn.never rfl (i3any (e3v 2)) (g3t rfl (g3cons (gn 6 nd) (g3cons (gn 7 nd) g3nil))) (s3cons (s4 8 nd (e3v 6))
  (s3one (s3while PassesOwn.never (t3w (w3and (t3cmp o3gt (e3v 8) e3int (nomark _)) (w3and (t3cmp op3is (ixx hr (e3v 3) e3str) e3non (nomark _)) (w3and1 (t3not (t3val (ixx hr (e3v 3) e3str))))))) (s3cons (s4 8 nd (e3op o3sub (e3v 8) e3int))
  (s3cons (s3expr (c4 R1 hr (lc (ixi hr (e3v 0)) (lc (e3op op3add (e3v 1) e3int) (lc (e3v 7) (l1 (e3v 3)))))))
  (s3one (s3if (t3w (w3and (t3cmp op3is (ixx hr (e3v 3) e3str) e3non (nomark _)) (w3and1 (t3not (t3val (ixx hr (e3v 3) e3str)))))) (s3one (s3expr (c4 (ok__law_come T) hr (lc (e3v 3) (l1 (e3v 1)))))) s3nil))))))))) (s3cons (s3if (t3w (w3and (teq hr (e3v 4) e3str) (w3and1 (teq hr (ixi hr (e3v 2)) e3int)))) (s3cons (s4 5 nd (e3bmT PySem.F.plainAttrs_tuple PySem.F.slot_tuple_index PySem.F.type_tuple_index m3indexT rfl (ixx hr (e3v 3) e3str) (l1 (ixi hr (e3v 0)))))
  (s3cons (s3if (t3cmp o3lt (ixx hr (ixx hr (e3v 3) e3str) (e3v 5)) (ixi hr (e3v 0)) (nomark _)) (s3one (s3sub (hu1 hr) (e3v 1) (e3v 3) e3str)) s3nil)
  (s3one (s3sub (hu1 hr) (e3op o3sub (ixx hr (ixx hr (e3v 3) e3str) (e3v 5)) (ixi hr (e3v 0))) (ixx hr (e3v 3) e3str) (e3v 5))))) s3nil)
  (s3cons (s4 9 nd (e3op op3add (e3v 1) e3int))
  (s3cons (s3if (teq hr (ixi hr (e3v 2)) e3int) (s3one (s4 9 nd (e3op op3add (e3v 9) (c4 (ok__law_rows T) hr (l1 (ixx hr (e3v 0) (e3un un3neg e3int))))))) s3nil)
  (s3one (s3expr (c4 R1 hr (lc (ixx hr (e3v 0) (e3op o3sub (ixi hr (e3v 2)) e3int)) (lc (e3v 9) (lc (ixi hr (e3v 2)) (l1 (e3v 3))))))))))))))))))) rfl
theorem st__law_walk (T:Txt P w K mg) (n:Nat) {s0 s1:Sp3} (R0:Ok4 P w K mg base (12 + n) "_law_at_row" 4 s0) (R1:Ok4 P w K mg base (12 + n) "_law_walk" 4 s1):Ok4 P w K mg base (12 + n + 1) "_law_walk" 4 (fn3 4 (CY.b__law_walk w__law_rows w__law_come s0 s1)):=mk4 ["_law_body_here","_law_at","_law_trace","_law_world"] T.o__law_walk (fun _ _ _ _ _ _ _ hr nd=>(s3cons (s3if (t3w (w3or (t3cmp op3isnot (ixx hr (e3v 3) e3str) e3non (nomark _)) (w3or (t3val (ixx hr (e3v 3) e3str)) (w3or1 (teq hr (ixi hr (e3v 0)) e3str))))) (s3one s3retN) s3nil)
  (s3one (s3if (teq hr (ixi hr (e3v 0)) e3str) (s3cons (s3expr (c4 R1 hr (lc (ixi hr (e3v 0)) (lc (e3v 1) (lc (ixi hr (e3v 2)) (l1 (e3v 3)))))))
  (s3one (s3expr (c4 R1 hr (lc (ixi hr (e3v 0)) (lc (e3op op3add (e3v 1) (c4 (ok__law_rows T) hr (l1 (ixi hr (e3v 0))))) (lc (ixi hr (e3v 2)) (l1 (e3v 3))))))))) (s3one (s3if (t3val (c4 (ok__law_come T) hr (lc (e3v 3) (l1 (e3v 1))))) (s3one (s3expr (c4 R0 hr (lc (e3v 0) (lc (e3v 1) (lc (e3v 2) (l1 (e3v 3)))))))) s3nil)))))) rfl
theorem all__law_at_row (T:Txt P w K mg):∀ n:Nat,Ok4 P w K mg base (12 + n) "_law_at_row" 4 (r__law_at_row n)∧Ok4 P w K mg base (12 + n) "_law_walk" 4 (r__law_walk n)
 | 0=>⟨.zero T.o__law_at_row,.zero T.o__law_walk⟩
 | n + 1=>let ⟨h0,h1⟩:=all__law_at_row T n; ⟨st__law_at_row T n h0 h1,st__law_walk T n h0 h1⟩
noncomputable def w__law_walk:Sp3:=r__law_walk 12
theorem ok__law_walk (T:Txt P w K mg):Ok4 P w K mg base 24 "_law_walk" 4 w__law_walk:=(all__law_at_row T 12).2
noncomputable def w__law_walked:Sp3:=fn3 7 (CY.b__law_walked w__law_walk w__law_come w__law_rows)
theorem ok__law_walked (T:Txt P w K mg):Ok4 P w K mg base 25 "_law_walked" 5 w__law_walked:=mk4 ["_law_house_here","_law_jars","_law_d","_law_trace","_law_limit","_law_world","_law_body_here"] T.o__law_walked (fun _ _ _ _ _ _ _ hr nd=>(s3cons (s4 5 nd (e3disp (pp3cons e3str (ixi hr (e3v 0)) (pp3cons e3str (cT (b3list rfl) T.z_list (l1 (e3v 1))) (pp3cons e3str (e3tup (lc e3int (l1 e3int))) (pp3cons e3str (e3lst l3nil) (pp3cons e3str (e3v 4) pp3nil)))))))
  (s3cons (s3sub (hu1 hr) e3non (e3v 5) e3str)
  (s3cons (s3sub (hu1 hr) e3bl (e3v 5) e3str)
  (s3cons (s4 6 nd (ixi hr (ixx hr (ixi hr (e3v 0)) (e3v 2))))
  (s3cons (s3expr (c4 (ok__law_walk T) hr (lc (e3v 6) (lc e3int (lc (e3v 3) (l1 (e3v 5)))))))
  (s3cons (s3if (t3w (w3and (t3cmp op3is (ixx hr (e3v 5) e3str) e3non (nomark _)) (w3and1 (t3not (t3val (ixx hr (e3v 5) e3str)))))) (s3one (s3expr (c4 (ok__law_come T) hr (lc (e3v 5) (l1 (c4 (ok__law_rows T) hr (l1 (e3v 6)))))))) s3nil)
  (s3one (s3ret (e3v 5)))))))))) rfl
noncomputable def b__law_due:TS3:=(cons3 (if3 (tst (op3 gt3 (callB3 len3 [(op3 idx3 (v3 0) (c3 (.str "rows")))]) (v3 1))) (ret3 (tup3 [(c3 (.str "long")),(v3 1)])) nil3)
  (cons3 (if3 (tst (op3 (is3 true) (op3 idx3 (v3 0) (c3 (.str "stuck"))) (c3 .non))) (ret3 (tup3 [(c3 (.str "stuck")),(op3 idx3 (v3 0) (c3 (.str "stuck")))])) nil3)
  (ret3 (tup3 [(c3 (.str "told")),(op3 idx3 (v3 0) (c3 (.str "rows")))]))))
noncomputable def w__law_due:Sp3:=fn3 2 b__law_due
theorem ok__law_due (T:Txt P w K mg):Ok4 P w K mg base 1 "_law_due" 2 w__law_due:=mk4 ["_law_world","_law_most"] T.o__law_due (fun _ _ _ _ _ _ _ hr nd=>(s3cons (s3if (t3cmp o3gt (cB b3len T.z_len (l1 (ixx hr (e3v 0) e3str))) (e3v 1) (nomark _)) (s3one (s3ret (e3tup (lc e3str (l1 (e3v 1)))))) s3nil)
  (s3cons (s3if (t3cmp op3isnot (ixx hr (e3v 0) e3str) e3non (nomark _)) (s3one (s3ret (e3tup (lc e3str (l1 (ixx hr (e3v 0) e3str)))))) s3nil)
  (s3one (s3ret (e3tup (lc e3str (l1 (ixx hr (e3v 0) e3str))))))))) rfl
noncomputable def b__law_told (x_done:Sp3):TS3:=(cons3 (set3 5 (c3 .non))
  (cons3 (try3 ["TooLong","Stuck"] 6 (ret3 (tup3 [(c3 (.str "told")),(callX3 x_done [(v3 0),(v3 1),(v3 2),(v3 3),(v3 4)])])) (set3 5 (v3 6)))
  (cons3 (if3 (or3 (tst (callB3 (isiX3 xtab) [(v3 5),(tup3 [(c3 (.cls "BadText")),(c3 (.cls "NoHouse")),(c3 (.cls "NoRow")),(c3 (.cls "NoStory")),(c3 (.cls "TooMany"))])])) (not3 (tst (callB3 (isiX3 xtab) [(v3 5),(c3 (.ty "ValueError"))])))) (ret3 (tup3 [(c3 (.str "other")),(c3 (.int 0))])) nil3)
  (cons3 (if3 (and3 (tst (callB3 (isiX3 xtab) [(v3 5),(c3 (.cls "Stuck"))])) (not3 (tst (callB3 (isiX3 xtab) [(v3 5),(c3 (.cls "TooLong"))])))) (ret3 (tup3 [(c3 (.str "stuck")),(xfld3 xat "row" (v3 5))])) nil3)
  (cons3 (if3 (and3 (tst (callB3 (isiX3 xtab) [(v3 5),(c3 (.cls "TooLong"))])) (not3 (tst (callB3 (isiX3 xtab) [(v3 5),(c3 (.cls "Stuck"))])))) (ret3 (tup3 [(c3 (.str "long")),(xfld3 xat "most" (v3 5))])) nil3)
  (ret3 (tup3 [(c3 (.str "other")),(c3 (.int 0))])))))))
noncomputable def w__law_told:Sp3:=fn3 7 (b__law_told w_done)
theorem ok__law_told (T:Txt P w K mg):Ok4 P w K mg base 28 "_law_told" 5 w__law_told:=mk4 ["_law_house_here","_law_jars","_law_d","_law_trace","_law_most","_law_caught","e"] T.o__law_told (fun _ _ _ _ _ _ _ hr nd=>(s3cons (s4 5 nd e3non)
  (s3cons (tr4 6 T.t_DueError nd (fun E pins hp=>(s3one (s3ret (e3tup (lc e3str (l1 (cX (ok_done T) hr (lc (e3v 0) (lc (e3v 1) (lc (e3v 2) (lc (e3v 3) (l1 (e3v 4))))))))))))) (fun a=>(s3one (s4 5 nd (e3v 6)))))
  (s3cons (s3if (t3w (w3or (t3val (cB (b3isiX T.x_tab) T.z_isinstance (lc (e3v 5) (l1 (e3tup (lc (cl4 T.n_BadText) (lc (cl4 T.n_NoHouse) (lc (cl4 T.n_NoRow) (lc (cl4 T.n_NoStory) (l1 (cl4 T.n_TooMany))))))))))) (w3or1 (t3not (t3val (cB (b3isiX T.x_tab) T.z_isinstance (lc (e3v 5) (l1 (ty4 T.z_ValueError))))))))) (s3one (s3ret (e3tup (lc e3str (l1 e3int))))) s3nil)
  (s3cons (s3if (t3w (w3and (t3val (cB (b3isiX T.x_tab) T.z_isinstance (lc (e3v 5) (l1 (cl4 T.n_Stuck))))) (w3and1 (t3not (t3val (cB (b3isiX T.x_tab) T.z_isinstance (lc (e3v 5) (l1 (cl4 T.n_TooLong))))))))) (s3one (s3ret (e3tup (lc e3str (l1 (e3xfld T.x_at (e3v 5) rfl)))))) s3nil)
  (s3cons (s3if (t3w (w3and (t3val (cB (b3isiX T.x_tab) T.z_isinstance (lc (e3v 5) (l1 (cl4 T.n_TooLong))))) (w3and1 (t3not (t3val (cB (b3isiX T.x_tab) T.z_isinstance (lc (e3v 5) (l1 (cl4 T.n_Stuck))))))))) (s3one (s3ret (e3tup (lc e3str (l1 (e3xfld T.x_at (e3v 5) rfl)))))) s3nil)
  (s3one (s3ret (e3tup (lc e3str (l1 e3int))))))))))) rfl
noncomputable def b__law_at_bound (x__law_cost x__law_draw x__law_walked x__law_told x__law_due:Sp3):TS3:=(cons3 (set3 1 (call3 x__law_cost [(v3 0)]))
  (cons3 (set3 2 (tup3 [(tup3 []),(tup3 [(tup3 [(c3 (.str "a")),(tup3 [(c3 (.str "often")),(tup3 [(c3 (.str "pay")),(v3 1)])])])])]))
  (cons3 (set3 3 (op3 add3 (c3 (.int 1)) (call3 x__law_draw [(v3 0),(c3 (.int 900))])))
  (cons3 (set3 4 (call3 x__law_draw [(v3 0),(c3 (.int 2))]))
  (cons3 (set3 5 (tup3 [(tup3 [(v3 3),(tup3 [])]),(tup3 [(op3 sub3' (op3 add3 (c3 (.int 999)) (v3 4)) (v3 3)),(tup3 [])])]))
  (cons3 (set3 6 (call3 x__law_walked [(v3 2),(tup3 []),(c3 (.int 0)),(v3 5),(c3 (.int 2000))]))
  (cons3 (for3 (iter3 (tup3 [(c3 (.int 2000)),(c3 (.int 1999))])) (.n 7) (if3 (tst (op3 (eq3 true) (callB3 repr3 [(call3 x__law_told [(v3 2),(tup3 []),(c3 (.int 0)),(v3 5),(v3 7)])]) (callB3 repr3 [(call3 x__law_due [(v3 6),(v3 7)])]))) (ret3 (c3 (.bl false))) nil3))
  (ret3 (c3 (.bl true))))))))))
noncomputable def w__law_at_bound:Sp3:=fn3 8 (b__law_at_bound w__law_cost w__law_draw w__law_walked w__law_told w__law_due)
theorem ok__law_at_bound (T:Txt P w K mg):Ok4 P w K mg base 29 "_law_at_bound" 1 w__law_at_bound:=mk4 ["_law_deal_here","_law_cost_here","_law_house_here","_law_first","_law_more","_law_trace","_law_world","_law_most"] T.o__law_at_bound (fun _ _ _ _ _ _ _ hr nd=>(s3cons (s4 1 nd (c4 (ok__law_cost T) hr (l1 (e3v 0))))
  (s3cons (s4 2 nd (e3tup (lc (e3tup l3nil) (l1 (e3tup (l1 (e3tup (lc e3str (l1 (e3tup (lc e3str (l1 (e3tup (lc e3str (l1 (e3v 1))))))))))))))))
  (s3cons (s4 3 nd (e3op op3add e3int (c4 (ok__law_draw T) hr (lc (e3v 0) (l1 e3int)))))
  (s3cons (s4 4 nd (c4 (ok__law_draw T) hr (lc (e3v 0) (l1 e3int))))
  (s3cons (s4 5 nd (e3tup (lc (e3tup (lc (e3v 3) (l1 (e3tup l3nil)))) (l1 (e3tup (lc (e3op o3sub (e3op op3add e3int (e3v 4)) (e3v 3)) (l1 (e3tup l3nil))))))))
  (s3cons (s4 6 nd (c4 (ok__law_walked T) hr (lc (e3v 2) (lc (e3tup l3nil) (lc e3int (lc (e3v 5) (l1 e3int)))))))
  (s3cons (s3for PassesOwn.never rfl (i3any (e3tup (lc e3int (l1 e3int)))) (gn 7 nd) (s3one (s3if (tne hr (cB (b3repr (hu150 hr) hr.gd) T.z_repr (l1 (c4 (ok__law_told T) hr (lc (e3v 2) (lc (e3tup l3nil) (lc e3int (lc (e3v 5) (l1 (e3v 7))))))))) (cB (b3repr (hu150 hr) hr.gd) T.z_repr (l1 (c4 (ok__law_due T) hr (lc (e3v 6) (l1 (e3v 7))))))) (s3one (s3ret e3bl)) s3nil)))
  (s3one (s3ret e3bl)))))))))) rfl
noncomputable def b_law (x__law_deal x__law_draw x__law_at_bound x__law_any_house x__law_trace_to x__law_walked x__law_told x__law_due:Sp3):TS3:=(cons3 (set3 1 (call3 x__law_deal [(v3 0),(c3 (.int 0))]))
  (cons3 (if3 (and3 (tst (op3 (eq3 false) (call3 x__law_draw [(v3 1),(c3 (.int 8))]) (c3 (.int 0)))) (not3 (tst (call3 x__law_at_bound [(v3 1)])))) (ret3 (c3 (.bl false))) nil3)
  (cons3 (for3 (rng1 (c3 (.int 3))) (.n 2) (cons3 (set3 3 (call3 x__law_any_house [(v3 1)]))
  (cons3 (set3 4 (call3 x__law_draw [(v3 1),(callB3 len3 [(op3 idx3 (v3 3) (c3 (.int 1)))])]))
  (cons3 (asg3 (op3 idx3 (lst3 [(tup3 [(c3 (.int 3)),(c3 (.int 400))]),(tup3 [(c3 (.int 3)),(c3 (.int 400))]),(tup3 [(op3 pow3 (c3 (.int 10)) (c3 (.int 6))),(c3 (.int 200))])]) (call3 x__law_draw [(v3 1),(c3 (.int 3))])) (.tp (.cons (.n 5) (.cons (.n 6) .nil))))
  (cons3 (set3 7 (call3 x__law_trace_to [(v3 1),(op3 idx3 (op3 idx3 (op3 idx3 (v3 3) (c3 (.int 1))) (v3 4)) (c3 (.int 1))),(lst3 [(c3 (.int 4))]),(v3 5)]))
  (cons3 (set3 8 (callB3 ttuple3 [(comp3 (iter3 (op3 idx3 (v3 3) (c3 (.int 0)))) (.n 0) yes3 (op3 idx3 (lst3 [(c3 (.int 0)),(call3 x__law_draw [(v3 1),(c3 (.int 10))]),(call3 x__law_draw [(v3 1),(c3 (.int 60))])]) (call3 x__law_draw [(v3 1),(c3 (.int 3))])) 1 [1])]))
  (cons3 (set3 9 (call3 x__law_walked [(v3 3),(v3 8),(v3 4),(v3 7),(v3 6)]))
  (cons3 (set3 10 (callB3 len3 [(op3 idx3 (v3 9) (c3 (.str "rows")))]))
  (cons3 (set3 11 (lst3 [(v3 10),(op3 sub3' (v3 10) (c3 (.int 1))),(op3 add3 (v3 10) (c3 (.int 1))),(op3 add3 (c3 (.int 1)) (call3 x__law_draw [(v3 1),(v3 6)])),(op3 add3 (c3 (.int 1)) (call3 x__law_draw [(v3 1),(v3 10)])),(c3 (.int 1)),(v3 10)]))
  (for3 (iter3 (v3 11)) (.n 12) (if3 (tst (chain3 lt3 le3 (c3 (.int 0)) (v3 12) (v3 6))) (cons3 (set3 13 (call3 x__law_told [(v3 3),(v3 8),(v3 4),(v3 7),(v3 12)]))
  (if3 (tst (op3 (eq3 true) (callB3 repr3 [(v3 13)]) (callB3 repr3 [(call3 x__law_due [(v3 9),(v3 12)])]))) (ret3 (c3 (.bl false))) nil3)) nil3)))))))))))
  (ret3 (c3 (.bl true))))))
noncomputable def w_law:Sp3:=fn3 14 (b_law w__law_deal w__law_draw w__law_at_bound w__law_any_house w__law_trace_to w__law_walked w__law_told w__law_due)
theorem ok_law (T:Txt P w K mg) {f:Addr} {fd:FuncData} (O:Own K mg "law" (top 55) ["_law_script"] f fd):Fn3 P w K mg base 30 f fd ["_law_script"] w_law:=mkL ["_law_script","_law_deal_here","_law_turn","_law_house_here","_law_d","_law_wide","_law_limit","_law_trace","_law_jars","_law_world","_law_many","_law_some","_law_most","_law_found"] O (fun _ _ _ _ _ _ _ hr nd=>(s3cons (s4 1 nd (c4 (ok__law_deal T) hr (lc (e3v 0) (l1 e3int))))
  (s3cons (s3if (t3w (w3and (teq hr (c4 (ok__law_draw T) hr (lc (e3v 1) (l1 e3int))) e3int) (w3and1 (t3not (t3val (c4 (ok__law_at_bound T) hr (l1 (e3v 1)))))))) (s3one (s3ret e3bl)) s3nil)
  (s3cons (s3for PassesOwn.never rfl (i3range1 rfl rfl T.z_range (l1 e3int)) (gn 2 nd) (s3cons (s4 3 nd (c4 (ok__law_any_house T) hr (l1 (e3v 1))))
  (s3cons (s4 4 nd (c4 (ok__law_draw T) hr (lc (e3v 1) (l1 (cB b3len T.z_len (l1 (ixi hr (e3v 3))))))))
  (s3cons (s3asg (ixx hr (e3lst (lc (e3tup (lc e3int (l1 e3int))) (lc (e3tup (lc e3int (l1 e3int))) (l1 (e3tup (lc (e3op o3pow e3int e3int) (l1 e3int))))))) (c4 (ok__law_draw T) hr (lc (e3v 1) (l1 e3int)))) (g3t rfl (g3cons (gn 5 nd) (g3cons (gn 6 nd) g3nil))))
  (s3cons (s4 7 nd (c4 (ok__law_trace_to T) hr (lc (e3v 1) (lc (ixi hr (ixx hr (ixi hr (e3v 3)) (e3v 4))) (lc (e3lst (l1 e3int)) (l1 (e3v 5)))))))
  (s3cons (s4 8 nd (cT b3tuple T.z_tuple (l1 (ec4 ["_law_deal_here"] 1 [1] ["_law_name","_law_deal_here"] (i3any (ixi hr (e3v 3))) (fun _=>(gn 0 nd_8)) (fun _=>f3nil) (fun _=>(ixx hr (e3lst (lc e3int (lc (c4 (ok__law_draw T) hr (lc (e3v 1) (l1 e3int))) (l1 (c4 (ok__law_draw T) hr (lc (e3v 1) (l1 e3int))))))) (c4 (ok__law_draw T) hr (lc (e3v 1) (l1 e3int)))))))))
  (s3cons (s4 9 nd (c4 (ok__law_walked T) hr (lc (e3v 3) (lc (e3v 8) (lc (e3v 4) (lc (e3v 7) (l1 (e3v 6))))))))
  (s3cons (s4 10 nd (cB b3len T.z_len (l1 (ixx hr (e3v 9) e3str))))
  (s3cons (s4 11 nd (e3lst (lc (e3v 10) (lc (e3op o3sub (e3v 10) e3int) (lc (e3op op3add (e3v 10) e3int) (lc (e3op op3add e3int (c4 (ok__law_draw T) hr (lc (e3v 1) (l1 (e3v 6))))) (lc (e3op op3add e3int (c4 (ok__law_draw T) hr (lc (e3v 1) (l1 (e3v 10))))) (lc e3int (l1 (e3v 10))))))))))
  (s3one (s3for PassesOwn.never rfl (i3any (e3v 11)) (gn 12 nd) (s3one (s3if (t3chain o3lt o3le e3int (e3v 12) (e3v 6)) (s3cons (s4 13 nd (c4 (ok__law_told T) hr (lc (e3v 3) (lc (e3v 8) (lc (e3v 4) (lc (e3v 7) (l1 (e3v 12))))))))
  (s3one (s3if (tne hr (cB (b3repr (hu150 hr) hr.gd) T.z_repr (l1 (e3v 13))) (cB (b3repr (hu150 hr) hr.gd) T.z_repr (l1 (c4 (ok__law_due T) hr (lc (e3v 9) (l1 (e3v 12))))))) (s3one (s3ret e3bl)) s3nil))) s3nil)))))))))))))
  (s3one (s3ret e3bl)))))) rfl
end
end G19
namespace G19
open PySem L2 L3 Wd
open C CY
theorem w0_in {js:List Str} {cs:List Int} (M:Nat) (hl:cs.length = js.length) (h:∀ c ∈ cs,0 ≤ c∧c ≤ 10 ^ 9):WIn js.length M 0 (w0 cs):=⟨hl,fun c hc=>by have:=h c hc; show _∧c + 0 ≤ 10 ^ 9 + 9 * (((w0 cs).rows.length:Nat):Int); have e:(w0 cs).rows.length = 0:=rfl; rw [e]; omega,Int.le_refl 0,by show (0:Int) + 0 * 400000 ≤ 3600000 * (0:Int); omega,Nat.zero_le _,by intro q hq; cases hq⟩
theorem rows_pos {js:List Str} {M:Nat} {t:Bd} {v:PV} {cs:List Int} (hM:1 ≤ M) (hg:t.good js []) (hr:t.rows ≤ 1000):1 ≤ (whole M js t v (w0 cs)).rows.length:=by
 have cm:∀ (r:Int) (w:Wl),w.run = true→1 ≤ (w.come M r).rows.length:=fun r w h=>by
  rw [come_yes h]; split
  ·dsimp only; omega
  ·dsimp only; rw [List.length_append,List.length_singleton]; omega
 have k:=wk_ind (M:=M) (js:=js) (R:=1000) (fun w=>w.run = false→1 ≤ w.rows.length) (fun w=>1 ≤ w.rows.length) (fun r w _ _ hw _=>⟨fun _=>cm r w hw,fun _=>cm r w hw⟩) (fun w h _=>h) (fun w n _ _ h _=>h) (fun w z m _ _ _ h _=>h) (fun w z m r _ _ _ _ _ h=>by split <;> exact fun _=>h) t 0 v (w0 cs) hg (by decide) (by omega) (fun h=>nomatch h)
 unfold whole
 cases hw:(wk M js t 0 v (w0 cs)).run with
 | false=>rw [come_no hw]; exact k hw
 | true=>exact cm _ _ hw
noncomputable def dueD (W:Wl) (m:Nat):PyData:=if m < W.rows.length then .tuple [.str "long",.int m] else match W.st with | some r=>.tuple [.str "stuck",.int r] | none=>.tuple [.str "told",.list (W.rows.map rdt)]
noncomputable def dueV (W:Wl) (m:Nat) (p:Addr):PV:=if m < W.rows.length then .tup [.str "long",.int m] else match W.st with | some r=>.tup [.str "stuck",.int r] | none=>.tup [.str "told",.ref p]
theorem Sh.due {S:Sto} {n M m:Nat} {W:Wl} {p:Addr} (hn:n ≤ 8) (hM:M ≤ 2001) (hm:m ≤ 2001) (h:WIn n M 0 W) (hs:∀ r,W.st = some r→0 ≤ r∧r ≤ 1000) (hp:S p = some (.lst (W.rows.map rpv))):Sh S (dueV W m p) (dueD W m) 2200000 6:=by
 have i1:∀ i:Int,0 ≤ i→i ≤ 2001→Sh S (.int i) (.int i) 65 5:=fun i h1 h2=>(Sh.t (by omega)).le (Nat.le_refl _) (Nat.zero_le _)
 unfold dueV dueD
 split
 ·exact (Sh.tup ((Sh.s "long" 5 (by decide +kernel) (by decide)).cons ((i1 _ (by omega) (by omega)).cons (.nil' _)))).le (by decide) (by decide)
 ·split
  ·rename_i r e
   exact (Sh.tup ((Sh.s "stuck" 5 (by decide +kernel) (by decide)).cons ((i1 _ (hs r e).1 (by have:=(hs r e).2; omega)).cons (.nil' _)))).le (by decide) (by decide)
  ·exact (Sh.tup ((Sh.s "told" 5 (by decide +kernel) (by decide)).cons ((Sh.rows hn hM h hp).cons (.nil' _)))).le (by decide) (by decide)
theorem st_ok {js:List Str} {M:Nat} {t:Bd} {v:PV} {cs:List Int} (hg:t.good js []) (hr:t.rows ≤ 1000):∀ r,(whole M js t v (w0 cs)).st = some r→0 ≤ r∧r ≤ 1000:=by
 have cm:∀ (r:Int) (w:Wl),(w.come M r).st = w.st:=fun r w=>by
  cases hw:w.run with
  | false=>rw [come_no hw]
  | true=>rw [come_yes hw]; split <;> rfl
 have k:=wk_ind (M:=M) (js:=js) (R:=1000) (fun w=>∀ r,w.st = some r→0 ≤ r∧r ≤ 1000) (fun w=>∀ r,w.st = some r→0 ≤ r∧r ≤ 1000) (fun r w _ _ _ h=>⟨by rw [cm]; exact h,fun _=>by rw [cm]; exact h⟩) (fun w h=>h) (fun w n _ _ h=>h) (fun w z m _ _ _ h=>h) (fun w z m r h0 h1 _ _ _ h=>by
  split
  ·intro r' e; cases e; exact ⟨h0,h1⟩
  ·exact h) t 0 v (w0 cs) hg (by decide) (by omega) (fun r h=>nomatch h)
 unfold whole
 rw [cm]
 exact k
noncomputable abbrev DueSpec (x:Sp3):Prop:=∀ {S:Sto} {a pj pr:Addr} {js:List Str} {lim m:Nat} {W:Wl} {Q:VK3} {E:XK3},WAt S a pj pr js lim W→Q (dueV W m pr) S→x [.ref a,.int m] S Q E
theorem sp_due:DueSpec (fn3 2 b__law_due):=by
 intro S a pj pr js lim m W Q E A k
 unfold b__law_due
 refine fnS ?_
 rw [show start3 2 [PV.ref a,PV.int m] = [some (.ref a),some (.int m)] from rfl]
 unfold dueV at k
 refine seqS fun N hN=>?_
 refine ifB (v:=decide ((m:Int) < (W.rows.length:Int))) (fun Q E q=>by simp only [tst,op3,callB3,args3,v3,lk,c3,idx3,key3,A.d,v_rows,len3,A.r,List.length_map,gt3,int3]; exact q) (fun h=>?_) (fun h=>?_)
 ·have h:=of_decide_eq_true h
  rw [if_pos (by omega)] at k
  simp only [ret3,tup3,args3,v3,lk,c3]
  exact k
 ·have h:=of_decide_eq_false h
  rw [if_neg (by omega)] at k
  refine hN _ _ (seqS fun N hN=>?_)
  cases hs:W.st with
  | some r=>
   rw [hs] at k
   refine ifB (v:=true) (fun Q E q=>by simp only [tst,op3,v3,lk,c3,idx3,key3,A.d,v_stuck,hs,stv,is3,Bool.true_bne,Bool.not_false]; exact q) (fun _=>?_) (fun h=>nomatch h)
   simp only [ret3,tup3,args3,op3,v3,lk,c3,idx3,key3,A.d,v_stuck,hs,stv]
   exact k
  | none=>
   rw [hs] at k
   refine ifB (v:=false) (fun Q E q=>by simp only [tst,op3,v3,lk,c3,idx3,key3,A.d,v_stuck,hs,stv,is3,Bool.true_bne,Bool.not_true]; exact q) (fun h=>nomatch h) (fun _=>?_)
   refine hN _ _ ?_
   simp only [ret3,tup3,args3,op3,v3,lk,c3,idx3,key3,A.d,v_rows]
   exact k
noncomputable abbrev ToldSpec (x:Sp3):Prop:=∀ {S:Sto} {js:List Str} {ds:List (Str × Bd)} {cs:List Int} {i M:Nat} {z:Str} {t:Bd} {v:PV} {Q:VK3} {E:XK3},ds[i]? = some (z,t)→WIn js.length M 0 (w0 cs)→M ≤ 2001→js.Nodup→js.length ≤ 1000→t.dep ≤ 6→t.size ≤ 900→t.good js []→isTr t v = true→intB (2 ^ 60) v = true→
 ((whole M js t v (w0 cs)).run = true→∀ p S',S p = none→S' p = some (.lst ((whole M js t v (w0 cs)).rows.map rpv))→Ext S S'→Q (.tup [.str "told",.ref p]) S')→((whole M js t v (w0 cs)).ov = true→∀ S',Ext S S'→Q (.tup [.str "long",.int M]) S')→(∀ r,(whole M js t v (w0 cs)).st = some r→(whole M js t v (w0 cs)).ov = false→∀ S',Ext S S'→Q (.tup [.str "stuck",.int r]) S')→x [hpv js ds,.tup (cs.map PV.int),.int i,v,.int M] S Q E
theorem sp_told {xd:Sp3} (sp_done:DoneSpec xd):ToldSpec (fn3 7 (b__law_told xd)):=by
 intro S js ds cs i M z t v Q E hi win hM hn hj hd hsz hg htr hib k1 k2 k3
 unfold b__law_told
 refine fnS ?_
 rw [show start3 7 [hpv js ds,PV.tup (cs.map PV.int),PV.int i,v,PV.int M] = [some (hpv js ds),some (.tup (cs.map PV.int)),some (.int i),some v,some (.int M),none,none] from rfl]
 refine seqS fun N hN=>?_
 simp only [set3,c3,List.set_cons_succ,List.set_cons_zero]
 refine hN _ _ (seqS fun N hN=>?_)
 simp only [try3,ret3,tup3,args3,callX3,v3,lk,c3]
 refine sp_done hi win hM hn hj hd hsz hg htr hib (fun h p S1 hp h1 X1=>k1 h p S1 hp h1 X1) (fun h S1 X1=>⟨by decide,?_⟩) (fun r h h' S1 X1=>⟨by decide,?_⟩)
 ·simp only [set3,v3,lk,List.set_cons_succ,List.set_cons_zero]
  refine hN _ _ (seqS fun N hN=>?_)
  refine ifB (v:=false) (fun Q E q=>by simp only [or3,not3,tst,callB3,tup3,args3,v3,lk,c3,isiX3,xany,xfind,xtab,ofS_inj,String.reduceEq,and_true,and_false,true_and,if_false,if_true,List.any,beq_self_eq_true,Bool.true_or,Bool.not_true,Bool.false_eq_true]; exact q) (fun h=>nomatch h) (fun _=>?_)
  refine hN _ _ (seqS fun N hN=>?_)
  refine ifB (v:=false) (fun Q E q=>by simp only [and3,not3,tst,callB3,args3,v3,lk,c3,isiX3,xfind,xtab,ofS_inj,String.reduceEq,and_true,and_false,true_and,if_false,if_true,Bool.false_eq_true]; exact q) (fun h=>nomatch h) (fun _=>?_)
  refine hN _ _ (seqS fun N hN=>?_)
  refine ifB (v:=true) (fun Q E q=>by simp only [and3,not3,tst,callB3,args3,v3,lk,c3,isiX3,xfind,xtab,ofS_inj,String.reduceEq,and_true,and_false,true_and,and_self,if_false,if_true,Bool.not_false]; exact q) (fun _=>?_) (fun h=>nomatch h)
  simp only [ret3,tup3,args3,xfld3,v3,lk,c3]
  refine ⟨by decide,?_⟩
  rw [show List.lookup (Str.ofString "most") ([Str.ofString "most"].zip [PV.int M]) = some (PV.int M) from rfl]
  exact k2 h S1 X1
 ·simp only [set3,v3,lk,List.set_cons_succ,List.set_cons_zero]
  refine hN _ _ (seqS fun N hN=>?_)
  refine ifB (v:=false) (fun Q E q=>by simp only [or3,not3,tst,callB3,tup3,args3,v3,lk,c3,isiX3,xany,xfind,xtab,ofS_inj,String.reduceEq,and_true,and_false,true_and,false_and,if_false,if_true,List.any,beq_self_eq_true,Bool.true_or,Bool.or_true,Bool.not_true,Bool.false_eq_true]; exact q) (fun h=>nomatch h) (fun _=>?_)
  refine hN _ _ (seqS fun N hN=>?_)
  refine ifB (v:=true) (fun Q E q=>by simp only [and3,not3,tst,callB3,args3,v3,lk,c3,isiX3,xfind,xtab,ofS_inj,String.reduceEq,and_true,and_false,true_and,false_and,and_self,if_false,if_true,Bool.not_false]; exact q) (fun _=>?_) (fun h=>nomatch h)
  simp only [ret3,tup3,args3,xfld3,v3,lk,c3]
  refine ⟨by decide,?_⟩
  rw [show List.lookup (Str.ofString "row") ([Str.ofString "row"].zip [PV.int r]) = some (PV.int r) from rfl]
  exact k3 r h h' S1 X1
theorem dueV_tup (W:Wl) (m:Nat) (p:Addr):∃ us,dueV W m p = .tup us:=by
 unfold dueV
 split
 ·exact ⟨_,rfl⟩
 ·split <;> exact ⟨_,rfl⟩
structure Asked (js:List Str) (ds:List (Str × Bd)) (cs:List Int) (i:Nat) (t:Bd) (v:PV):Prop where
 at_:∃ z,ds[i]? = some (z,t)
 jn:js.Nodup
 j8:js.length ≤ 8
 dp:t.dep ≤ 6
 sz:t.size ≤ 60
 gd:t.good js []
 tr:isTr t v = true
 ib:intB (2 ^ 60) v = true
 cl:cs.length = js.length
 cs0:∀ c ∈ cs,0 ≤ c∧c ≤ 10 ^ 9
theorem Asked.rw {js:List Str} {ds:List (Str × Bd)} {cs:List Int} {i:Nat} {t:Bd} {v:PV} (h:Asked js ds cs i t v):t.rows ≤ 1000:=by have:=t.rows_size; have:=h.sz; omega
theorem told_due {xt:Sp3} (sp_told:ToldSpec xt) {S:Sto} {js:List Str} {ds:List (Str × Bd)} {cs:List Int} {i m lim:Nat} {t:Bd} {v:PV} {Q:VK3} {E:XK3} (h:Asked js ds cs i t v) (hl:lim ≤ 2000) (hm:m ≤ lim)
  (k:∀ u S',Ext S S'→(∃ us,u = .tup us)→Sh S' u (dueD (whole (lim + 1) js t v (w0 cs)) m) 2200000 6→Q u S'):xt [hpv js ds,.tup (cs.map PV.int),.int i,v,.int m] S Q E:=by
 obtain ⟨z,hz⟩:=h.at_
 have win:=WIn.whole (M:=lim + 1) (by omega) t v (w0 cs) h.gd h.rw (w0_in (lim + 1) h.cl h.cs0)
 have win2:=WIn.whole (M:=m) (by omega) t v (w0 cs) h.gd h.rw (w0_in m h.cl h.cs0)
 have sm:=(sm_whole (M:=m) (M':=lim + 1) (by omega) js t v).s (w0 cs) (Nat.zero_le _)
 have hst:=st_ok (M:=lim + 1) (v:=v) (cs:=cs) h.gd h.rw
 have ovl:=ov_len (M:=lim + 1) (js:=js) t v (w0 cs) rfl
 generalize whole (lim + 1) js t v (w0 cs) = W at win sm hst ovl k
 have due:∀ (p:Addr) (S':Sto),S' p = some (.lst (W.rows.map rpv))→Sh S' (dueV W m p) (dueD W m) 2200000 6:=fun p S' hp=>Sh.due h.j8 (by omega) (by omega) win hst hp
 refine sp_told hz (w0_in m h.cl h.cs0) (by omega) h.jn (by have:=h.j8; omega) h.dp (by have:=h.sz; omega) h.gd h.tr h.ib (fun hr p S1 _ hp X1=>?_) (fun hov S1 X1=>?_) (fun r hs hov S1 X1=>?_)
 ·by_cases hw:W.rows.length ≤ m
  ·rw [sm.1 hw] at hr hp
   have e:dueV W m p = .tup [.str "told",.ref p]:=by unfold dueV; rw [if_neg (by omega),(run_iff.mp hr).1]
   have:=due p S1 hp
   rw [e] at this
   exact k _ S1 X1 ⟨_,rfl⟩ this
  ·have:=sm.2 (by omega); rw [(run_iff.mp hr).2] at this; cases this
 ·by_cases hw:W.rows.length ≤ m
  ·rw [sm.1 hw] at hov; have:=ovl hov; omega
  ·refine k _ S1 X1 ⟨_,rfl⟩ ?_
   have e:dueD W m = .tuple [.str "long",.int m]:=by unfold dueD; rw [if_pos (by omega)]
   rw [e]
   exact (Sh.tup ((Sh.s "long" 5 (by decide +kernel) (by decide)).cons (((Sh.t (by omega)).le (Nat.le_refl _) (Nat.zero_le _)).cons (.nil' _)))).le (by decide) (by decide)
 ·by_cases hw:W.rows.length ≤ m
  ·rw [sm.1 hw] at hs
   refine k _ S1 X1 ⟨_,rfl⟩ ?_
   have e:dueD W m = .tuple [.str "stuck",.int r]:=by unfold dueD; rw [if_neg (by omega),hs]
   rw [e]
   have:=hst r hs
   exact (Sh.tup ((Sh.s "stuck" 5 (by decide +kernel) (by decide)).cons (((Sh.t (by omega)).le (Nat.le_refl _) (Nat.zero_le _)).cons (.nil' _)))).le (by decide) (by decide)
  ·have:=sm.2 (by omega); rw [hov] at this; cases this
theorem due_sh {S:Sto} {a pj pr:Addr} {js:List Str} {ds:List (Str × Bd)} {cs:List Int} {i m lim:Nat} {t:Bd} {v:PV} (h:Asked js ds cs i t v) (hl:lim ≤ 2000) (hm:m ≤ lim) (A:WAt S a pj pr js lim (whole (lim + 1) js t v (w0 cs))):Sh S (dueV (whole (lim + 1) js t v (w0 cs)) m pr) (dueD (whole (lim + 1) js t v (w0 cs)) m) 2200000 6:=
 Sh.due h.j8 (by omega) (by omega) (WIn.whole (M:=lim + 1) (by omega) t v (w0 cs) h.gd h.rw (w0_in (lim + 1) h.cl h.cs0)) (st_ok h.gd h.rw) A.r
theorem repr_t {S:Sto} {v:PV} {d:PyData} {Q:VK3} (h:Sh S v d 2200000 6) (ht:∃ us,v = .tup us) (q:Q (.str d.shown) S):repr3 [v] S Q:=by
 obtain ⟨us,rfl⟩:=ht
 exact repr_tup h (by decide) (by decide) q
theorem WAt.x {S S':Sto} {a pj pr:Addr} {js:List Str} {lim:Nat} {w:Wl} (A:WAt S a pj pr js lim w) (x:Ext S S'):WAt S' a pj pr js lim w:=⟨x _ _ A.d,x _ _ A.j,x _ _ A.r,A.ne⟩
noncomputable abbrev BoundSpec (x:Sp3):Prop:=∀ {S:Sto} {d l:Addr} {Q:VK3} {E:XK3},Deal S d l→(∀ S',Deal S' d l→Oth d l S S'→Q (.bl true) S')→x [.ref d] S Q E
theorem sp_bound {xc xd xw xt xu:Sp3} (sp_cost:CostSpec xc) (sp_draw:DrawSpec xd) (sp_walked:LWalkedSpec xw) (sp_told:ToldSpec xt) (sp_due:DueSpec xu):BoundSpec (fn3 8 (b__law_at_bound xc xd xw xt xu)):=by
 intro S d l Q E D k
 unfold b__law_at_bound
 refine fnS ?_
 rw [show start3 8 [PV.ref d] = [some (.ref d),none,none,none,none,none,none,none] from rfl]
 refine seqS fun N hN=>?_
 simp only [set3,call3,args3,v3,lk]
 refine sp_cost D fun x y S1 hc D1 O1=>?_
 simp only [List.set_cons_succ,List.set_cons_zero]
 refine hN _ _ (seqS fun N hN=>?_)
 simp only [set3,tup3,args3,v3,lk,c3,List.set_cons_succ,List.set_cons_zero]
 rw [show PV.tup [.tup [],.tup [.tup [.str "a",.tup [.str "often",.tup [.str "pay",.tup [.int x,.int y]]]]]] = hpv [] [("a",.oft (.pay x y))] from rfl]
 refine hN _ _ (seqS fun N hN=>?_)
 simp only [set3,op3,call3,args3,v3,lk,c3]
 refine sp_draw D1 (by decide) (by decide) fun f S2 f0 f1 D2 O2=>?_
 simp only [add3,List.set_cons_succ,List.set_cons_zero]
 refine hN _ _ (seqS fun N hN=>?_)
 simp only [set3,call3,args3,v3,lk,c3]
 refine sp_draw D2 (by decide) (by decide) fun g S3 g0 g1 D3 O3=>?_
 simp only [List.set_cons_succ,List.set_cons_zero]
 refine hN _ _ (seqS fun N hN=>?_)
 simp only [set3,tup3,args3,op3,v3,lk,c3,add3,sub3',int3,List.set_cons_succ,List.set_cons_zero]
 have hA:Asked [] [("a",.oft (.pay x y))] [] 0 (.oft (.pay x y)) (.tup [.tup [.int (1 + f),.tup []],.tup [.int (999 + g - (1 + f)),.tup []]]):=by
  refine ⟨⟨"a",rfl⟩,.nil,by decide,show 2 ≤ 6 by decide,show 2 ≤ 60 by decide,hc,?_,?_,rfl,by simp⟩
  ·rw [isTr_oft]
   show (decide (1 ≤ 1 + f) && isTr (.pay x y) (.tup []) && (decide (1 ≤ 999 + g - (1 + f)) && isTr (.pay x y) (.tup []) && true)) = true
   rw [show isTr (.pay x y) (.tup []) = true from rfl,decide_eq_true (show 1 ≤ 1 + f by omega),decide_eq_true (show 1 ≤ 999 + g - (1 + f) by omega)]
   rfl
  ·exact intB_two (intB_two (intB_int (by omega)) rfl) (intB_two (intB_int (by omega)) rfl)
 generalize PV.tup [.tup [.int (1 + f),.tup []],.tup [.int (999 + g - (1 + f)),.tup []]] = tr at hA
 refine hN _ _ (seqS fun N hN=>?_)
 simp only [set3,call3,tup3,args3,v3,lk,c3]
 obtain ⟨z,hz⟩:=hA.at_
 refine sp_walked (cs:=[]) (i:=0) (lim:=2000) hz (w0_in 2001 hA.cl hA.cs0) (by decide) hA.dp hA.gd hA.tr hA.rw fun a pj pr S4 _ _ _ A4 X4=>?_
 simp only [List.set_cons_succ,List.set_cons_zero]
 refine hN _ _ (seqS fun N hN=>?_)
 have D4:=D3.ext X4
 have O4:Oth d l S S4:=((O1.trans O2).trans O3).trans X4.oth
 simp only [for3,iter3,tup3,args3,c3,srcOf]
 refine forL_by (fun done σ S'=>∃ (x7:Option PV),σ = [some (.ref d),some (.tup [.int x,.int y]),some (hpv [] [("a",.oft (.pay x y))]),some (.int (1 + f)),some (.int g),some tr,some (.ref a),x7]∧Ext S4 S') ⟨_,rfl,.refl⟩ (fun _ _ _ _=>trivial) ?_ ?_
 ·rintro done u rest σ S5 K e ⟨x7,rfl,X5⟩ hK
  obtain ⟨m,rfl,hm⟩:∃ m:Nat,u = .int m∧m ≤ 2000:=by
   have e':[PV.int 2000,.int 1999] = done ++ u :: rest:=e
   have hu:u ∈ [PV.int 2000,.int 1999]:=by rw [e']; simp
   simp only [List.mem_cons,List.not_mem_nil,or_false] at hu
   rcases hu with rfl | rfl
   ·exact ⟨2000,rfl,by decide⟩
   ·exact ⟨1999,rfl,by decide⟩
  have A5:=WAt.x A4 X5
  simp only [Tg.put,List.set_cons_succ,List.set_cons_zero]
  simp only [if3,tst,op3,callB3,call3,tup3,args3,v3,lk,c3]
  refine told_due (cs:=[]) (i:=0) sp_told hA (lim:=2000) (by decide) hm fun u S6 X6 hu hs=>?_
  refine repr_t hs hu ?_
  have A6:=WAt.x A5 X6
  refine sp_due A6 ?_
  refine repr_t (due_sh hA (by decide) hm A6) (dueV_tup _ _ _) ?_
  simp only [eq3,decide_true,Bool.true_bne,Bool.not_true,Bool.false_eq_true,if_false,nil3]
  exact hK _ _ ⟨_,rfl,X5.trans X6⟩
 ·rintro σ S5 ⟨x7,rfl,X5⟩
  refine hN _ _ ?_
  simp only [ret3,c3]
  exact k S5 (D4.ext X5) (O4.trans X5.oth)
noncomputable abbrev LawSpec (w:Sp3):Prop:=∀ {ns:List Int} {S:Sto} {Q:VK3} {E:XK3},ns.length ≤ 63→(∀ S',Q (.bl true) S')→w [.cl (ns.map PV.int)] S Q E
theorem sp_law {x0 x1 x2 x3 x4 x5 x6 x7:Sp3} (sp_deal:DealSpec x0) (sp_draw:DrawSpec x1) (sp_bound:BoundSpec x2) (sp_any:AnySpec x3) (sp_tr:TrToSpec 6 x4) (sp_walked:LWalkedSpec x5) (sp_told:ToldSpec x6) (sp_due:DueSpec x7):LawSpec (fn3 14 (b_law x0 x1 x2 x3 x4 x5 x6 x7)):=by
 intro ns S Q E hns k
 unfold b_law
 refine fnS ?_
 rw [show start3 14 [PV.cl (ns.map PV.int)] = [some (.cl (ns.map PV.int)),none,none,none,none,none,none,none,none,none,none,none,none,none] from rfl]
 refine seqS fun N hN=>?_
 simp only [set3,call3,args3,v3,lk,c3]
 refine sp_deal hns (by decide) (by decide) fun d l S1 _ _ D1 _=>?_
 simp only [List.set_cons_succ,List.set_cons_zero]
 refine hN _ _ (seqS fun N hN=>?_)
 have rest:∀ S2,Deal S2 d l→N [some (.cl (ns.map PV.int)),some (.ref d),none,none,none,none,none,none,none,none,none,none,none,none] S2:=by
  intro S2 D2
  refine hN _ _ (seqS fun N hN=>?_)
  simp only [for3,rng1,c3]
  refine ⟨by decide,by decide,?_⟩
  refine forL_by (fun done σ S'=>∃ (y2 y3 y4 y5 y6 y7 y8 y9 y10 y11 y12 y13:Option PV),σ = [some (.cl (ns.map PV.int)),some (.ref d),y2,y3,y4,y5,y6,y7,y8,y9,y10,y11,y12,y13]∧Deal S' d l) ⟨_,_,_,_,_,_,_,_,_,_,_,_,rfl,D2⟩ (fun _ _ _ _=>trivial) ?_ ?_
  ·rintro done u rest σ S3 K e ⟨y2,y3,y4,y5,y6,y7,y8,y9,y10,y11,y12,y13,rfl,D3⟩ hK
   simp only [Tg.put,List.set_cons_succ,List.set_cons_zero]
   refine seqS fun N2 hN2=>?_
   simp only [set3,call3,args3,v3,lk]
   refine sp_any D3 fun js ds S4 ho hd1 hd4 hj8 D4 O4=>?_
   simp only [List.set_cons_succ,List.set_cons_zero]
   refine hN2 _ _ (seqS fun N2 hN2=>?_)
   rw [show hpv js ds = .tup [jpv js,.tup (ds.map dpv)] from rfl]
   simp only [set3,call3,callB3,args3,op3,v3,lk,c3,idx3,at1,len3,List.length_map]
   refine sp_draw D4 (by omega) (by omega) fun i S5 i0 i1 D5 O5=>?_
   obtain ⟨ii,rfl⟩:=Int.eq_ofNat_of_zero_le i0
   have hii:ii < ds.length:=by omega
   have hds:ds[ii]? = some (ds[ii].1,ds[ii].2):=List.getElem?_eq_getElem hii
   have hm:ds[ii] ∈ ds:=List.getElem_mem hii
   have hg:=ho.gd _ hm
   have hdq:=ho.dq _ hm
   have hsz:=ho.sz _ hm
   generalize ds[ii].2 = t at hds hg hdq hsz
   generalize ds[ii].1 = z at hds
   simp only [List.set_cons_succ,List.set_cons_zero]
   refine hN2 _ _ (seqS fun N2 hN2=>?_)
   simp only [asg3,op3,lst3,tup3,call3,args3,v3,lk,c3,pow3,intc3]
   refine ⟨⟨by decide,by decide,by decide⟩,?_⟩
   rw [show ((10:Int) ^ Int.toNat 6) = 1000000 from rfl]
   intro pq hpq
   have dpq:=D5.free hpq
   refine sp_draw (D5.new hpq) (by decide) (by decide) fun q S6 q0 q1 D6 O6=>?_
   have p6:=O6 _ _ (upd3_same (S:=S5) (a:=pq)) dpq.1 dpq.2
   simp only [idx3,p6]
   obtain ⟨wl,hw2,hwm⟩:=at_draw (xs:=[PV.tup [.int 3,.int 400],.tup [.int 3,.int 400],.tup [.int 1000000,.int 200]]) q0 (by simpa using q1)
   rw [hw2]
   obtain ⟨wide,lim,rfl,w1,w2,l1,l2⟩:∃ (wide:Int) (lim:Nat),wl = .tup [.int wide,.int lim]∧1 ≤ wide∧wide ≤ 2 ^ 60∧1 ≤ lim∧lim ≤ 2000:=by
    simp only [List.mem_cons,List.not_mem_nil,or_false] at hwm
    rcases hwm with rfl | rfl | rfl
    ·exact ⟨3,400,rfl,by decide,by decide,by decide,by decide⟩
    ·exact ⟨3,400,rfl,by decide,by decide,by decide,by decide⟩
    ·exact ⟨1000000,200,rfl,by decide,by decide,by decide,by decide⟩
   simp only [Tg.put,Tg.puts,List.set_cons_succ,List.set_cons_zero]
   refine hN2 _ _ (seqS fun N2 hN2=>?_)
   simp only [set3,call3,args3,op3,v3,lk,c3,idx3,at1,lst3]
   rw [atI_nat (v:=dpv (z,t)) (by rw [List.getElem?_map,hds]; rfl)]
   unfold dpv
   simp only [at1]
   intro px hpx
   have dpx:=D6.free hpx
   refine sp_tr (D6.new hpx) upd3_same dpx.1 dpx.2 (by decide) w1 w2 hdq fun tr S7 lf h1 h2 h3 _ _ _ D7 _ O7=>?_
   simp only [List.set_cons_succ,List.set_cons_zero]
   refine hN2 _ _ (seqS fun N2 hN2=>?_)
   simp only [set3,callB3,args3,comp3,iter3,op3,v3,lk,c3,idx3,at0,jpv,srcOf]
   refine compL_by (fun done ys S'=>∃ cs:List Int,ys = cs.map PV.int∧cs.length = done.length∧done.length ≤ js.length∧(∀ c ∈ cs,0 ≤ c∧c ≤ 10 ^ 9)∧Deal S' d l) ⟨[],rfl,rfl,Nat.zero_le _,by simp,D7⟩ ?_ ?_ ?_
   ·rintro done ys S' ⟨cs,rfl,e,hd,_⟩
    exact ⟨trivial,line100 (by rw [List.length_map,e]; omega)⟩
   ·rintro done x rest ys S8 K e ⟨cs,rfl,e2,hd,hc,D8⟩ hK
    have hdl:done.length + 1 ≤ js.length:=by have:=congrArg List.length e; simp at this; omega
    simp only [blk3,List.replicate_succ,List.replicate_zero,List.map_cons,List.map_nil,List.cons_append,List.nil_append,lk,Tg.put,List.set_cons_zero,yes3,if_true]
    simp only [op3,idx3,lst3,call3,args3,v3,lk,c3]
    refine sp_draw D8 (by decide) (by decide) fun a S9 a0 a1 D9 O9=>?_
    refine sp_draw D9 (by decide) (by decide) fun b Sa b0 b1 Da Oa=>?_
    intro p hp
    have dp:=Da.free hp
    refine sp_draw (Da.new hp) (by decide) (by decide) fun w Sb w0 w1 Db Ob=>?_
    have fb:=Ob _ _ (upd3_same (S:=Sa) (a:=p)) dp.1 dp.2
    simp only [fb]
    obtain ⟨c,hc2,hcm⟩:=at_draw (xs:=[PV.int 0,.int a,.int b]) w0 (by simpa using w1)
    rw [hc2]
    obtain ⟨cc,rfl,q0,q1⟩:∃ cc,c = .int cc∧0 ≤ cc∧cc ≤ 10 ^ 9:=by
     simp only [List.mem_cons,List.not_mem_nil,or_false] at hcm
     rcases hcm with rfl | rfl | rfl
     ·exact ⟨0,rfl,by omega,by omega⟩
     ·exact ⟨a,rfl,a0,by omega⟩
     ·exact ⟨b,rfl,b0,by omega⟩
    dsimp only
    refine hK _ _ ⟨cs ++ [cc],by simp,by simp [e2],by rw [List.length_append]; exact hdl,fun y hy=>?_,Db⟩
    rcases List.mem_append.mp hy with hy | hy
    ·exact hc y hy
    ·rw [List.mem_singleton.mp hy]; exact ⟨q0,q1⟩
   ·rintro ys S8 ⟨cs,rfl,e2,hd,hc,D8⟩
    have hcl:cs.length = js.length:=by rw [e2,List.length_map]
    intro p hp
    simp only [ttuple3,seq3,upd3_same,List.set_cons_succ,List.set_cons_zero]
    have D9:Deal (upd3 S8 p (.lst (cs.map PV.int))) d l:=D8.new hp
    generalize upd3 S8 p (.lst (cs.map PV.int)) = S9 at D9
    have hA:Asked js ds cs ii t tr:=⟨⟨z,hds⟩,ho.jn,hj8,hdq,hsz,hg,h1,h3,hcl,hc⟩
    refine hN2 _ _ (seqS fun N2 hN2=>?_)
    simp only [set3,call3,args3,v3,lk]
    refine sp_walked (js:=js) (lim:=lim) hds (w0_in (lim + 1) hcl hc) l2 hdq hg h1 hA.rw fun a pj pr Sa _ _ _ Aa Xa=>?_
    have Da:=D9.ext Xa
    have rp:=rows_pos (M:=lim + 1) (v:=tr) (cs:=cs) (by omega) hg hA.rw
    have rl:=(WIn.whole (M:=lim + 1) (by omega) t tr (w0 cs) hg hA.rw (w0_in (lim + 1) hcl hc)).2.2.2.2.1
    simp only [List.set_cons_succ,List.set_cons_zero]
    refine hN2 _ _ (seqS fun N2 hN2=>?_)
    simp only [set3,callB3,args3,op3,v3,lk,c3,idx3,key3,Aa.d,v_rows,len3,Aa.r,List.length_map,List.set_cons_succ,List.set_cons_zero]
    refine hN2 _ _ (seqS fun N2 hN2=>?_)
    simp only [set3,lst3,args3,op3,call3,v3,lk,c3,sub3',int3,add3]
    have na:∀ {b o},Sa b = some o→b ≠ d→b ≠ l→True:=fun _ _ _=>trivial
    refine sp_draw Da (by omega) (by omega) fun r1 Sb _ _ Db Ob=>?_
    refine sp_draw Db (by omega) (by omega) fun r2 Sc _ _ Dc Oc=>?_
    have fr:a ≠ d∧a ≠ l∧pj ≠ d∧pj ≠ l∧pr ≠ d∧pr ≠ l:=by
     obtain ⟨g1,g2⟩:=D9.free (by assumption:S9 a = none)
     obtain ⟨g3,g4⟩:=D9.free (by assumption:S9 pj = none)
     obtain ⟨g5,g6⟩:=D9.free (by assumption:S9 pr = none)
     exact ⟨g1,g2,g3,g4,g5,g6⟩
    have O2:=Ob.trans Oc
    have Ac:WAt Sc a pj pr js lim (whole (lim + 1) js t tr (w0 cs)):=⟨O2 _ _ Aa.d fr.1 fr.2.1,O2 _ _ Aa.j fr.2.2.1 fr.2.2.2.1,O2 _ _ Aa.r fr.2.2.2.2.1 fr.2.2.2.2.2,Aa.ne⟩
    intro ps hps
    simp only [List.set_cons_succ,List.set_cons_zero]
    have Xd:Ext Sc (upd3 Sc ps (.lst [.int (whole (lim + 1) js t tr (w0 cs)).rows.length,.int ((whole (lim + 1) js t tr (w0 cs)).rows.length - 1),.int ((whole (lim + 1) js t tr (w0 cs)).rows.length + 1),.int (1 + r1),.int (1 + r2),.int 1,.int (whole (lim + 1) js t tr (w0 cs)).rows.length])):=.new hps
    have Ad:=WAt.x Ac Xd
    have Dd:=Dc.ext Xd
    have fd:(upd3 Sc ps (.lst [.int (whole (lim + 1) js t tr (w0 cs)).rows.length,.int ((whole (lim + 1) js t tr (w0 cs)).rows.length - 1),.int ((whole (lim + 1) js t tr (w0 cs)).rows.length + 1),.int (1 + r1),.int (1 + r2),.int 1,.int (whole (lim + 1) js t tr (w0 cs)).rows.length])) ps = some (.lst (([(whole (lim + 1) js t tr (w0 cs)).rows.length,(whole (lim + 1) js t tr (w0 cs)).rows.length - 1,(whole (lim + 1) js t tr (w0 cs)).rows.length + 1,1 + r1,1 + r2,1,(whole (lim + 1) js t tr (w0 cs)).rows.length]:List Int).map PV.int)):=upd3_same
    generalize upd3 Sc ps (.lst [.int (whole (lim + 1) js t tr (w0 cs)).rows.length,.int ((whole (lim + 1) js t tr (w0 cs)).rows.length - 1),.int ((whole (lim + 1) js t tr (w0 cs)).rows.length + 1),.int (1 + r1),.int (1 + r2),.int 1,.int (whole (lim + 1) js t tr (w0 cs)).rows.length]) = Sd at Ad Dd fd
    generalize ([(whole (lim + 1) js t tr (w0 cs)).rows.length,(whole (lim + 1) js t tr (w0 cs)).rows.length - 1,(whole (lim + 1) js t tr (w0 cs)).rows.length + 1,1 + r1,1 + r2,1,(whole (lim + 1) js t tr (w0 cs)).rows.length]:List Int) = ms at fd
    refine hN2 _ _ ?_
    simp only [for3,iter3,v3,lk,srcOf,fd]
    refine forL_by (fun dn σ S'=>∃ (x12 x13:Option PV),σ = [some (.cl (ns.map PV.int)),some (.ref d),some u,some (hpv js ds),some (.int ii),some (.int wide),some (.int lim),some tr,some (.tup (cs.map PV.int)),some (.ref a),some (.int (whole (lim + 1) js t tr (w0 cs)).rows.length),some (.ref ps),x12,x13]∧Ext Sd S') ⟨_,_,rfl,.refl⟩ (fun _ _ _ ⟨_,_,_,x⟩=>x _ _ fd) ?_ ?_
    ·rintro dn m rs σ Se K2 e3 ⟨x12,x13,rfl,Xe⟩ hK2
     obtain ⟨mi,rfl⟩:∃ mi,m = .int mi:=by
      have e':ms.map PV.int = dn ++ m :: rs:=e3
      have:m ∈ ms.map PV.int:=by rw [e']; simp
      obtain ⟨mi,_,rfl⟩:=List.mem_map.mp this
      exact ⟨mi,rfl⟩
     simp only [Tg.put,List.set_cons_succ,List.set_cons_zero]
     have Ae:=WAt.x Ad Xe
     simp only [if3,tst,chain3,op3,v3,lk,c3,lt3,le3,int3]
     split
     ·rename_i hp0
      have hp0:=of_decide_eq_true hp0
      split
      ·rename_i hp1
       have hp1:=of_decide_eq_true hp1
       obtain ⟨m,rfl⟩:=Int.eq_ofNat_of_zero_le (show 0 ≤ mi by omega)
       have hm:m ≤ lim:=by omega
       refine seqS fun N3 hN3=>?_
       simp only [set3,call3,args3,v3,lk]
       refine told_due sp_told hA l2 hm fun u2 Sf Xf hu hs=>?_
       have Af:=WAt.x Ae Xf
       simp only [List.set_cons_succ,List.set_cons_zero]
       refine hN3 _ _ ?_
       simp only [if3,tst,op3,callB3,call3,args3,v3,lk]
       refine repr_t hs hu ?_
       refine sp_due Af ?_
       refine repr_t (due_sh hA l2 hm Af) (dueV_tup _ _ _) ?_
       simp only [eq3,decide_true,Bool.true_bne,Bool.not_true,Bool.false_eq_true,if_false,nil3]
       exact hK2 _ _ ⟨_,_,rfl,Xe.trans Xf⟩
      ·exact hK2 _ _ ⟨_,_,rfl,Xe⟩
     ·rw [if_neg (by decide)]
      exact hK2 _ _ ⟨_,_,rfl,Xe⟩
    ·rintro σ Se ⟨x12,x13,rfl,Xe⟩
     exact hK _ _ ⟨_,_,_,_,_,_,_,_,_,_,_,_,rfl,Dd.ext Xe⟩
  ·rintro σ S3 ⟨y2,y3,y4,y5,y6,y7,y8,y9,y10,y11,y12,y13,rfl,D3⟩
   refine hN _ _ ?_
   simp only [ret3,c3]
   exact k S3
 simp only [if3,and3,not3,tst,op3,call3,args3,v3,lk,c3]
 refine sp_draw D1 (by decide) (by decide) fun r S2 r0 r1 D2 O2=>?_
 simp only [eq3,Bool.false_bne,decide_eq_true_eq]
 split
 ·refine sp_bound D2 fun S3 D3 O3=>?_
  simp only [Bool.not_true,Bool.false_eq_true,if_false,nil3]
  exact rest S3 D3
 ·simp only [Bool.false_eq_true,if_false,nil3]
  exact rest S2 D2
theorem d_draw:DrawSpec w__law_draw:=sp_draw
theorem d_low:LowSpec w__law_low:=sp_low
theorem d_words:WordsSpec w__law_words:=sp_words d_draw
theorem d_cost:CostSpec w__law_cost:=sp_cost d_draw d_low
theorem d_leaf:LeafSpec w__law_leaf:=sp_leaf d_draw d_cost
theorem r_body:∀ n,BodySpec n (r__law_body n)
 | 0=>fun _ _ _ _ _ _ _ h0 h1 _=>by omega
 | n + 1=>sp_body d_draw d_leaf n (r_body n)
theorem r_pcount:∀ n,PCountSpec n (r__law_pass_count n)
 | 0=>fun h _ _=>absurd h (by have:=Bd.dep_pos; exact Nat.not_le.mpr (this _))
 | n + 1=>sp_pcount n (r_pcount n)
theorem d_pcount:PCountSpec 12 w__law_pass_count:=r_pcount 12
theorem r_rcount:∀ n,n ≤ 12→RCountSpec n (r__law_round_count n)
 | 0,_=>fun h _ _=>absurd h (by have:=Bd.dep_pos; exact Nat.not_le.mpr (this _))
 | n + 1,hn=>sp_rcount n 12 d_pcount (r_rcount n (by omega)) (by omega)
theorem d_db:DeedBodySpec w__law_deed_body:=sp_deed_body 12 (by decide) (r_body 12) d_pcount (r_rcount 12 (by decide)) d_leaf
theorem d_house:LHouseSpec w__law_house:=sp_lhouse d_words d_draw d_db
theorem d_any:AnySpec w__law_any_house:=sp_any d_draw d_house d_words 12 (by decide) (r_body 12)
theorem r_trto:∀ n,TrToSpec n (r__law_trace_to n)
 | 0=>fun _ _ _ _ _ _ _ h _=>absurd h (by have:=Bd.dep_pos; exact Nat.not_le.mpr (this _))
 | n + 1=>sp_trto d_draw n (r_trto n)
theorem d_trto:TrToSpec 6 w__law_trace_to:=fun a b c d e f g h k=>r_trto 12 a b c d e f g (Nat.le_trans h (by decide)) k
theorem d_plus:PlusSpec w_plus:=sp_plus (sp_frac sp_common)
theorem d_lplus:PlusSpec w__law_plus:=sp_lplus d_low
theorem r_lrows:∀ n,LRowsSpec n (r__law_rows n)
 | 0=>fun h _=>absurd h (by have:=Bd.dep_pos; exact Nat.not_le.mpr (this _))
 | n + 1=>sp_lrows n (r_lrows n)
theorem d_lrows:LRowsSpec 6 w__law_rows:=fun h k=>r_lrows 12 (Nat.le_trans h (by decide)) k
theorem d_lcome:LComeSpec w__law_come:=sp_lcome
theorem r_lwalk:∀ n,n ≤ 12→LWalkSpec (n / 2) (r__law_walk n)∧LAtSpec ((n + 1) / 2) (r__law_at_row n)
 | 0,_=>⟨fun _ _ _ h=>absurd h (by have:=Bd.dep_pos; exact Nat.not_le.mpr (this _)),fun _ _ _ _ h=>absurd h (by have:=Bd.dep_pos; exact Nat.not_le.mpr (this _))⟩
 | n + 1,hn=>by
  obtain ⟨a,b⟩:=r_lwalk n (by omega)
  refine ⟨?_,?_⟩
  ·exact fun {S a_ pj pr js lim t r v w Q E} h1 h2 h3 h4 h5 h6 h7 h8 h9=>sp_lwalk d_lrows d_lcome ((n + 1) / 2) (by omega) b (fun g1 g2 g3 g4 g5 g6 g7 g8 g9=>a g1 g2 g3 (Nat.le_trans g4 (by omega)) g5 g6 g7 g8 g9) (E:=E) h1 h2 h3 h4 h5 h6 h7 h8 h9
  ·rw [show (n + 1 + 1) / 2 = n / 2 + 1 by omega]
   exact fun {S a_ pj pr js lim t r v w Q E} h1 h2 h3 h4 h5 h6 h7 h8 h9 k=>sp_lat (s0:=r__law_at_row n) d_lplus d_lcome d_lrows (n / 2) (by omega) a (E:=E) h1 h2 h3 h4 h5 h6 h7 h8 h9 k
theorem d_lwalked:LWalkedSpec w__law_walked:=sp_lwalked (r_lwalk 12 (by decide)).1 d_lcome d_lrows
theorem d_sides:SidesSpec w_sides_of:=sp_sides
theorem r_parts:∀ n,PartsInSpec n (r_parts_in n)
 | 0=>fun h _ _=>absurd h (by have:=Bd.dep_pos; exact Nat.not_le.mpr (this _))
 | n + 1=>sp_parts d_sides n (r_parts n)
theorem d_rowsin:RowsInSpec 6 w_rows_in:=fun h a b=>sp_rowsin 12 (r_parts 12) sp_hasrow (Nat.le_trans h (by decide)) a b
theorem d_bring:BringSpec w_Doing_bring:=sp_bring sp_added sp_things
theorem d_step:GoStepSpec w_go_step:=sp_gostep sp_cometo (sp_pay d_plus) d_bring
theorem d_take:TakeSpec w_Doing_take:=sp_take d_bring
theorem q_go:∀ n,n ≤ 12→GoSpec (n / 2) (r_go n)∧GoChSpec ((n + 1) / 2) (r_go_choice n)∧GoOftSpec ((n + 1) / 2) (r_go_often n)
 | 0,_=>⟨fun _ _ _ _ _ _ h=>absurd h (by have:=Bd.dep_pos; exact Nat.not_le.mpr (this _)),fun _ _ _ _ _ _ h=>absurd h (by have:=Bd.dep_pos; exact Nat.not_le.mpr (this _)),fun _ _ _ _ _ _ h=>absurd h (by have:=Bd.dep_pos; exact Nat.not_le.mpr (this _))⟩
 | n + 1,hn=>by
  obtain ⟨a,b,c⟩:=q_go n (by omega)
  refine ⟨?_,?_,?_⟩
  ·exact fun {S o ps js M t r v w Q E} h1 h2 h3 h4 h5 h6 h7 h8 h9 i1 i2 i3 i4 i5=>sp_go (E:=E) d_rowsin d_step ((n + 1) / 2) (by omega) c b (fun g1 g2 g3 g4 g5 g6 g7 g8 g9 f1 f2 f3 f4 f5=>a g1 g2 g3 g4 g5 g6 (Nat.le_trans g7 (by omega)) g8 g9 f1 f2 f3 f4 f5) h1 h2 h3 h4 h5 h6 h7 h8 h9 i1 i2 i3 i4 i5
  ·rw [show (n + 1 + 1) / 2 = n / 2 + 1 by omega]
   exact sp_goch (s0:=r_go_often n) (s1:=r_go_choice n) sp_cometo d_take d_rowsin sp_chosen (n / 2) (by omega) a
  ·rw [show (n + 1 + 1) / 2 = n / 2 + 1 by omega]
   exact sp_gooft (s0:=r_go_often n) (s1:=r_go_choice n) sp_cometo (n / 2) a
theorem d_done:DoneSpec w_done:=sp_done sp_init (q_go 12 (by decide)).1 sp_cometo d_rowsin
theorem d_told:ToldSpec w__law_told:=sp_told d_done
theorem d_due:DueSpec w__law_due:=sp_due
theorem d_bound:BoundSpec w__law_at_bound:=sp_bound d_cost d_draw d_lwalked d_told d_due
theorem law_true:∀ ns:List Int,ns.length ≤ 63→w_law [.cl (ns.map PV.int)] (fun _=>none) (fun v _=>v = .bl true) noX:=fun ns h=>sp_law sp_deal d_draw d_bound d_any d_trto d_lwalked d_told d_due h fun _=>rfl
end G19
namespace L3
open PySem L2 Xc
theorem us1 {P:List Value→Prop} (h:∀ a,P [a]) (us:List Value) (hl:us.length = 1):P us:=match us,hl with | [_],_=>h _
theorem us2 {P:List Value→Prop} (h:∀ a b,P [a,b]) (us:List Value) (hl:us.length = 2):P us:=match us,hl with | [_,_],_=>h _ _
theorem us3 {P:List Value→Prop} (h:∀ a b c,P [a,b,c]) (us:List Value) (hl:us.length = 3):P us:=match us,hl with | [_,_,_],_=>h _ _ _
theorem us4 {P:List Value→Prop} (h:∀ a b c d,P [a,b,c,d]) (us:List Value) (hl:us.length = 4):P us:=match us,hl with | [_,_,_,_],_=>h _ _ _ _
theorem us5 {P:List Value→Prop} (h:∀ a b c d e,P [a,b,c,d,e]) (us:List Value) (hl:us.length = 5):P us:=match us,hl with | [_,_,_,_,_],_=>h _ _ _ _ _
section
variable {K:PySem.W.Frag} {h:Heap} {mg:Str→Option Value} {x c m q:Str} {st:Stmt} {ps fl:List Str}
noncomputable def isNN:Option (Option Value)→Bool
 | some none=>true
 | _=>false
theorem isNN_eq {o:Option (Option Value)} (h:isNN o = true):o = some none:=by
 unfold isNN at h; split at h
 ·rfl
 ·cases h
noncomputable def FnAt (K:PySem.W.Frag) (f:Addr) (m q:Str) (st:Stmt):Prop:=∃ (oc kV doc pm cdv ct:Value) (od an:Option Addr) (osl:Array (Option Value)),
 K.lookup f = some ⟨oc,od,.func (PySem.W.fnOf m q (defArgs st) (defBody st) (defScope st) .none kV doc pm an cdv ct),osl⟩∧PySem.W.codeIn K cdv q = true∧PySem.W.keepIn K (.ref f) = true
noncomputable abbrev BindB (m q:Str) (st:Stmt) (ps:List Str):Prop:=∀ (kV doc pm:Value) (an:Option Addr) (cdv ct:Value) (us:List Value),us.length = ps.length→bindArgs (PySem.W.fnOf m q (defArgs st) (defBody st) (defScope st) .none kV doc pm an cdv ct) ⟨us,[]⟩ = pure (ps.zip us)
theorem FnAt.mk {f:Addr} (a:FnAt K f m q st) (hb:BindB m q st ps):∃ fd,Fun K m q st f fd∧Binds K fd ps []∧PySem.W.keepIn K (.ref f) = true:=by
 obtain ⟨oc,kV,doc,pm,cdv,ct,od,an,osl,l,cc,k⟩:=a
 exact ⟨_,fun_mk l cc k,(fun_mk l cc k).binds hb,k⟩
noncomputable def FnK (K:PySem.W.Frag) (x:Str) (st:Stmt):Prop:=∃ f,PySem.W.nsIn K mainGlobals x = some (some (.ref f))∧FnAt K f x x st
theorem FnK.own (X:K.In h) (G:h.Ns mainGlobals mg) (a:FnK K x st) (hb:BindB x x st ps):Own4 K mg x st ps:=by
 obtain ⟨f,n,a⟩:=a
 obtain ⟨fd,F,b,k⟩:=a.mk hb
 exact ⟨f,fd,F,b,k,PySem.W.mg_of X G n⟩
theorem FnK.law {fa:Addr} (X:K.In h) (G:h.Ns mainGlobals mg) (a:FnK K x st) (hfa:mg x = some (.ref fa)) (hb:BindB x x st ps):∃ kV doc pm an cdv ct,Own K mg x st ps fa (PySem.W.fnOf x x (defArgs st) (defBody st) (defScope st) .none kV doc pm an cdv ct):=by
 obtain ⟨f,n,oc,kV,doc,pm,cdv,ct,od,an,osl,l,cc,k⟩:=a
 cases hfa.symm.trans (PySem.W.mg_of X G n)
 exact ⟨kV,doc,pm,an,cdv,ct,fun_mk l cc k,(fun_mk l cc k).binds hb,k,hfa⟩
structure ClAt (K:PySem.W.Frag) (C:Addr):Prop where
 a:PySem.W.plainGet K C Str.empty = true
 b:PySem.W.hasDictIn K C = true
 c:PySem.W.plainOver K C = true
 d:PySem.W.findIn K (.ref C) "__setattr__" = some (some (.builtin "object.__setattr__"))
noncomputable def ClK (K:PySem.W.Frag) (c:Str) (fl:List Str):Prop:=∃ C,PySem.W.nsIn K mainGlobals c = some (some (.ref C))∧PySem.W.findIn K (.ref C) "__setattr__" = some (some (.builtin "object.__setattr__"))∧PySem.W.keepIn K (.ref C) = true∧
 (PySem.W.plainGet K C Str.empty && PySem.W.hasDictIn K C && PySem.W.plainOver K C && PySem.W.makesIn K C && fl.all fun f=>isNN (PySem.W.findIn K (.ref C) f)) = true
theorem ClK.cl (X:K.In h) (G:h.Ns mainGlobals mg) (a:ClK K c fl):Cl4 K mg c fl:=by
 obtain ⟨C,n,s,k,r⟩:=a
 simp only [Bool.and_eq_true,List.all_eq_true] at r
 obtain ⟨⟨⟨⟨r1,r2⟩,r3⟩,r4⟩,r5⟩:=r
 exact ⟨C,n,PySem.W.mg_of X G n,⟨r1,r2,r3,s⟩,r4,k,fun f hf=>isNN_eq (r5 f hf)⟩
noncomputable def MeK (K:PySem.W.Frag) (c m q:Str) (st:Stmt):Prop:=∃ C f,PySem.W.nsIn K mainGlobals c = some (some (.ref C))∧PySem.W.findIn K (.ref C) m = some (some (.ref f))∧PySem.W.isFn K (.ref f) = true∧FnAt K f m q st
theorem MeK.own (a:MeK K c m q st) (k:Cl4 K mg c fl) (hb:BindB m q st ps):OwnM K c m q st ps:=by
 obtain ⟨C,f,n,e,i,a⟩:=a
 obtain ⟨fd,F,b,kp⟩:=a.mk hb
 obtain ⟨C',n',_,cl,_⟩:=k.ex
 cases ClsN.inj (c:=c) n n'
 exact ⟨C,f,fd,n,cl,⟨e,i,kp⟩,F,b⟩
noncomputable def DiK (P:Program) (w:World) (K:PySem.W.Frag) (x:Str) (kvs:List (Key × V)):Prop:=∃ a o,PySem.W.nsIn K mainGlobals x = some (some (.ref a))∧K.lookup a = some o∧(a == sysModules) = false∧∃ vs,KV kvs vs∧Obj.IsDictOf (mixKind P w) o vs
theorem DiK.kd {P:Program} {w:World} {kvs:List (Key × V)} (X:K.In h) (G:h.Ns mainGlobals mg) (a:DiK P w K x kvs):∃ a,mg x = some (.ref a)∧KD P w K a kvs:=by
 obtain ⟨a,o,n,l,s,vs,h1,h2⟩:=a
 exact ⟨a,PySem.W.mg_of X G n,s,o,vs,l,h1,h2⟩
noncomputable def XcK (K:PySem.W.Frag) (c q:Str) (st:Stmt) (fl:List Str):Prop:=∃ C f,PySem.W.nsIn K mainGlobals c = some (some (.ref C))∧PySem.W.findIn K (.ref C) "__init__" = some (some (.ref f))∧PySem.W.isFn K (.ref f) = true∧FnAt K f "__init__" q st∧PySem.W.keepIn K (.ref C) = true∧
 PySem.W.findIn K (.ref C) "__setattr__" = some (some (.builtin "object.__setattr__"))∧PySem.W.findIn K (.ref C) "__getattribute__" = some (some (.builtin "BaseException.__getattribute__"))∧PySem.W.findIn K (.ref C) "__getattr__" = some none∧
 PySem.W.mroIn K C (.type "BaseException") = some true∧PySem.W.mroIn K C (.type "object") = some true∧PySem.W.findIn K (.ref C) "__class__" = some (some (.builtin "object.__class__"))∧
 PySem.W.specialIn K (.builtin "object.__class__") "__get__" = some (some (.builtin "getset_descriptor.__get__"))∧PySem.W.takesIn K (.builtin "object.__class__") = some true∧
 (excOk K C && (PySem.W.kitOne K (.ref C) (.type "ValueError") == some true) && fl.all fun f=>isNN (PySem.W.findIn K (.ref C) f)) = true
theorem XcK.ek (a:XcK K c q st fl):∃ C,ClsN K c C∧ExcK K C∧PySem.W.kitOne K (.ref C) (.type "ValueError") = some true∧∀ f ∈ fl,NoAttr K C f:=by
 obtain ⟨C,f,n,i1,i2,i3,i4,e1,e2,e3,e4,e5,e6,e7,e8,r⟩:=a
 simp only [Bool.and_eq_true,List.all_eq_true] at r
 obtain ⟨⟨r1,r2⟩,r3⟩:=r
 exact ⟨C,n,⟨r1,e1,e2,e3,e4,e5,e6,e7,e8⟩,eq_of_beq r2,fun f hf=>isNN_eq (r3 f hf)⟩
theorem XcK.xc (X:K.In h) (G:h.Ns mainGlobals mg) (a:XcK K c q st fl) (hb:BindB "__init__" q st ps):XC4 K mg c q st ps fl:=by
 obtain ⟨C',n',ek,_,na⟩:=a.ek
 obtain ⟨C,f,n,i1,i2,i3,i4,_⟩:=a
 have e:=ClsN.inj (c:=c) n' n; subst e
 obtain ⟨fd,F,b,kp⟩:=i3.mk hb
 exact ⟨_,f,fd,F,b,n,PySem.W.mg_of X G n,ek,na,i1,i2,i4⟩
theorem xn_k (X:K.In h) (G:h.Ns mainGlobals mg) (a:∃ C,PySem.W.nsIn K mainGlobals c = some (some (.ref C))):XN4 K mg c:=let ⟨C,e⟩:=a; ⟨C,PySem.W.mg_of X G e,e⟩
noncomputable def XeK (K:PySem.W.Frag) (D:Str) (cs:List Str):Prop:=∃ C,PySem.W.nsIn K mainGlobals D = some (some (.ref C))∧PySem.W.typeIn K (.ref C) = some (.type "type")∧PySem.W.hasDictIn K C = true∧PySem.W.mroIn K C (.type "BaseException") = some true∧
 (cs.all fun c=>match PySem.W.nsIn K mainGlobals c with | some (some (.ref B))=>PySem.W.mroIn K B (.ref C) == some true | _=>false) = true
theorem xmro_of {C:Addr}:∀ {cs:List Str},(cs.all fun c=>match PySem.W.nsIn K mainGlobals c with | some (some (.ref B))=>PySem.W.mroIn K B (.ref C) == some true | _=>false) = true→XMro K C cs
 | [],_=>trivial
 | d :: cs,e=>by
  rw [List.all_cons,Bool.and_eq_true] at e
  obtain ⟨e1,e2⟩:=e
  refine ⟨?_,xmro_of e2⟩
  split at e1
  ·rename_i B hB; exact ⟨B,hB,eq_of_beq e1⟩
  ·cases e1
theorem XeK.xe (X:K.In h) (G:h.Ns mainGlobals mg) {cs:List Str} (a:XeK K x cs):XE4 K mg x cs:=by
 obtain ⟨C,n,t,d,b,r⟩:=a
 exact ⟨C,PySem.W.mg_of X G n,⟨t,(by obtain ⟨cd,hc,_⟩:=PySem.W.any_some d; rw [hc]; rfl),b⟩,xmro_of r⟩
theorem xattr_of {l:List (Str × Str)} (r:∀ p ∈ l,∃ q st fl,XcK K p.1 q st fl∧p.2 ∈ fl):XAttr K l:=by
 induction l with
 | nil=>trivial
 | cons p l ih=>
  obtain ⟨q,st,fl,a,hf⟩:=r p (by simp)
  obtain ⟨C,n,ek,_,na⟩:=a.ek
  exact ⟨⟨C,n,ek,na _ hf⟩,ih fun p' hp=>r p' (by simp [hp])⟩
noncomputable def TabK (K:PySem.W.Frag) (l:List (Str × Str × Bool)):Prop:=(l.all fun t=>match PySem.W.nsIn K mainGlobals t.1,PySem.W.nsIn K mainGlobals t.2.1 with | some (some (.ref C)),some (some (.ref D))=>PySem.W.kitOne K (.ref C) (.ref D) == some t.2.2 | _,_=>false) = true
theorem xtab_of {l:List (Str × Str × Bool)} (e:TabK K l) (r:∀ p ∈ l,∃ q st fl,XcK K p.1 q st fl):XTab K l:=by
 induction l with
 | nil=>trivial
 | cons p l ih=>
  unfold TabK at e
  rw [List.all_cons,Bool.and_eq_true] at e
  obtain ⟨e1,e2⟩:=e
  obtain ⟨c,d,b⟩:=p
  refine ⟨?_,ih e2 fun p' hp=>r p' (by simp [hp])⟩
  obtain ⟨q,st,fl,a⟩:=r (c,d,b) (by simp)
  obtain ⟨C',n',ek,kv,_⟩:=a.ek
  split at e1
  ·rename_i C D h1 h2
   have e:=ClsN.inj (c:=c) n' h1; subst e
   exact ⟨_,D,h1,h2,ek,eq_of_beq e1,kv⟩
  ·cases e1
theorem no_k (X:K.In h) (G:h.Ns mainGlobals mg) {l:List Str} (a:(l.all fun x=>isNN (PySem.W.nsIn K mainGlobals x)) = true) (hx:x ∈ l:=by decide):mg x = none:=PySem.W.mg_none_of X G (isNN_eq (List.all_eq_true.mp a x hx))
section
variable {f C:Addr} {oc kV doc pm cdv ct:Value} {od an:Option Addr} {osl:Array (Option Value)}
theorem fnk (n:PySem.W.nsIn K mainGlobals x = some (some (.ref f))) (l:K.lookup f = some ⟨oc,od,.func (PySem.W.fnOf x x (defArgs st) (defBody st) (defScope st) .none kV doc pm an cdv ct),osl⟩) (cc:PySem.W.codeIn K cdv x = true) (k:PySem.W.keepIn K (.ref f) = true):FnK K x st:=⟨f,n,oc,kV,doc,pm,cdv,ct,od,an,osl,l,cc,k⟩
theorem mek (n:PySem.W.nsIn K mainGlobals c = some (some (.ref C))) (e:PySem.W.findIn K (.ref C) m = some (some (.ref f))) (i:PySem.W.isFn K (.ref f) = true) (l:K.lookup f = some ⟨oc,od,.func (PySem.W.fnOf m q (defArgs st) (defBody st) (defScope st) .none kV doc pm an cdv ct),osl⟩) (cc:PySem.W.codeIn K cdv q = true) (k:PySem.W.keepIn K (.ref f) = true):MeK K c m q st:=⟨C,f,n,e,i,oc,kV,doc,pm,cdv,ct,od,an,osl,l,cc,k⟩
theorem clk (n:PySem.W.nsIn K mainGlobals c = some (some (.ref C))) (e:PySem.W.findIn K (.ref C) "__setattr__" = some (some (.builtin "object.__setattr__"))) (k:PySem.W.keepIn K (.ref C) = true)
  (r:(PySem.W.plainGet K C Str.empty && PySem.W.hasDictIn K C && PySem.W.plainOver K C && PySem.W.makesIn K C && fl.all fun f=>isNN (PySem.W.findIn K (.ref C) f)) = true):ClK K c fl:=⟨C,n,e,k,r⟩
theorem xck (n:PySem.W.nsIn K mainGlobals c = some (some (.ref C))) (e:PySem.W.findIn K (.ref C) "__init__" = some (some (.ref f))) (i:PySem.W.isFn K (.ref f) = true) (l:K.lookup f = some ⟨oc,od,.func (PySem.W.fnOf "__init__" q (defArgs st) (defBody st) (defScope st) .none kV doc pm an cdv ct),osl⟩) (cc:PySem.W.codeIn K cdv q = true) (k:PySem.W.keepIn K (.ref f) = true) (kc:PySem.W.keepIn K (.ref C) = true)
  (e1:PySem.W.findIn K (.ref C) "__setattr__" = some (some (.builtin "object.__setattr__"))) (e2:PySem.W.findIn K (.ref C) "__getattribute__" = some (some (.builtin "BaseException.__getattribute__"))) (e3:PySem.W.findIn K (.ref C) "__getattr__" = some none)
  (e4:PySem.W.mroIn K C (.type "BaseException") = some true) (e5:PySem.W.mroIn K C (.type "object") = some true) (e6:PySem.W.findIn K (.ref C) "__class__" = some (some (.builtin "object.__class__")))
  (e7:PySem.W.specialIn K (.builtin "object.__class__") "__get__" = some (some (.builtin "getset_descriptor.__get__"))) (e8:PySem.W.takesIn K (.builtin "object.__class__") = some true)
  (r:(excOk K C && (PySem.W.kitOne K (.ref C) (.type "ValueError") == some true) && fl.all fun f=>isNN (PySem.W.findIn K (.ref C) f)) = true):XcK K c q st fl:=⟨C,f,n,e,i,⟨oc,kV,doc,pm,cdv,ct,od,an,osl,l,cc,k⟩,kc,e1,e2,e3,e4,e5,e6,e7,e8,r⟩
theorem xek {cs:List Str} (n:PySem.W.nsIn K mainGlobals x = some (some (.ref C))) (t:PySem.W.typeIn K (.ref C) = some (.type "type")) (d:PySem.W.hasDictIn K C = true) (b:PySem.W.mroIn K C (.type "BaseException") = some true)
  (r:(cs.all fun c=>match PySem.W.nsIn K mainGlobals c with | some (some (.ref B))=>PySem.W.mroIn K B (.ref C) == some true | _=>false) = true):XeK K x cs:=⟨C,n,t,d,b,r⟩
theorem xnk (n:PySem.W.nsIn K mainGlobals x = some (some (.ref C))):∃ C,PySem.W.nsIn K mainGlobals x = some (some (.ref C)):=⟨C,n⟩
theorem dik {P:Program} {w:World} {kvs:List (Key × V)} {o:Obj} (n:PySem.W.nsIn K mainGlobals x = some (some (.ref f))) (l:K.lookup f = some o) (s:(f == sysModules) = false) (v:∃ vs,KV kvs vs∧Obj.IsDictOf (mixKind P w) o vs):DiK P w K x kvs:=⟨f,o,n,l,s,v⟩
end
end
end L3
namespace G19
open PySem L2 L3
theorem all_mk {l:PySem.W.OpenLaw} {w:World} {K:PySem.W.Frag} {h:Heap} {mg:Str→Option Value} {fa:Addr} (X:K.In h) (G:h.Ns mainGlobals mg) (hfa:mg "law" = some (.ref fa))
  (h_o_sides_of:FnK K "sides_of" (top 2))
  (h_o_parts_in:FnK K "parts_in" (top 3))
  (h_o_has_row:FnK K "has_row" (top 5))
  (h_o_rows_in:FnK K "rows_in" (top 6))
  (h_o_common:FnK K "common" (top 17))
  (h_o_fraction:FnK K "fraction" (top 18))
  (h_o_plus:FnK K "plus" (top 19))
  (h_o_chosen:FnK K "chosen" (top 21))
  (h_o_things_of:FnK K "things_of" (top 23))
  (h_o_added:FnK K "added" (top 24))
  (h_o_Doing___init__:MeK K "Doing" "__init__" "Doing.__init__" (mt 26 0))
  (h_o_Doing_come_to:MeK K "Doing" "come_to" "Doing.come_to" (mt 26 1))
  (h_o_Doing_pay:MeK K "Doing" "pay" "Doing.pay" (mt 26 2))
  (h_o_Doing_bring:MeK K "Doing" "bring" "Doing.bring" (mt 26 3))
  (h_o_Doing_take:MeK K "Doing" "take" "Doing.take" (mt 26 4))
  (h_o_go_often:FnK K "go_often" (top 27))
  (h_o_go_choice:FnK K "go_choice" (top 28))
  (h_o_go_step:FnK K "go_step" (top 29))
  (h_o_go:FnK K "go" (top 30))
  (h_o_done:FnK K "done" (top 31))
  (h_o__law_deal:FnK K "_law_deal" (top 33))
  (h_o__law_draw:FnK K "_law_draw" (top 34))
  (h_o__law_words:FnK K "_law_words" (top 35))
  (h_o__law_low:FnK K "_law_low" (top 36))
  (h_o__law_plus:FnK K "_law_plus" (top 37))
  (h_o__law_cost:FnK K "_law_cost" (top 38))
  (h_o__law_leaf:FnK K "_law_leaf" (top 39))
  (h_o__law_body:FnK K "_law_body" (top 40))
  (h_o__law_pass_count:FnK K "_law_pass_count" (top 41))
  (h_o__law_round_count:FnK K "_law_round_count" (top 42))
  (h_o__law_deed_body:FnK K "_law_deed_body" (top 43))
  (h_o__law_house:FnK K "_law_house" (top 44))
  (h_o__law_any_house:FnK K "_law_any_house" (top 45))
  (h_o__law_trace_to:FnK K "_law_trace_to" (top 46))
  (h_o__law_rows:FnK K "_law_rows" (top 47))
  (h_o__law_come:FnK K "_law_come" (top 48))
  (h_o__law_at_row:FnK K "_law_at_row" (top 49))
  (h_o__law_walk:FnK K "_law_walk" (top 50))
  (h_o__law_walked:FnK K "_law_walked" (top 51))
  (h_o__law_due:FnK K "_law_due" (top 52))
  (h_o__law_told:FnK K "_law_told" (top 53))
  (h_o__law_at_bound:FnK K "_law_at_bound" (top 54))
  (h_c_Doing:ClK K "Doing" ["names","jars","most","cost","seen"])
  (h_c_SIDES_FROM:DiK l.prog w K "SIDES_FROM" (C.k_SIDES_FROM.map fun kv=>(kv.1,V.int kv.2)))
  (h_n_DueError:∃ C,PySem.W.nsIn K mainGlobals "DueError" = some (some (.ref C)))
  (h_n_BadText:∃ C,PySem.W.nsIn K mainGlobals "BadText" = some (some (.ref C)))
  (h_n_NoHouse:∃ C,PySem.W.nsIn K mainGlobals "NoHouse" = some (some (.ref C)))
  (h_n_Stuck:∃ C,PySem.W.nsIn K mainGlobals "Stuck" = some (some (.ref C)))
  (h_n_TooLong:∃ C,PySem.W.nsIn K mainGlobals "TooLong" = some (some (.ref C)))
  (h_n_NoStory:∃ C,PySem.W.nsIn K mainGlobals "NoStory" = some (some (.ref C)))
  (h_n_TooMany:∃ C,PySem.W.nsIn K mainGlobals "TooMany" = some (some (.ref C)))
  (h_n_NoRow:∃ C,PySem.W.nsIn K mainGlobals "NoRow" = some (some (.ref C)))
  (h_x_TooLong:XcK K "TooLong" "TooLong.__init__" (mt 12 0) ["most"])
  (h_x_Stuck:XcK K "Stuck" "Stuck.__init__" (mt 11 0) ["row"])
  (h_t_DueError:XeK K "DueError" ["TooLong","Stuck"])
  (h_tab:TabK K xtab)
  (h_z:((["ValueError","abs","int","isinstance","len","list","max","range","repr","reversed","tuple","zip"]:List Str).all fun x=>isNN (PySem.W.nsIn K mainGlobals x)) = true)
  (h_law:FnK K "law" (top 55))
  : ∃ fd:FuncData,(∀ (s:Shared) (v:Value),BindsTo s fd ⟨[v],[]⟩ [("_law_script",v)])∧∀ base:Heap,K.In base→base.Ns mainGlobals mg→FnOk l.prog w K mg base CX0 30 fa fd ["_law_script"] (LSp K 1 w_law):=by
 obtain ⟨kV,doc,pm,an,cdv,ct,O⟩:=h_law.law X G hfa (ps:=["_law_script"]) (fun _ _ _ _ _ _=>us1 fun _=>rfl)
 exact ⟨_,fun s v=>.of_eq rfl,fun base _ _=>(ok_law (P:=l.prog) (w:=w) (base:=base) ⟨h_o_sides_of.own X G (fun _ _ _ _ _ _=>us1 fun _=>rfl),
  h_o_parts_in.own X G (fun _ _ _ _ _ _=>us1 fun _=>rfl),
  h_o_has_row.own X G (fun _ _ _ _ _ _=>us1 fun _=>rfl),
  h_o_rows_in.own X G (fun _ _ _ _ _ _=>us1 fun _=>rfl),
  h_o_common.own X G (fun _ _ _ _ _ _=>us2 fun _ _=>rfl),
  h_o_fraction.own X G (fun _ _ _ _ _ _=>us2 fun _ _=>rfl),
  h_o_plus.own X G (fun _ _ _ _ _ _=>us2 fun _ _=>rfl),
  h_o_chosen.own X G (fun _ _ _ _ _ _=>us2 fun _ _=>rfl),
  h_o_things_of.own X G (fun _ _ _ _ _ _=>us3 fun _ _ _=>rfl),
  h_o_added.own X G (fun _ _ _ _ _ _=>us2 fun _ _=>rfl),
  h_o_Doing___init__.own (mg:=mg) (h_c_Doing.cl X G) (fun _ _ _ _ _ _=>us4 fun _ _ _ _=>rfl),
  h_o_Doing_come_to.own (mg:=mg) (h_c_Doing.cl X G) (fun _ _ _ _ _ _=>us2 fun _ _=>rfl),
  h_o_Doing_pay.own (mg:=mg) (h_c_Doing.cl X G) (fun _ _ _ _ _ _=>us2 fun _ _=>rfl),
  h_o_Doing_bring.own (mg:=mg) (h_c_Doing.cl X G) (fun _ _ _ _ _ _=>us3 fun _ _ _=>rfl),
  h_o_Doing_take.own (mg:=mg) (h_c_Doing.cl X G) (fun _ _ _ _ _ _=>us4 fun _ _ _ _=>rfl),
  h_o_go_often.own X G (fun _ _ _ _ _ _=>us4 fun _ _ _ _=>rfl),
  h_o_go_choice.own X G (fun _ _ _ _ _ _=>us4 fun _ _ _ _=>rfl),
  h_o_go_step.own X G (fun _ _ _ _ _ _=>us3 fun _ _ _=>rfl),
  h_o_go.own X G (fun _ _ _ _ _ _=>us4 fun _ _ _ _=>rfl),
  h_o_done.own X G (fun _ _ _ _ _ _=>us5 fun _ _ _ _ _=>rfl),
  h_o__law_deal.own X G (fun _ _ _ _ _ _=>us2 fun _ _=>rfl),
  h_o__law_draw.own X G (fun _ _ _ _ _ _=>us2 fun _ _=>rfl),
  h_o__law_words.own X G (fun _ _ _ _ _ _=>us2 fun _ _=>rfl),
  h_o__law_low.own X G (fun _ _ _ _ _ _=>us2 fun _ _=>rfl),
  h_o__law_plus.own X G (fun _ _ _ _ _ _=>us2 fun _ _=>rfl),
  h_o__law_cost.own X G (fun _ _ _ _ _ _=>us1 fun _=>rfl),
  h_o__law_leaf.own X G (fun _ _ _ _ _ _=>us2 fun _ _=>rfl),
  h_o__law_body.own X G (fun _ _ _ _ _ _=>us4 fun _ _ _ _=>rfl),
  h_o__law_pass_count.own X G (fun _ _ _ _ _ _=>us1 fun _=>rfl),
  h_o__law_round_count.own X G (fun _ _ _ _ _ _=>us1 fun _=>rfl),
  h_o__law_deed_body.own X G (fun _ _ _ _ _ _=>us4 fun _ _ _ _=>rfl),
  h_o__law_house.own X G (fun _ _ _ _ _ _=>us4 fun _ _ _ _=>rfl),
  h_o__law_any_house.own X G (fun _ _ _ _ _ _=>us1 fun _=>rfl),
  h_o__law_trace_to.own X G (fun _ _ _ _ _ _=>us4 fun _ _ _ _=>rfl),
  h_o__law_rows.own X G (fun _ _ _ _ _ _=>us1 fun _=>rfl),
  h_o__law_come.own X G (fun _ _ _ _ _ _=>us2 fun _ _=>rfl),
  h_o__law_at_row.own X G (fun _ _ _ _ _ _=>us4 fun _ _ _ _=>rfl),
  h_o__law_walk.own X G (fun _ _ _ _ _ _=>us4 fun _ _ _ _=>rfl),
  h_o__law_walked.own X G (fun _ _ _ _ _ _=>us5 fun _ _ _ _ _=>rfl),
  h_o__law_due.own X G (fun _ _ _ _ _ _=>us2 fun _ _=>rfl),
  h_o__law_told.own X G (fun _ _ _ _ _ _=>us5 fun _ _ _ _ _=>rfl),
  h_o__law_at_bound.own X G (fun _ _ _ _ _ _=>us1 fun _=>rfl),
  h_c_Doing.cl X G,
  no_k (x:="ValueError") X G h_z,
  no_k (x:="abs") X G h_z,
  no_k (x:="int") X G h_z,
  no_k (x:="isinstance") X G h_z,
  no_k (x:="len") X G h_z,
  no_k (x:="list") X G h_z,
  no_k (x:="max") X G h_z,
  no_k (x:="range") X G h_z,
  no_k (x:="repr") X G h_z,
  no_k (x:="reversed") X G h_z,
  no_k (x:="tuple") X G h_z,
  no_k (x:="zip") X G h_z,
  h_c_SIDES_FROM.kd X G,
  xn_k X G h_n_DueError,
  xn_k X G h_n_BadText,
  xn_k X G h_n_NoHouse,
  xn_k X G h_n_Stuck,
  xn_k X G h_n_TooLong,
  xn_k X G h_n_NoStory,
  xn_k X G h_n_TooMany,
  xn_k X G h_n_NoRow,
  h_x_TooLong.xc X G (fun _ _ _ _ _ _=>us2 fun _ _=>rfl),
  h_x_Stuck.xc X G (fun _ _ _ _ _ _=>us2 fun _ _=>rfl),
  h_t_DueError.xe X G,
  xattr_of (by intro p hp; simp only [xat,List.mem_cons,List.not_mem_nil,or_false] at hp; rcases hp with rfl | rfl; exact ⟨_,_,_,h_x_TooLong,by decide⟩; exact ⟨_,_,_,h_x_Stuck,by decide⟩),
  xtab_of h_tab (by intro p hp; simp only [xtab,List.mem_cons,List.not_mem_nil,or_false] at hp; rcases hp with rfl | rfl | rfl | rfl | rfl | rfl | rfl | rfl | rfl | rfl | rfl | rfl | rfl | rfl; exact ⟨_,_,_,h_x_TooLong⟩; exact ⟨_,_,_,h_x_TooLong⟩; exact ⟨_,_,_,h_x_TooLong⟩; exact ⟨_,_,_,h_x_TooLong⟩; exact ⟨_,_,_,h_x_TooLong⟩; exact ⟨_,_,_,h_x_TooLong⟩; exact ⟨_,_,_,h_x_TooLong⟩; exact ⟨_,_,_,h_x_Stuck⟩; exact ⟨_,_,_,h_x_Stuck⟩; exact ⟨_,_,_,h_x_Stuck⟩; exact ⟨_,_,_,h_x_Stuck⟩; exact ⟨_,_,_,h_x_Stuck⟩; exact ⟨_,_,_,h_x_Stuck⟩; exact ⟨_,_,_,h_x_Stuck⟩)⟩ O).ok⟩
theorem walk {l:PySem.W.OpenLaw} {q:Program} {loose:List Str} {XP:(Str→Option Value)→Heap→Prop} {YP:World→Heap→Prop} {d:DefRec} {K:Params→PySem.W.Frag} (hn:l.most = some 63) (hdf:d.params.defaults = [])
  (hY:∀ (w:World) (h:Heap),YP w h→(K w.params).In h)
  (F:∀ (w:World) (mg:Str→Option Value) (fa:Addr) (h:Heap),(K w.params).In h→h.Ns mainGlobals mg→mg d.name = some (.ref fa)→
   ∃ fd:FuncData,(∀ (s:Shared) (u:Value),BindsTo s fd ⟨[u],[]⟩ [("_law_script",u)])∧∀ base:Heap,(K w.params).In base→base.Ns mainGlobals mg→FnOk l.prog w (K w.params) mg base CX0 30 fa fd ["_law_script"] (LSp (K w.params) 1 w_law)) :
  PySem.W.WalkO q loose XP YP l.row.toRowW d [] (fun f vs=>PySem.call f vs):=
 L2.walk_of (n:=63) (k:=30) (x:="_law_script") (CX:=fun _=>CX0) (sp:=fun w=>LSp (K w.params) 1 w_law) hn (by decide) hdf ⟨rfl,by decide,by decide,rfl⟩ hY F (fun _ _ a ns hl hO hS=>law3 hO hS (law_true ns hl)) fun _ _ _ _ _ z=>z
end G19
local macro_rules | `(tactic| walk_at "k")=>`(tactic| (apply L3.fnk; k_is; k_is; k_is; k_is))
local macro_rules | `(tactic| walk_at "m")=>`(tactic| (apply L3.mek; k_is; k_is; k_is; k_is; k_is; k_is))
local macro_rules | `(tactic| walk_at "c")=>`(tactic| (apply L3.clk; k_is; k_is; k_is; kernel_rfl))
local macro_rules | `(tactic| walk_at "e")=>`(tactic| (apply L3.xck; k_is; k_is; k_is; k_is; k_is; k_is; k_is; k_is; k_is; k_is; k_is; k_is; k_is; k_is; k_is; kernel_rfl))
local macro_rules | `(tactic| walk_at "t")=>`(tactic| (apply L3.xek; k_is; k_is; k_is; k_is; kernel_rfl))
open PySem PySem.W PyProof.Rows
set_option maxRecDepth 100000 in
set_option maxHeartbeats 0 in
theorem PySem.Challenge.cw_dueworth_k19_stuck_or_too_long_holds : PySem.Challenge.rw_dueworth_k19_stuck_or_too_long.Holds := by
 w_on; o_law
 refine holds_open (q := E19.vw) (loose := ["SIDES_FROM"]) (Xt := fun s => (xlAt E19.vw [] s && recOk (RowW.records E19.rr) s)) (XP := XL E19.vw []) (N := 7084)
  (Yf := Hook.obs E19.hk) (Ya := Hook.val E19.hk) (YP := Hook.says (kHook E19.early.heap_39 E19.as E19.ase)) E19.left (Hook.of E19.hk) (Hook.keeps E19.hk) (fun s e => xl_of s (Bool.and_eq_true_iff.mp e).1)
  XL.keeps rfl rfl rfl (fun s e => recFacts_of (Bool.and_eq_true_iff.mp e).2) rfl (by assumption)
  (by decide +kernel) ⟨rfl, rfl, rfl, rfl, rfl, by decide +kernel⟩ ?hw ?hc
 (case hw => w_witness2)
 k_fill
 refine G19.walk (l := PySem.Challenge.rw_dueworth_k19_stuck_or_too_long) rfl rfl (fun w h Y => PySem.W.kIn_of Y) ?F
 case F =>
  intro w mg fa h KX G hmg
  refine' G19.all_mk KX G hmg ?h_o_sides_of ?h_o_parts_in ?h_o_has_row ?h_o_rows_in ?h_o_common ?h_o_fraction ?h_o_plus ?h_o_chosen ?h_o_things_of ?h_o_added ?h_o_Doing___init__ ?h_o_Doing_come_to ?h_o_Doing_pay ?h_o_Doing_bring ?h_o_Doing_take ?h_o_go_often ?h_o_go_choice ?h_o_go_step ?h_o_go ?h_o_done ?h_o__law_deal ?h_o__law_draw ?h_o__law_words ?h_o__law_low ?h_o__law_plus ?h_o__law_cost ?h_o__law_leaf ?h_o__law_body ?h_o__law_pass_count ?h_o__law_round_count ?h_o__law_deed_body ?h_o__law_house ?h_o__law_any_house ?h_o__law_trace_to ?h_o__law_rows ?h_o__law_come ?h_o__law_at_row ?h_o__law_walk ?h_o__law_walked ?h_o__law_due ?h_o__law_told ?h_o__law_at_bound ?h_c_Doing ?h_c_SIDES_FROM ?h_n_DueError ?h_n_BadText ?h_n_NoHouse ?h_n_Stuck ?h_n_TooLong ?h_n_NoStory ?h_n_TooMany ?h_n_NoRow ?h_x_TooLong ?h_x_Stuck ?h_t_DueError ?h_tab ?h_z ?h_law
  (case h_o_sides_of => walk_at "k")
  (case h_o_parts_in => walk_at "k")
  (case h_o_has_row => walk_at "k")
  (case h_o_rows_in => walk_at "k")
  (case h_o_common => walk_at "k")
  (case h_o_fraction => walk_at "k")
  (case h_o_plus => walk_at "k")
  (case h_o_chosen => walk_at "k")
  (case h_o_things_of => walk_at "k")
  (case h_o_added => walk_at "k")
  (case h_o_Doing___init__ => walk_at "m")
  (case h_o_Doing_come_to => walk_at "m")
  (case h_o_Doing_pay => walk_at "m")
  (case h_o_Doing_bring => walk_at "m")
  (case h_o_Doing_take => walk_at "m")
  (case h_o_go_often => walk_at "k")
  (case h_o_go_choice => walk_at "k")
  (case h_o_go_step => walk_at "k")
  (case h_o_go => walk_at "k")
  (case h_o_done => walk_at "k")
  (case h_o__law_deal => walk_at "k")
  (case h_o__law_draw => walk_at "k")
  (case h_o__law_words => walk_at "k")
  (case h_o__law_low => walk_at "k")
  (case h_o__law_plus => walk_at "k")
  (case h_o__law_cost => walk_at "k")
  (case h_o__law_leaf => walk_at "k")
  (case h_o__law_body => walk_at "k")
  (case h_o__law_pass_count => walk_at "k")
  (case h_o__law_round_count => walk_at "k")
  (case h_o__law_deed_body => walk_at "k")
  (case h_o__law_house => walk_at "k")
  (case h_o__law_any_house => walk_at "k")
  (case h_o__law_trace_to => walk_at "k")
  (case h_o__law_rows => walk_at "k")
  (case h_o__law_come => walk_at "k")
  (case h_o__law_at_row => walk_at "k")
  (case h_o__law_walk => walk_at "k")
  (case h_o__law_walked => walk_at "k")
  (case h_o__law_due => walk_at "k")
  (case h_o__law_told => walk_at "k")
  (case h_o__law_at_bound => walk_at "k")
  (case h_c_Doing => walk_at "c")
  (case h_c_SIDES_FROM => apply L3.dik; k_is; k_is; rfl; exact L2.kd_obj _ w [("then", 1, _, _), ("either", 1, _, _), ("take", 3, _, _), ("often", 1, _, _)] _ (by decide +kernel))
  (case h_n_DueError => apply L3.xnk; k_is)
  (case h_n_BadText => apply L3.xnk; k_is)
  (case h_n_NoHouse => apply L3.xnk; k_is)
  (case h_n_Stuck => apply L3.xnk; k_is)
  (case h_n_TooLong => apply L3.xnk; k_is)
  (case h_n_NoStory => apply L3.xnk; k_is)
  (case h_n_TooMany => apply L3.xnk; k_is)
  (case h_n_NoRow => apply L3.xnk; k_is)
  (case h_x_TooLong => walk_at "e")
  (case h_x_Stuck => walk_at "e")
  (case h_t_DueError => walk_at "t")
  (case h_tab => unfold L3.TabK; kernel_rfl)
  (case h_z => kernel_rfl)
  (case h_law => walk_at "k")
#print axioms PySem.Challenge.cw_dueworth_k19_stuck_or_too_long_holds
