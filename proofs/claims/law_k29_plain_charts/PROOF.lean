import PyProof.Rows.All
import Wide.All
import OpenK.AllK
import Wide.FinOn
import HandS.ForMost
import HandS.ForExc
import HandS.Lambda
import HandS.HotCalls
import HandS.Star
import HandS.CallSlots
import HandS.Wide
import HandS.IsInst
import HandS.RaiseMore
import HandS.ClsMeth
import HandS.SlotsOwn
import HandS.TupLe
import HandS.FStr
import HandS.Text
import KE.KExcSuper
import HandS.Nested
import HandS.ExcInit
import HandS.ExcCtx
import HandS.ExcField
import KE.KExcIs
import HandS.Flow
import HandS.MakeKwOnly
import HandS.TupAny
import KE.KEqNest
import HandS.BoundList
import KE.KFmtOwn
import PyProof.StrLawsRepr
import HandS.Property
import HandS.Defaults
import HandS.TryMany
import PyProof.Rows.SeqMore
import HandS.Iter
import PyProof.Rows.SortShellAny
import PyProof.Rows.StrMeet
import HandS.SetBool
import HandS.SetKeys
import HandS.SetFor
import KE.GoesEnum
import HandS.TupMul
import PyProof.Rows.StrRev
import HandS.Style
import HandS.Zip
import KE.GoesZip
import KE.SortKeyed
import HandS.Keys
import HandS.SortKw
import HandS.EndTab
import HandS.Rev
import HandS.RevTup
import HandS.TryOnly
import HandS.Conv
import HandS.SortInts
import KE.RegKSuper
import KE.RegKTryMore
import PySem.Challenge.RW_laidink_k29_plain_charts
import HandS.Head0
import HandS.Head1
import HandS.Head2
set_option Elab.async false
set_option linter.all false
set_option maxRecDepth 100000
set_option maxHeartbeats 0
namespace K29Head
open PySem PySem.W PySem.Calls PyProof.Rows
abbrev R : OpenRow := OpenLaw.row PySem.Challenge.rw_laidink_k29_plain_charts
abbrev qv : Program := view R.prog [32]
def names : List PySem.Str := (["_wall", "PrintError", "InvalidBand", "InvalidInk", "InvalidTakes", "LIGHTS", "Light", "check_band", "_bands_of", "_light", "Film", "_effect_for", "_followed", "Chart", "_is_plain_behind", "Ink", "Filter", "Bleach", "_law_draw", "_law_box", "_law_name", "_law_names", "_law_is", "_law_tree", "_law_made", "_law_plain"] : List PySem.Str)
theorem ob_eq (as ts : List Addr) (s : SharedT) : (as.map (HandSHeadRun.getT s), ts.map (HandSHeadRun.getT s)) = (as.map s.abs.heap.get?, ts.map s.abs.heap.get?) := by
  rw [show HandSHeadRun.getT s = s.abs.heap.get? from funext (HandSHeadRun.getT_eq s)]
section
local macro_rules
  | `(tactic| o_head (kHook $K $as $e)) => `(tactic| exact False.elim (by assumption))
theorem d0 (z : False) : PySem.Challenge.rw_laidink_k29_plain_charts.Holds := by
  w_on; o_law; k_head
end
def P0 : Params := { strHash := fun _ => 0, shareClass := fun _ => 0, mergeTok := fun t => t, idOf := fun _ => 0, idOfShared := fun _ _ => 0, followText := fun _ => false, idOfImm := fun _ => 0 }
noncomputable abbrev as0 : List Addr := List.map Prod.fst (d0.heap_39 P0)
noncomputable abbrev hk : Hook := kHook d0.heap_39 as0 (fun _ => by kernel_rfl)
noncomputable abbrev ob : SharedT → hk.α := fun s => as0.map (HandSHeadRun.getT s)
theorem ho (s : SharedT) : ob s = hk.obs s.abs := (congrArg Prod.fst (ob_eq as0 [] s) : as0.map (HandSHeadRun.getT s) = as0.map s.abs.heap.get?)
theorem run (w : World) : HandSHeadRun.RunEq R qv hk ob 60000 names w := by
  intro os
  kernel_rfl
end K29Head
set_option maxHeartbeats 200000
set_option maxRecDepth 512
set_option Elab.async false
set_option linter.all false
set_option maxRecDepth 100000
set_option maxHeartbeats 4000000
/-! Data without addresses over the hand layer: D (trees of plain data), EV (data or a store object), the relation to the abstract heap, and its growth. -/
namespace DL
open PySem L2
inductive D where
  | non | bl (b : Bool) | int (i : Int) | str (x : Str)
  | tup (xs : List D) | lst (xs : List D)
  | ins (c : String) (fs : List D)
  | cls (c : String)
  | ty (n : String)
/-- data, or an object of the store -/
inductive EV where
  | d (x : D) | o (i : Nat)
/-- an object of the store: a list that is written -/
inductive GO where
  | lst (xs : List EV)
  /-- the table of a def's lambdas -/
  | tb (k : String)
abbrev GS := List GO
/-- what a frame alone holds and may still change -/
inductive OW where
  | lst (xs : List D) | ins (c : String) (fs : List D)
inductive Sl where
  | no | ev (e : EV) | own (o : OW) | exn (c : String) (fs : List D)
abbrev En := List Sl
inductive Out (α : Type) where
  | ok (a : α) (g : GS) | er (c : String) (fs : List D) (g : GS) | st
def Out.bind {α β : Type} (o : Out α) (f : α → GS → Out β) : Out β := match o with
  | .ok a g => f a g
  | .er c fs g => .er c fs g
  | .st => .st
abbrev EM := En → GS → Out EV
/-- the frame's constants: the written part, where the classes stand, what the callers may still change -/
structure RC where
  K : PySem.W.Frag
  C : String → Addr
  /-- the fields of a class, in the order in which __init__ stores them -/
  N : String → List Str
  B : Addr → Prop
  /-- the instance that __init__ fills -/
  s : Addr := 0
  /-- the dict of the error that an except suite handles (the error at s) -/
  x : Addr := 0
/-- may be read for ever -/
def Zz (c : RC) (M : Addr → Prop) (ρ : List Addr) (a : Addr) : Prop := ¬ c.B a ∧ ¬ M a ∧ a ∉ ρ
/-- a list, a tuple of the module's own top: what is a sequence though the heap tracks nothing -/
def KL (K : PySem.W.Frag) (a : Addr) (xs : List V) : Prop := SqL K (fun _ => Option.none) a xs
def KT (K : PySem.W.Frag) (a : Addr) (xs : List V) : Prop := SqT K (fun _ => Option.none) a xs
theorem KL.up {K : PySem.W.Frag} {a : Addr} {xs : List V} {H : Hp} (h : KL K a xs) : SqL K H a xs := by
  rcases h with h | h
  · rcases h with h | ⟨_, h⟩ <;> cases h
  · exact .inr h
theorem KT.up {K : PySem.W.Frag} {a : Addr} {xs : List V} {H : Hp} (h : KT K a xs) : SqT K H a xs := by
  rcases h with h | h
  · rcases h with h | ⟨_, h⟩ <;> cases h
  · exact .inr h
def ZL (c : RC) (M : Addr → Prop) (ρ : List Addr) (H : Hp) (a : Addr) (xs : List V) : Prop := (Zz c M ρ a ∧ Rd H a (.lst xs)) ∨ KL c.K a xs
def ZT (c : RC) (M : Addr → Prop) (ρ : List Addr) (H : Hp) (a : Addr) (xs : List V) : Prop := (Zz c M ρ a ∧ Rd H a (.tup xs)) ∨ KT c.K a xs
theorem ZL.sq {c : RC} {M : Addr → Prop} {ρ : List Addr} {H : Hp} {a : Addr} {xs : List V} (h : ZL c M ρ H a xs) : SqL c.K H a xs := h.elim (fun z => .inl z.2) KL.up
theorem ZT.sq {c : RC} {M : Addr → Prop} {ρ : List Addr} {H : Hp} {a : Addr} {xs : List V} (h : ZT c M ρ H a xs) : SqT c.K H a xs := h.elim (fun z => .inl z.2) KT.up
inductive All2 {α β : Type} (R : α → β → Prop) : List α → List β → Prop
  | nil : All2 R [] []
  | cons {a b as bs} : R a b → All2 R as bs → All2 R (a :: as) (b :: bs)
theorem All2.imp {α β : Type} {R S : α → β → Prop} (h : ∀ a b, R a b → S a b) : ∀ {as : List α} {bs : List β}, All2 R as bs → All2 S as bs
  | _, _, .nil => .nil
  | _, _, .cons r t => .cons (h _ _ r) (All2.imp h t)
theorem All2.length {α β : Type} {R : α → β → Prop} : ∀ {as : List α} {bs : List β}, All2 R as bs → as.length = bs.length
  | _, _, .nil => rfl
  | _, _, .cons _ t => by simp [All2.length t]
theorem All2.append {α β : Type} {R : α → β → Prop} : ∀ {as as' : List α} {bs bs' : List β}, All2 R as bs → All2 R as' bs' → All2 R (as ++ as') (bs ++ bs')
  | _, _, _, _, .nil, s => s
  | _, _, _, _, .cons r t, s => .cons r (All2.append t s)
theorem All2.get {α β : Type} {R : α → β → Prop} : ∀ {as : List α} {bs : List β} {i : Nat} {a : α}, All2 R as bs → as[i]? = some a → ∃ b, bs[i]? = some b ∧ R a b
  | _, _, _, _, .nil, e => by simp at e
  | _, _, 0, _, .cons r _, e => by simp at e; subst e; exact ⟨_, rfl, r⟩
  | _, _, i + 1, a, .cons _ t, e => by
    obtain ⟨b, h1, h2⟩ := All2.get (i := i) (a := a) t (by simpa using e)
    exact ⟨b, by simpa using h1, h2⟩
theorem All2.set {α β : Type} {R : α → β → Prop} {a : α} {b : β} (r : R a b) : ∀ {as : List α} {bs : List β} (i : Nat), All2 R as bs → All2 R (as.set i a) (bs.set i b)
  | _, _, _, .nil => .nil
  | _, _, 0, .cons _ t => .cons r t
  | _, _, i + 1, .cons q t => .cons q (All2.set r i t)
/-- d stands for v, to the depth n -/
def RepN (c : RC) (M : Addr → Prop) (ρ : List Addr) (H : Hp) : Nat → D → V → Prop
  | _, .non, v => v = .non
  | _, .bl b, v => v = .bl b
  | _, .int i, v => v = .int i
  | _, .str x, v => v = .str x
  | _, .cls k, v => v = .ref (c.C k)
  | _, .ty k, v => v = .ty k
  | n + 1, .tup xs, v => ∃ a vs, v = .ref a ∧ ZT c M ρ H a vs ∧ All2 (RepN c M ρ H n) xs vs
  | n + 1, .lst xs, v => ∃ a vs, v = .ref a ∧ ZL c M ρ H a vs ∧ All2 (RepN c M ρ H n) xs vs
  | n + 1, .ins k fs, v => ∃ a dx gs, v = .ref a ∧ Zz c M ρ a ∧ H a = some (.ins (c.C k) dx gs) ∧ gs.map (·.1) = (c.N k).take gs.length ∧ All2 (fun (p : D) (q : Str × V) => RepN c M ρ H n p q.2) fs gs
  | 0, _, _ => False
theorem RepN.up {c : RC} {M : Addr → Prop} {ρ : List Addr} {H : Hp} : ∀ {n : Nat} {d : D} {v : V}, RepN c M ρ H n d v → RepN c M ρ H (n + 1) d v := by
  intro n
  induction n with
  | zero =>
    intro d v h
    cases d <;> first | exact h | (exact absurd h (by simp [RepN]))
  | succ n ih =>
    intro d v h
    cases d with
    | tup xs => obtain ⟨a, vs, e, z, r⟩ := h; exact ⟨a, vs, e, z, r.imp fun _ _ q => ih q⟩
    | lst xs => obtain ⟨a, vs, e, z, r⟩ := h; exact ⟨a, vs, e, z, r.imp fun _ _ q => ih q⟩
    | ins k fs => obtain ⟨a, dx, gs, e, z, e2, nm, r⟩ := h; exact ⟨a, dx, gs, e, z, e2, nm, r.imp fun _ _ q => ih q⟩
    | _ => exact h
theorem RepN.mono {c : RC} {M : Addr → Prop} {ρ : List Addr} {H : Hp} {n m : Nat} {d : D} {v : V} (h : RepN c M ρ H n d v) (hn : n ≤ m) : RepN c M ρ H m d v := by
  induction hn with
  | refl => exact h
  | step _ ih => exact ih.up
def Rep (c : RC) (M : Addr → Prop) (ρ : List Addr) (H : Hp) (d : D) (v : V) : Prop := ∃ n, RepN c M ρ H n d v
theorem reps_n {c : RC} {M : Addr → Prop} {ρ : List Addr} {H : Hp} : ∀ {xs : List D} {vs : List V}, All2 (Rep c M ρ H) xs vs → ∃ n, All2 (RepN c M ρ H n) xs vs
  | _, _, .nil => ⟨0, .nil⟩
  | _, _, .cons ⟨n, r⟩ t => by
    obtain ⟨m, q⟩ := reps_n t
    exact ⟨max n m, .cons (r.mono (Nat.le_max_left n m)) (q.imp fun _ _ z => z.mono (Nat.le_max_right n m))⟩
structure Flds (c : RC) (M : Addr → Prop) (ρ : List Addr) (H : Hp) (k : String) (fs : List D) (gs : List (Str × V)) : Prop where
  nm : gs.map (·.1) = (c.N k).take gs.length
  r : All2 (fun (p : D) (q : Str × V) => Rep c M ρ H p q.2) fs gs
theorem flds_n {c : RC} {M : Addr → Prop} {ρ : List Addr} {H : Hp} : ∀ {fs : List D} {gs : List (Str × V)}, All2 (fun (p : D) (q : Str × V) => Rep c M ρ H p q.2) fs gs → ∃ n, All2 (fun (p : D) (q : Str × V) => RepN c M ρ H n p q.2) fs gs
  | _, _, .nil => ⟨0, .nil⟩
  | _, _, .cons ⟨n, r⟩ t => by
    obtain ⟨m, q⟩ := flds_n t
    exact ⟨max n m, .cons (r.mono (Nat.le_max_left n m)) (q.imp fun _ _ z => z.mono (Nat.le_max_right n m))⟩
section
variable {c : RC} {M : Addr → Prop} {ρ : List Addr} {H : Hp} {v : V}
theorem Rep.non : Rep c M ρ H .non .non := ⟨0, rfl⟩
theorem Rep.bl {b} : Rep c M ρ H (.bl b) (.bl b) := ⟨0, rfl⟩
theorem Rep.int {b} : Rep c M ρ H (.int b) (.int b) := ⟨0, rfl⟩
theorem Rep.str {b} : Rep c M ρ H (.str b) (.str b) := ⟨0, rfl⟩
theorem Rep.ty {k} : Rep c M ρ H (.ty k) (.ty k) := ⟨0, rfl⟩
theorem Rep.of_ty {b} (h : Rep c M ρ H (.ty b) v) : v = .ty b := by obtain ⟨n, h⟩ := h; cases n <;> exact h
theorem Rep.cls {k} : Rep c M ρ H (.cls k) (.ref (c.C k)) := ⟨0, rfl⟩
theorem Rep.tup {xs a vs} (z : ZT c M ρ H a vs) (r : All2 (Rep c M ρ H) xs vs) : Rep c M ρ H (.tup xs) (.ref a) := let ⟨n, q⟩ := reps_n r; ⟨n + 1, a, vs, rfl, z, q⟩
theorem Rep.lst {xs a vs} (z : ZL c M ρ H a vs) (r : All2 (Rep c M ρ H) xs vs) : Rep c M ρ H (.lst xs) (.ref a) := let ⟨n, q⟩ := reps_n r; ⟨n + 1, a, vs, rfl, z, q⟩
theorem Rep.ins {k fs a dx gs} (z : Zz c M ρ a) (e : H a = some (.ins (c.C k) dx gs)) (r : Flds c M ρ H k fs gs) : Rep c M ρ H (.ins k fs) (.ref a) := let ⟨n, q⟩ := flds_n r.r; ⟨n + 1, a, dx, gs, rfl, z, e, r.nm, q⟩
theorem Rep.of_non (h : Rep c M ρ H .non v) : v = .non := by obtain ⟨n, h⟩ := h; cases n <;> exact h
theorem Rep.of_bl {b} (h : Rep c M ρ H (.bl b) v) : v = .bl b := by obtain ⟨n, h⟩ := h; cases n <;> exact h
theorem Rep.of_int {b} (h : Rep c M ρ H (.int b) v) : v = .int b := by obtain ⟨n, h⟩ := h; cases n <;> exact h
theorem Rep.of_str {b} (h : Rep c M ρ H (.str b) v) : v = .str b := by obtain ⟨n, h⟩ := h; cases n <;> exact h
theorem Rep.of_cls {b} (h : Rep c M ρ H (.cls b) v) : v = .ref (c.C b) := by obtain ⟨n, h⟩ := h; cases n <;> exact h
theorem Rep.of_tup {xs} (h : Rep c M ρ H (.tup xs) v) : ∃ a vs, v = .ref a ∧ ZT c M ρ H a vs ∧ All2 (Rep c M ρ H) xs vs := by
  obtain ⟨n, h⟩ := h
  cases n with
  | zero => exact h.elim
  | succ n => obtain ⟨a, vs, e, z, r⟩ := h; exact ⟨a, vs, e, z, r.imp fun _ _ q => ⟨n, q⟩⟩
theorem Rep.of_lst {xs} (h : Rep c M ρ H (.lst xs) v) : ∃ a vs, v = .ref a ∧ ZL c M ρ H a vs ∧ All2 (Rep c M ρ H) xs vs := by
  obtain ⟨n, h⟩ := h
  cases n with
  | zero => exact h.elim
  | succ n => obtain ⟨a, vs, e, z, r⟩ := h; exact ⟨a, vs, e, z, r.imp fun _ _ q => ⟨n, q⟩⟩
theorem Rep.of_ins {k fs} (h : Rep c M ρ H (.ins k fs) v) : ∃ a dx gs, v = .ref a ∧ Zz c M ρ a ∧ H a = some (.ins (c.C k) dx gs) ∧ Flds c M ρ H k fs gs := by
  obtain ⟨n, h⟩ := h
  cases n with
  | zero => exact h.elim
  | succ n => obtain ⟨a, dx, gs, e, z, e2, nm, r⟩ := h; exact ⟨a, dx, gs, e, z, e2, nm, r.imp fun _ _ q => ⟨n, q⟩⟩
end
/-- what an evaluation leaves: all that was tracked stands, but the store's objects and the frame's own -/
structure Gr (M : Addr → Prop) (ρ : List Addr) (H : Hp) (M' : Addr → Prop) (ρ' : List Addr) (H' : Hp) : Prop where
  keep : ∀ a o, H a = some o → a ∉ ρ → ¬ M a → H' a = some o
  there : ∀ a o, H a = some o → ∃ o', H' a = some o'
  grow : ∃ ext, ρ' = ρ ++ ext ∧ ∀ a ∈ ext, H a = none
  mine : ∀ a, M' a → M a ∨ H a = none
section
variable {M M1 M' : Addr → Prop} {ρ ρ1 ρ' : List Addr} {H H1 H' : Hp}
theorem Gr.refl : Gr M ρ H M ρ H := ⟨fun _ _ e _ _ => e, fun _ o e => ⟨o, e⟩, ⟨[], by simp, by simp⟩, fun _ h => .inl h⟩
theorem Gr.free (g : Gr M ρ H M' ρ' H') {a : Addr} (h : H' a = none) : H a = none := by
  cases e : H a with
  | none => rfl
  | some o => obtain ⟨o', q⟩ := g.there a o e; rw [h] at q; cases q
theorem Gr.trans (g : Gr M ρ H M1 ρ1 H1) (k : Gr M1 ρ1 H1 M' ρ' H') : Gr M ρ H M' ρ' H' := by
  obtain ⟨e1, h1, f1⟩ := g.grow
  obtain ⟨e2, h2, f2⟩ := k.grow
  refine ⟨fun a o e n m => ?_, fun a o e => ?_, ⟨e1 ++ e2, by rw [h2, h1, List.append_assoc], fun a ha => ?_⟩, fun a h => ?_⟩
  · refine k.keep a o (g.keep a o e n m) ?_ fun q => ?_
    · rw [h1]; intro z
      rcases List.mem_append.mp z with z | z
      · exact n z
      · rw [f1 a z] at e; cases e
    · rcases g.mine a q with q | q
      · exact m q
      · rw [q] at e; cases e
  · obtain ⟨o', q⟩ := g.there a o e
    exact k.there a o' q
  · rcases List.mem_append.mp ha with z | z
    · exact f1 a z
    · exact g.free (f2 a z)
  · rcases k.mine a h with q | q
    · exact g.mine a q
    · exact .inr (g.free q)
theorem Gr.same (s : Same H H') : Gr M ρ H M ρ H' := ⟨fun a o e _ _ => s a o e, fun a o e => ⟨o, s a o e⟩, ⟨[], by simp, by simp⟩, fun _ h => .inl h⟩
variable {c : RC} {a : Addr} {xs : List V} {u : HO}
theorem Zz.grow (h : Zz c M ρ a) (g : Gr M ρ H M' ρ' H') (e : H a ≠ none) : Zz c M' ρ' a := by
  obtain ⟨e1, h1, f1⟩ := g.grow
  refine ⟨h.1, fun q => ?_, ?_⟩
  · rcases g.mine a q with q | q
    · exact h.2.1 q
    · exact e q
  · rw [h1]; intro z
    rcases List.mem_append.mp z with z | z
    · exact h.2.2 z
    · exact e (f1 a z)
theorem rd_keep (r : Rd H a u) (g : Gr M ρ H M' ρ' H') (h : Zz c M ρ a) : Rd H' a u := by
  rcases r with r | ⟨o, r⟩
  · exact .inl (g.keep a _ r h.2.2 h.2.1)
  · exact .inr ⟨o, g.keep a _ r h.2.2 h.2.1⟩
theorem rd_ne {H : Hp} {a : Addr} {u : HO} (r : Rd H a u) : H a ≠ none := by
  rcases r with r | ⟨o, r⟩ <;> rw [r] <;> simp
theorem ZL.grow (h : ZL c M ρ H a xs) (g : Gr M ρ H M' ρ' H') : ZL c M' ρ' H' a xs := h.elim (fun z => .inl ⟨z.1.grow g (rd_ne z.2), rd_keep z.2 g z.1⟩) .inr
theorem ZT.grow (h : ZT c M ρ H a xs) (g : Gr M ρ H M' ρ' H') : ZT c M' ρ' H' a xs := h.elim (fun z => .inl ⟨z.1.grow g (rd_ne z.2), rd_keep z.2 g z.1⟩) .inr
theorem RepN.grow (g : Gr M ρ H M' ρ' H') : ∀ {n : Nat} {d : D} {v : V}, RepN c M ρ H n d v → RepN c M' ρ' H' n d v := by
  intro n
  induction n with
  | zero => intro d v h; cases d <;> exact h
  | succ n ih =>
    intro d v h
    cases d with
    | tup xs => obtain ⟨a, vs, e, z, r⟩ := h; exact ⟨a, vs, e, z.grow g, r.imp fun _ _ q => ih q⟩
    | lst xs => obtain ⟨a, vs, e, z, r⟩ := h; exact ⟨a, vs, e, z.grow g, r.imp fun _ _ q => ih q⟩
    | ins k fs => obtain ⟨a, dx, gs, e, z, e2, nm, r⟩ := h; exact ⟨a, dx, gs, e, z.grow g (by rw [e2]; simp), g.keep a _ e2 z.2.2 z.2.1, nm, r.imp fun _ _ q => ih q⟩
    | _ => exact h
theorem Rep.grow {d : D} {v : V} (h : Rep c M ρ H d v) (g : Gr M ρ H M' ρ' H') : Rep c M' ρ' H' d v := let ⟨n, q⟩ := h; ⟨n, q.grow g⟩
theorem reps_grow {ds : List D} {vs : List V} (h : All2 (Rep c M ρ H) ds vs) (g : Gr M ρ H M' ρ' H') : All2 (Rep c M' ρ' H') ds vs := h.imp fun _ _ r => r.grow g
theorem flds_grow {k : String} {fs : List D} {gs : List (Str × V)} (h : Flds c M ρ H k fs gs) (g : Gr M ρ H M' ρ' H') : Flds c M' ρ' H' k fs gs := ⟨h.nm, h.r.imp fun _ _ r => r.grow g⟩
end
/-! ### values of an evaluation, the store, the frame -/
def RepE (c : RC) (M : Addr → Prop) (ρ : List Addr) (H : Hp) : EV → V → Prop
  | .d x, v => Rep c M ρ H x v
  | .o i, v => ∃ a, ρ[i]? = some a ∧ v = .ref a
section
variable {c : RC} {M M1 M' : Addr → Prop} {ρ ρ1 ρ' : List Addr} {H H1 H' : Hp}
theorem RepE.grow {e : EV} {v : V} (h : RepE c M ρ H e v) (g : Gr M ρ H M' ρ' H') : RepE c M' ρ' H' e v := by
  cases e with
  | d x => exact Rep.grow h g
  | o i =>
    obtain ⟨a, h1, h2⟩ := h
    obtain ⟨ex, e1, _⟩ := g.grow
    exact ⟨a, by rw [e1, List.getElem?_append_left (List.getElem?_eq_some_iff.mp h1).1]; exact h1, h2⟩
theorem repEs_grow {es : List EV} {vs : List V} (h : All2 (RepE c M ρ H) es vs) (g : Gr M ρ H M' ρ' H') : All2 (RepE c M' ρ' H') es vs := h.imp fun _ _ r => r.grow g
end
/-- a table of code objects, where what it tells of is kept -/
theorem tabs_keep {P : Addr} {q : Str} {H H' : Hp} (t : LamX.TabS H P q) (e1 : ∀ ps, H P = some (.tbl ps) → H' P = some (.tbl ps)) (e2 : ∀ b, H b = some (LamX.CodeO b q) → H' b = some (LamX.CodeO b q)) : LamX.TabS H' P q := by
  obtain ⟨ps, h1, h2, h3⟩ := t
  refine ⟨ps, e1 ps h1, h2, fun pos cv hc => ?_⟩
  obtain ⟨b, f1, f2⟩ := h3 pos cv hc
  exact ⟨b, f1, e2 b f2⟩
/-- .. where one object that is no code and no table is written -/
theorem tabs_upd {P a : Addr} {q : Str} {H : Hp} {o u : HO} (t : LamX.TabS H P q) (h : H a = some o) (n1 : ∀ ps, o ≠ .tbl ps) (n2 : ∀ b, o ≠ LamX.CodeO b q) : LamX.TabS (upd H a u) P q :=
  tabs_keep t (fun ps e => by rw [upd_ne (fun z => n1 ps (by rw [z, h] at e; exact Option.some.inj e))]; exact e) fun b e => by rw [upd_ne (fun z => n2 b (Option.some.inj (h.symm.trans ((congrArg H z).symm.trans e))))]; exact e
theorem lst_code {xs : List V} {b : Addr} {q : Str} : HO.lst xs ≠ LamX.CodeO b q := fun z => by unfold LamX.CodeO at z; cases z
theorem ins_code {k y : Addr} {gs : List (Str × V)} {b : Addr} {q : Str} : HO.ins k y gs ≠ LamX.CodeO b q := fun z => by unfold LamX.CodeO at z; cases z
/-- the store stands at ρ -/
structure SR (c : RC) (M : Addr → Prop) (ρ : List Addr) (G : GS) (H : Hp) : Prop where
  len : ρ.length = G.length
  nd : ρ.Nodup
  sep : ∀ a ∈ ρ, ¬ c.B a ∧ ¬ M a
  at_ : ∀ (i : Nat) (xs : List EV), G[i]? = some (GO.lst xs) → ∃ a vs, ρ[i]? = some a ∧ H a = some (.lst vs) ∧ All2 (RepE c M ρ H) xs vs
  /-- the classes are written, what is the callers' or the frame's own is tracked -/
  mt : ∀ a, M a → H a ≠ none
  bt : ∀ a, c.B a → H a ≠ none
  tb : ∀ (i : Nat) (k : String), G[i]? = some (GO.tb k) → ρ[i]? = some (c.C k) ∧ LamX.TabS H (c.C k) (k : Str)
/-- the dict of an error, or none -/
def XA (H : Hp) : Option Addr → List (Str × V) → Prop
  | some d, gs => H d = some (.xd gs)
  | none, gs => gs = []
/-- the error that is handled -/
def XnR (c : RC) (M : Addr → Prop) (ρ : List Addr) (H : Hp) (k : String) (fs : List D) : Prop := (¬ M c.x ∧ c.x ∉ ρ) ∧ ∃ gs, H c.x = some (.xd gs) ∧ Flds c M ρ H k fs gs
theorem XnR.grow {c : RC} {M M' : Addr → Prop} {ρ ρ' : List Addr} {H H' : Hp} {k : String} {fs : List D} (h : XnR c M ρ H k fs) (g : Gr M ρ H M' ρ' H') : XnR c M' ρ' H' k fs := by
  obtain ⟨⟨hm, hr⟩, gs, e, f⟩ := h
  obtain ⟨e1, h1, f1⟩ := g.grow
  refine ⟨⟨fun q => ?_, ?_⟩, gs, g.keep _ _ e hr hm, flds_grow f g⟩
  · rcases g.mine _ q with q | q
    · exact hm q
    · rw [e] at q; cases q
  · rw [h1]; intro z
    rcases List.mem_append.mp z with z | z
    · exact hr z
    · rw [f1 _ z] at e; cases e
/-- a slot -/
def SlR (c : RC) (M : Addr → Prop) (ρ : List Addr) (H : Hp) (oa : Nat → Addr) (σ : L2.St) (i : Nat) : Sl → Prop
  | .no => True
  | .ev e => ∃ v, σ[i]? = some (some v) ∧ RepE c M ρ H e v
  | .own (.lst xs) => σ[i]? = some (some (.ref (oa i))) ∧ (M (oa i) ∧ ¬ c.B (oa i)) ∧ ∃ vs, H (oa i) = some (.lst vs) ∧ All2 (Rep c M ρ H) xs vs
  | .own (.ins k fs) => σ[i]? = some (some (.ref c.s)) ∧ oa i = c.s ∧ M c.s ∧ ∃ dx gs, H c.s = some (.ins (c.C k) dx gs) ∧ Flds c M ρ H k fs gs
  | .exn k fs => σ[i]? = some (some (.ref c.s)) ∧ XnR c M ρ H k fs
structure Rl (c : RC) (M : Addr → Prop) (ρ : List Addr) (G : GS) (env : En) (σ : L2.St) (H : Hp) : Prop where
  s : SR c M ρ G H
  len : env.length ≤ σ.length
  e : ∃ oa : Nat → Addr, (∀ (i : Nat) (sl : Sl), env[i]? = some sl → SlR c M ρ H oa σ i sl) ∧ ∀ (i j : Nat) (o u : OW), env[i]? = some (.own o) → env[j]? = some (.own u) → oa i = oa j → i = j
section
variable {c : RC} {M M1 M' : Addr → Prop} {ρ ρ1 ρ' : List Addr} {H H1 H' : Hp} {G G' : GS} {env : En} {σ : L2.St}
/-- behind an evaluation that touches nothing of the frame's own -/
structure Ge (M : Addr → Prop) (ρ : List Addr) (H : Hp) (ρ' : List Addr) (H' : Hp) : Prop where
  keep : ∀ a o, H a = some o → a ∉ ρ → H' a = some o
  there : ∀ a o, H a = some o → ∃ o', H' a = some o'
  grow : ∃ ext, ρ' = ρ ++ ext ∧ ∀ a ∈ ext, H a = none
theorem Ge.gr (g : Ge M ρ H ρ' H') : Gr M ρ H M ρ' H' := ⟨fun a o e n _ => g.keep a o e n, g.there, g.grow, fun _ h => .inl h⟩
theorem Ge.refl : Ge M ρ H ρ H := ⟨fun _ _ e _ => e, fun _ o e => ⟨o, e⟩, ⟨[], by simp, by simp⟩⟩
theorem Ge.same (s : Same H H') : Ge M ρ H ρ H' := ⟨fun a o e _ => s a o e, fun a o e => ⟨o, s a o e⟩, ⟨[], by simp, by simp⟩⟩
theorem Ge.trans (g : Ge M ρ H ρ1 H1) (k : Ge M ρ1 H1 ρ' H') : Ge M ρ H ρ' H' := by
  have z := g.gr.trans k.gr
  obtain ⟨e1, h1, f1⟩ := g.grow
  refine ⟨fun a o e n => k.keep a o (g.keep a o e n) ?_, z.there, z.grow⟩
  rw [h1]; intro q
  rcases List.mem_append.mp q with q | q
  · exact n q
  · rw [f1 a q] at e; cases e
theorem Rl.ge (r : Rl c M ρ G env σ H) (g : Ge M ρ H ρ' H') (s : SR c M ρ' G' H') : Rl c M ρ' G' env σ H' := by
  obtain ⟨oa, h1, h2⟩ := r.e
  refine ⟨s, r.len, oa, fun i sl e => ?_, h2⟩
  have h := h1 i sl e
  have nr : ∀ a, M a → a ∉ ρ := fun a hm hr => (r.s.sep a hr).2 hm
  match sl, h with
  | .no, _ => trivial
  | .ev e, ⟨v, a, b⟩ => exact ⟨v, a, b.grow g.gr⟩
  | .own (.lst xs), ⟨a, b, vs, d, f⟩ => exact ⟨a, b, vs, g.keep _ _ d (nr _ b.1), reps_grow f g.gr⟩
  | .own (.ins k fs), ⟨a, o, b, dx, gs, d, f⟩ => exact ⟨a, o, b, dx, gs, g.keep _ _ d (nr _ b), flds_grow f g.gr⟩
  | .exn k fs, ⟨a, b⟩ => exact ⟨a, b.grow g.gr⟩
/-- the store behind what leaves it alone -/
theorem same_ne (h : Same H H') {a : Addr} (m : H a ≠ none) : H' a ≠ none := fun z => by
  cases e : H a with
  | none => exact m e
  | some o => rw [h a o e] at z; cases z
theorem SR.same (s : SR c M ρ G H) (h : Same H H') : SR c M ρ G H' :=
  ⟨s.len, s.nd, s.sep, fun i xs e => let ⟨a, vs, p, q, r⟩ := s.at_ i xs e; ⟨a, vs, p, h _ _ q, repEs_grow r (Gr.same h)⟩, fun a m => same_ne h (s.mt a m), fun a m => same_ne h (s.bt a m), fun i k e => let ⟨p, t⟩ := s.tb i k e; ⟨p, t.ext h⟩⟩
theorem Rl.same (r : Rl c M ρ G env σ H) (h : Same H H') : Rl c M ρ G env σ H' := r.ge (Ge.same h) (r.s.same h)
/-- a new address may be read for ever -/
theorem SR.fresh (s : SR c M ρ G H) {a : Addr} (h : H a = none) : Zz c M ρ a := by
  refine ⟨fun z => s.bt a z h, fun z => s.mt a z h, fun z => ?_⟩
  obtain ⟨i, e⟩ := List.getElem?_of_mem z
  have hi : i < G.length := by rw [← s.len]; exact (List.getElem?_eq_some_iff.mp e).1
  have hg : G[i]? = some G[i] := List.getElem?_eq_getElem hi
  cases q : G[i] with
  | lst xs =>
    rw [q] at hg
    obtain ⟨b, vs, p, hb, _⟩ := s.at_ i xs hg
    rw [e] at p; cases p
    rw [h] at hb; cases hb
  | tb k =>
    rw [q] at hg
    obtain ⟨p, ps, hb, _⟩ := s.tb i k hg
    rw [e] at p; cases p
    rw [h] at hb; cases hb
theorem same_upd {H : Hp} {p : Addr} {o : HO} (h : H p = none) : Same H (upd H p o) := fun b u e => by rw [upd_ne (ne_of_none e h)]; exact e
end
end DL
set_option Elab.async false
set_option linter.all false
set_option maxRecDepth 100000
set_option maxHeartbeats 4000000
namespace DL
open PySem L2 PyProof.Rows
/-- what is wanted of an outcome, at ρ and H -/
def TQ {α β : Type} (R : (Addr → Prop) → List Addr → Hp → α → β → Prop) (c : RC) (W : WX) (M : Addr → Prop) (ρ : List Addr) (σ : L2.St) (H : Hp) (o : Out α) (Q : β → Hp → Prop) : Prop := match o with
  | .ok e G' => ∀ v ρ' H', Ge M ρ H ρ' H' → SR c M ρ' G' H' → R M ρ' H' e v → Q v H'
  | .er cl fs G' => ∀ dd gs ρ' H', Ge M ρ H ρ' H' → SR c M ρ' G' H' → XA H' dd gs → Flds c M ρ' H' cl fs gs → W (.ref (c.C cl)) dd σ H'
  | .st => False
section
variable {α α' β β' : Type} {R : (Addr → Prop) → List Addr → Hp → α → β → Prop} {R' : (Addr → Prop) → List Addr → Hp → α' → β' → Prop} {c : RC} {W : WX} {M : Addr → Prop} {ρ ρ' : List Addr} {σ : L2.St} {H H' : Hp} {o : Out α} {Q Q2 : β → Hp → Prop}
theorem TQ.grow (h : TQ R c W M ρ σ H o Q) (g : Ge M ρ H ρ' H') : TQ R c W M ρ' σ H' o Q := by
  cases o with
  | ok e G => exact fun v ρ2 H2 g2 s r => h v ρ2 H2 (g.trans g2) s r
  | er cl fs G => exact fun dd gs ρ2 H2 g2 s r z => h dd gs ρ2 H2 (g.trans g2) s r z
  | st => exact h
theorem TQ.imp (h : TQ R c W M ρ σ H o Q) (k : ∀ v H', Q v H' → Q2 v H') : TQ R c W M ρ σ H o Q2 := by
  cases o with
  | ok e G => exact fun v ρ2 H2 g2 s r => k _ _ (h v ρ2 H2 g2 s r)
  | er cl fs G => exact h
  | st => exact h
theorem TQ.bind {f : α → GS → Out α'} {Q' : β' → Hp → Prop} (h : TQ R' c W M ρ σ H (o.bind f) Q') :
    TQ R c W M ρ σ H o (fun v H1 => ∃ ρ1 G1 e, Ge M ρ H ρ1 H1 ∧ SR c M ρ1 G1 H1 ∧ R M ρ1 H1 e v ∧ TQ R' c W M ρ1 σ H1 (f e G1) Q') := by
  cases o with
  | ok e G => exact fun v ρ1 H1 g s r => ⟨ρ1, G, e, g, s, r, TQ.grow h g⟩
  | er cl fs G => exact h
  | st => exact h
theorem TQ.ok {e : α} {G : GS} {v : β} (h : TQ R c W M ρ σ H (.ok e G) Q) (s : SR c M ρ G H) (r : R M ρ H e v) : Q v H := h v ρ H Ge.refl s r
theorem TQ.okS {e : α} {G : GS} {v : β} (h : TQ R c W M ρ σ H (.ok e G) Q) (s : SR c M ρ G H) (g : Same H H') (r : R M ρ H' e v) : Q v H' := h v ρ H' (Ge.same g) (s.same g) r
end
abbrev RE (c : RC) : (Addr → Prop) → List Addr → Hp → EV → V → Prop := RepE c
abbrev RA (c : RC) : (Addr → Prop) → List Addr → Hp → List EV → List V → Prop := fun M ρ H es vs => All2 (RepE c M ρ H) es vs
abbrev RB : (Addr → Prop) → List Addr → Hp → Bool → Bool → Prop := fun _ _ _ a b => a = b
abbrev BM := En → GS → Out Bool
abbrev AM := En → GS → Out (List EV)
def tD (c : RC) (W : WX) (m : EM) : TE := fun σ H Q => ∃ M ρ G env, Rl c M ρ G env σ H ∧ TQ (RE c) c W M ρ σ H (m env G) Q
def tDA (c : RC) (W : WX) (m : AM) : TA := fun σ H Q => ∃ M ρ G env, Rl c M ρ G env σ H ∧ TQ (RA c) c W M ρ σ H (m env G) Q
def tDB (c : RC) (W : WX) (m : BM) : TT := fun σ H Q => ∃ M ρ G env, Rl c M ρ G env σ H ∧ TQ RB c W M ρ σ H (m env G) Q
def DE (X : Cx) (c : RC) (W : WX) (e : Expr) (m : EM) : Prop := PE X e (tD c W m)
def DA (X : Cx) (c : RC) (W : WX) (es : List Expr) (m : AM) : Prop := PA X es (tDA c W m)
def DB (X : Cx) (c : RC) (W : WX) (e : Expr) (m : BM) : Prop := PT X e (tDB c W m)
def DW (X : Cx) (c : RC) (W : WX) (e : Expr) (m : BM) : Prop := PW X e (tDB c W m)
theorem pe_imp {X : Cx} {e : Expr} {t t' : TE} (h : PE X e t) (k : ∀ σ H Q, t' σ H Q → t σ H Q) : PE X e t' := ⟨fun pins s σ H Q I q => h.run pins s σ H Q I (k σ H Q q)⟩
theorem pa_imp {X : Cx} {e : List Expr} {t t' : TA} (h : PA X e t) (k : ∀ σ H Q, t' σ H Q → t σ H Q) : PA X e t' := ⟨fun pos pins s σ H Q I q => h.run pos pins s σ H Q I (k σ H Q q)⟩
theorem pt_imp {X : Cx} {e : Expr} {t t' : TT} (h : PT X e t) (k : ∀ σ H Q, t' σ H Q → t σ H Q) : PT X e t' := ⟨fun pins s σ H Q I q => h.run pins s σ H Q I (k σ H Q q)⟩
theorem pw_imp {X : Cx} {e : Expr} {t t' : TT} (h : PW X e t) (k : ∀ σ H Q, t' σ H Q → t σ H Q) : PW X e t' := ⟨fun wh pins s σ H Q I q => h.run wh pins s σ H Q I (k σ H Q q)⟩
/-! ### the meanings -/
def eVar (i : Nat) : EM := fun env G => match env[i]? with
  | some (.ev e) => .ok e G
  | _ => .st
def eC (x : D) : EM := fun _ G => .ok (.d x) G
/-- two values and a rule that raises nothing -/
abbrev F2 := EV → EV → GS → Option (EV × GS)
abbrev F1 := EV → GS → Option (EV × GS)
abbrev FN := List EV → GS → Option (EV × GS)
def lift {α : Type} : Option (α × GS) → Out α
  | some (e, G) => .ok e G
  | none => .st
def eOp (f : F2) (a b : EM) : EM := fun env G => (a env G).bind fun x G1 => (b env G1).bind fun y G2 => lift (f x y G2)
def eUn (f : F1) (a : EM) : EM := fun env G => (a env G).bind fun x G1 => lift (f x G1)
def aNil : AM := fun _ G => .ok [] G
def aCons (a : EM) (r : AM) : AM := fun env G => (a env G).bind fun x G1 => (r env G1).bind fun xs G2 => .ok (x :: xs) G2
def eFN (f : FN) (r : AM) : EM := fun env G => (r env G).bind fun xs G1 => lift (f xs G1)
/-- on plain data alone -/
def pure2 (g : D → D → Option D) : F2 := fun x y G => match x, y with
  | .d a, .d b => (g a b).map fun z => (.d z, G)
  | _, _ => none
def pure1 (g : D → Option D) : F1 := fun x G => match x with
  | .d a => (g a).map fun z => (.d z, G)
  | _ => none
def datas : List EV → Option (List D)
  | [] => some []
  | .d x :: r => (datas r).map (x :: ·)
  | _ :: _ => none
def pureN (g : List D → Option D) : FN := fun xs G => (datas xs).bind fun ds => (g ds).map fun z => (.d z, G)
/-! ### rules by values -/
/-- what a rule that raises nothing asks -/
def VQ (c : RC) (M : Addr → Prop) (ρ : List Addr) (H : Hp) (o : Option (EV × GS)) (Q : VK) : Prop := match o with
  | some (e, G') => ∀ v ρ' H', Ge M ρ H ρ' H' → SR c M ρ' G' H' → RepE c M ρ' H' e v → Q v H'
  | none => False
def V2 (c : RC) (f : F2) : R2 := fun x y H Q => ∃ M ρ G a b, SR c M ρ G H ∧ RepE c M ρ H a x ∧ RepE c M ρ H b y ∧ VQ c M ρ H (f a b G) Q
def V1 (c : RC) (f : F1) : V → Hp → VK → Prop := fun x H Q => ∃ M ρ G a, SR c M ρ G H ∧ RepE c M ρ H a x ∧ VQ c M ρ H (f a G) Q
def VN (c : RC) (f : FN) : List V → Hp → VK → Prop := fun xs H Q => ∃ M ρ G es, SR c M ρ G H ∧ All2 (RepE c M ρ H) es xs ∧ VQ c M ρ H (f es G) Q
section
variable {X : Cx} {c : RC} {W : WX} {e a b : Expr} {es : List Expr} {ma mb : EM} {mr : AM} {pos : Pos} {M : Addr → Prop} {ρ : List Addr} {σ : L2.St} {H : Hp}
theorem VQ.of {o : Option (EV × GS)} {Q : VK} (h : TQ (RE c) c W M ρ σ H (lift o) Q) : VQ c M ρ H o Q := by
  cases o with
  | none => exact h
  | some p => exact h
theorem de_var {i : Nat} {x : Str} (h : PE X (.Name x pos) (tVar i)) : DE X c W (.Name x pos) (eVar i) := by
  refine pe_imp h fun σ H Q q => ?_
  obtain ⟨M, ρ, G, env, R, q⟩ := q
  unfold eVar at q
  obtain ⟨oa, h1, _⟩ := R.e
  split at q
  · rename_i e he
    obtain ⟨v, hv, r⟩ := h1 i _ he
    exact ⟨v, hv, q.ok R.s r⟩
  · exact q.elim
theorem de_c {x : D} {v : V} (h : PE X e (tC v)) (r : ∀ M ρ H, Rep c M ρ H x v) : DE X c W e (eC x) := by
  refine pe_imp h fun σ H Q q => ?_
  obtain ⟨M, ρ, G, env, R, q⟩ := q
  exact q.ok R.s (r M ρ H)
theorem de_int {i j} : DE X c W (.Constant (.int i) j pos) (eC (.int i)) := de_c pe_int fun _ _ _ => .int
theorem de_bl {i j} : DE X c W (.Constant (.bool i) j pos) (eC (.bl i)) := de_c pe_bl fun _ _ _ => .bl
theorem de_non {j} : DE X c W (.Constant .none j pos) (eC .non) := de_c pe_non fun _ _ _ => .non
theorem de_str {i j} : DE X c W (.Constant (.str i) j pos) (eC (.str i)) := de_c pe_str fun _ _ _ => .str
theorem de_op {op : Operator} {f : F2} (ho : OpR X (binaryOp op) (V2 c f)) (ha : DE X c W a ma) (hb : DE X c W b mb) : DE X c W (.BinOp a op b pos) (eOp f ma mb) := by
  refine pe_imp (pe_op ho ha hb) fun σ H Q q => ?_
  obtain ⟨M, ρ, G, env, R, q⟩ := q
  refine ⟨M, ρ, G, env, R, (TQ.bind (R := RE c) q).imp fun v H1 ⟨ρ1, G1, e1, g1, s1, r1, q1⟩ => ?_⟩
  refine ⟨M, ρ1, G1, env, R.ge g1 s1, (TQ.bind (R := RE c) q1).imp fun u H2 ⟨ρ2, G2, e2, g2, s2, r2, q2⟩ => ?_⟩
  exact ⟨M, ρ2, G2, e1, e2, s2, r1.grow g2.gr, r2, VQ.of q2⟩
theorem de_cmp {op : CmpOp} {f : F2} (ho : OpR X (compareOp op) (V2 c f)) (ha : DE X c W a ma) (hb : DE X c W b mb) (hm : behindInMarks op b = false) : DE X c W (.Compare a [op] [b] pos) (eOp f ma mb) := by
  refine pe_imp (pe_cmpR ho ha hb hm) fun σ H Q q => ?_
  obtain ⟨M, ρ, G, env, R, q⟩ := q
  refine ⟨M, ρ, G, env, R, (TQ.bind (R := RE c) q).imp fun v H1 ⟨ρ1, G1, e1, g1, s1, r1, q1⟩ => ?_⟩
  refine ⟨M, ρ1, G1, env, R.ge g1 s1, (TQ.bind (R := RE c) q1).imp fun u H2 ⟨ρ2, G2, e2, g2, s2, r2, q2⟩ => ?_⟩
  exact ⟨M, ρ2, G2, e1, e2, s2, r1.grow g2.gr, r2, VQ.of q2⟩
theorem da_nil : DA X c W [] aNil := pa_imp pa_nil fun σ H Q ⟨M, ρ, G, env, R, q⟩ => q.ok R.s .nil
theorem da_cons (ha : DE X c W e ma) (hr : DA X c W es mr) (hs : starEach (e :: es) X.env = (false, eval e X.env) :: starEach es X.env := by rfl) : DA X c W (e :: es) (aCons ma mr) := by
  refine pa_imp (pa_cons ha hr hs) fun σ H Q q => ?_
  obtain ⟨M, ρ, G, env, R, q⟩ := q
  refine ⟨M, ρ, G, env, R, (TQ.bind (R := RE c) q).imp fun v H1 ⟨ρ1, G1, e1, g1, s1, r1, q1⟩ => ?_⟩
  refine ⟨M, ρ1, G1, env, R.ge g1 s1, (TQ.bind (R := RA c) q1).imp fun u H2 ⟨ρ2, G2, e2, g2, s2, r2, q2⟩ => ?_⟩
  exact q2.ok s2 (.cons (r1.grow g2.gr) r2)
/-- a call of a built-in by its name -/
theorem de_callB {x : Str} {p : Pos} {id : String} {f : FN} (hc : CallR X (.builtin id) (VN c f)) (hg : Gl X x) (hm : X.mg x = none) (hv : bootBuiltins x = some (.builtin id)) (ha : DA X c W (e :: es) mr) (hn : x ≠ "__name__" := by decide) (hdb : (x == ("__debug__" : Str)) = false := by decide)
    (he : starEach (e :: es) X.env = (false, eval e X.env) :: starEach es X.env := by rfl) (hpl : (backTo pos (starEach es X.env)).any (·.1) = false := by rfl) : DE X c W (.Call (.Name x p) (e :: es) [] pos) (eFN f mr) := by
  refine pe_imp (pe_callB hc hg hm hv ha hn hdb he hpl) fun σ H Q q => ?_
  obtain ⟨M, ρ, G, env, R, q⟩ := q
  refine ⟨M, ρ, G, env, R, (TQ.bind (R := RA c) q).imp fun v H1 ⟨ρ1, G1, e1, g1, s1, r1, q1⟩ => ?_⟩
  exact ⟨M, ρ1, G1, e1, s1, r1, VQ.of q1⟩
theorem de_callT {x : Str} {p : Pos} {T : String} {f : FN} (hc : CallR X (.type T) (VN c f)) (hg : Gl X x) (hm : X.mg x = none) (hv : bootBuiltins x = some (.type T)) (ha : DA X c W (e :: es) mr) (hn : x ≠ "__name__" := by decide) (hdb : (x == ("__debug__" : Str)) = false := by decide)
    (he : starEach (e :: es) X.env = (false, eval e X.env) :: starEach es X.env := by rfl) (hpl : (backTo pos (starEach es X.env)).any (·.1) = false := by rfl) : DE X c W (.Call (.Name x p) (e :: es) [] pos) (eFN f mr) := by
  refine pe_imp (pe_callTy hc hg hm hv ha hn hdb he hpl) fun σ H Q q => ?_
  obtain ⟨M, ρ, G, env, R, q⟩ := q
  refine ⟨M, ρ, G, env, R, (TQ.bind (R := RA c) q).imp fun v H1 ⟨ρ1, G1, e1, g1, s1, r1, q1⟩ => ?_⟩
  exact ⟨M, ρ1, G1, e1, s1, r1, VQ.of q1⟩
end
end DL
set_option Elab.async false
set_option linter.all false
set_option maxRecDepth 100000
set_option maxHeartbeats 4000000
namespace DL
open PySem L2 PyProof.Rows
/-! ### tests -/
/-- truth of plain data -/
def tru : D → Option Bool
  | .non => some false
  | .bl b => some b
  | .int i => some (i != 0)
  | .str x => if x.length ≤ 1000000 then some (x.length != 0) else none
  | .lst xs => some (!xs.isEmpty)
  | .tup xs => some (!xs.isEmpty)
  | _ => none
def bOf (f : EV → GS → Option (Bool × GS)) (m : EM) : BM := fun env G => (m env G).bind fun e G1 => lift (f e G1)
def truE : EV → GS → Option (Bool × GS) := fun e G => match e with
  | .d x => (tru x).map (·, G)
  | _ => none
def isB : EV → GS → Option (Bool × GS) := fun e G => match e with
  | .d (.bl b) => some (b, G)
  | _ => none
def bAnd (a b : BM) : BM := fun env G => (a env G).bind fun k G1 => if k = true then b env G1 else .ok false G1
def bOr (a b : BM) : BM := fun env G => (a env G).bind fun k G1 => if k = true then .ok true G1 else b env G1
def bNot (a : BM) : BM := fun env G => (a env G).bind fun k G1 => .ok (!k) G1
def eAnd (a b : EM) : EM := fun env G => (a env G).bind fun x G1 => match x with
  | .d (.bl true) => b env G1
  | .d (.bl false) => .ok (.d (.bl false)) G1
  | _ => .st
def eOr (a b : EM) : EM := fun env G => (a env G).bind fun x G1 => match x with
  | .d (.bl true) => .ok (.d (.bl true)) G1
  | .d (.bl false) => b env G1
  | _ => .st
def eNot (a : EM) : EM := fun env G => (a env G).bind fun x G1 => match x with
  | .d (.bl k) => .ok (.d (.bl (!k))) G1
  | _ => .st
def eIf (t : BM) (a b : EM) : EM := fun env G => (t env G).bind fun k G1 => if k = true then a env G1 else b env G1
section
variable {X : Cx} {c : RC} {W : WX} {e a b t : Expr} {rest : List Expr} {ma mb : EM} {ta tb : BM} {pos : Pos} {M : Addr → Prop} {ρ : List Addr} {σ : L2.St} {H : Hp}
theorem all2_isEmpty {α β : Type} {R : α → β → Prop} {xs : List α} {ys : List β} (h : All2 R xs ys) : xs.isEmpty = ys.isEmpty := by cases h <;> rfl
theorem tru_of {K : PySem.W.Frag} {x : D} {v : V} {k : Bool} (r : Rep c M ρ H x v) (h : tru x = some k) (hK : c.K = K) : TruV K v H k := by
  cases x with
  | non => cases r.of_non; injection h with h; exact h.symm
  | bl b => cases r.of_bl; injection h with h; exact h.symm
  | int i => cases r.of_int; injection h with h; exact h.symm
  | str z =>
    cases r.of_str
    dsimp only [tru] at h
    split at h
    · rename_i hz
      injection h with h
      refine ⟨Nat.le_trans hz (by decide), ?_⟩
      rw [← h]
      generalize z.length = n
      rcases n with _ | n
      · rfl
      · rfl
    · cases h
  | tup xs => obtain ⟨a, vs, rfl, z, q⟩ := r.of_tup; injection h with h; subst hK; exact .inr (.inl ⟨vs, z.sq, by rw [← h, all2_isEmpty q]⟩)
  | lst xs => obtain ⟨a, vs, rfl, z, q⟩ := r.of_lst; injection h with h; subst hK; exact .inl ⟨vs, z.sq, by rw [← h, all2_isEmpty q]⟩
  | ins k fs => cases h
  | cls k => cases h
  | ty k => cases h
theorem db_tru (hK : c.K = X.K) (ha : DE X c W a ma) (he : ∀ whole, isTrue a X.env whole = (do let v ← whole; standAt a.pos; holding [v] (truthy v)) := by intro _; rfl) : DB X c W a (bOf truE ma) := by
  refine pt_imp (pt_truth ha he) fun σ H Q q => ?_
  obtain ⟨M, ρ, G, env, R, q⟩ := q
  refine ⟨M, ρ, G, env, R, (TQ.bind (R := RE c) q).imp fun v H1 ⟨ρ1, G1, e1, g1, s1, r1, q1⟩ => ?_⟩
  cases e1 with
  | o i => exact q1.elim
  | d x =>
    dsimp only [truE] at q1
    cases hx : tru x with
    | none => rw [hx] at q1; exact q1.elim
    | some k => rw [hx] at q1; exact ⟨k, tru_of r1 hx hK, q1.ok s1 rfl⟩
theorem bl_of {e1 : EV} {v : V} {G1 : GS} {Q : Bool → Hp → Prop} (s1 : SR c M ρ G1 H) (r1 : RepE c M ρ H e1 v) (q1 : TQ RB c W M ρ σ H (lift (isB e1 G1)) Q) : ∃ k, v = .bl k ∧ Q k H := by
  unfold isB at q1
  split at q1
  · rename_i b
    exact ⟨b, Rep.of_bl r1, q1.ok s1 rfl⟩
  · exact q1.elim
theorem db_cmp {op : CmpOp} {f : F2} (ho : OpR X (compareOp op) (V2 c f)) (ha : DE X c W a ma) (hb : DE X c W b mb) (hm : behindInMarks op b = false) : DB X c W (.Compare a [op] [b] pos) (bOf isB (eOp f ma mb)) := by
  refine pt_imp (pt_cmpR ho ha hb hm) fun σ H Q q => ?_
  obtain ⟨M, ρ, G, env, R, q⟩ := q
  refine ⟨M, ρ, G, env, R, ?_⟩
  have q' := TQ.bind (R := RE c) q
  refine (TQ.bind (R := RE c) q').imp fun v H1 ⟨ρ1, G1, e1, g1, s1, r1, q1⟩ => ?_
  refine ⟨M, ρ1, G1, env, R.ge g1 s1, (TQ.bind (R := RE c) q1).imp fun u H2 ⟨ρ2, G2, e2, g2, s2, r2, q2⟩ => ?_⟩
  refine ⟨M, ρ2, G2, e1, e2, s2, r1.grow g2.gr, r2, ?_⟩
  cases hf : f e1 e2 G2 with
  | none => rw [hf] at q2; exact q2.elim
  | some p =>
    rw [hf] at q2
    intro z ρ3 H3 g3 s3 r3
    obtain ⟨ρ4, G4, e4, g4, s4, r4, q4⟩ := q2 z ρ3 H3 g3 s3 r3
    exact bl_of s4 r4 q4
theorem dw_and1 (h : DB X c W a ta) : DW X c W (.BoolOp .And [a] pos) ta := pw_and1 h
theorem dw_or1 (h : DB X c W a ta) : DW X c W (.BoolOp .Or [a] pos) ta := pw_or1 h
theorem DW.db (h : DW X c W e ta) : DB X c W e ta := PW.pt h
theorem dw_and (h : DB X c W a ta) (k : DW X c W (.BoolOp .And (b :: rest) pos) tb) : DW X c W (.BoolOp .And (a :: b :: rest) pos) (bAnd ta tb) := by
  refine pw_imp (pw_and h k) fun σ H Q q => ?_
  obtain ⟨M, ρ, G, env, R, q⟩ := q
  refine ⟨M, ρ, G, env, R, (TQ.bind (R := RB) q).imp fun v H1 ⟨ρ1, G1, e1, g1, s1, r1, q1⟩ => ?_⟩
  obtain rfl : v = e1 := Eq.symm r1
  cases v with
  | true => exact ⟨M, ρ1, G1, env, R.ge g1 s1, q1⟩
  | false => exact q1.ok s1 rfl
theorem dw_or (h : DB X c W a ta) (k : DW X c W (.BoolOp .Or (b :: rest) pos) tb) : DW X c W (.BoolOp .Or (a :: b :: rest) pos) (bOr ta tb) := by
  refine pw_imp (pw_or h k) fun σ H Q q => ?_
  obtain ⟨M, ρ, G, env, R, q⟩ := q
  refine ⟨M, ρ, G, env, R, (TQ.bind (R := RB) q).imp fun v H1 ⟨ρ1, G1, e1, g1, s1, r1, q1⟩ => ?_⟩
  obtain rfl : v = e1 := Eq.symm r1
  cases v with
  | true => exact q1.ok s1 rfl
  | false => exact ⟨M, ρ1, G1, env, R.ge g1 s1, q1⟩
theorem db_not (h : DB X c W a ta) : DB X c W (.UnaryOp .Not a pos) (bNot ta) := by
  refine pt_imp (pt_not h) fun σ H Q q => ?_
  obtain ⟨M, ρ, G, env, R, q⟩ := q
  refine ⟨M, ρ, G, env, R, (TQ.bind (R := RB) q).imp fun v H1 ⟨ρ1, G1, e1, g1, s1, r1, q1⟩ => ?_⟩
  obtain rfl : v = e1 := Eq.symm r1
  exact q1.ok s1 rfl
theorem de_one {op} (h : DE X c W a ma) : DE X c W (.BoolOp op [a] pos) ma := pe_one h
theorem de_and (h : DE X c W a ma) (k : DE X c W (.BoolOp .And (b :: rest) pos) mb) : DE X c W (.BoolOp .And (a :: b :: rest) pos) (eAnd ma mb) := by
  refine pe_imp (pe_and h k) fun σ H Q q => ?_
  obtain ⟨M, ρ, G, env, R, q⟩ := q
  refine ⟨M, ρ, G, env, R, (TQ.bind (R := RE c) q).imp fun v H1 ⟨ρ1, G1, e1, g1, s1, r1, q1⟩ => ?_⟩
  split at q1
  · exact ⟨true, Rep.of_bl r1, M, ρ1, G1, env, R.ge g1 s1, q1⟩
  · exact ⟨false, Rep.of_bl r1, q1.ok s1 Rep.bl⟩
  · exact q1.elim
end
/-! ### statements -/
inductive OutS where
  | nx (env : En) (G : GS) | rt (e : EV) (G : GS) | bk (env : En) (G : GS) | ct (env : En) (G : GS)
  | er (c : String) (fs : List D) (env : En) (G : GS) | st
abbrev SM := En → GS → OutS
def SQ (c : RC) (W : WX) (M : Addr → Prop) (ρ : List Addr) (H : Hp) (o : OutS) (Dn : Ends) : Prop := match o with
  | .nx env' G' => ∀ M' ρ' σ' H', Gr M ρ H M' ρ' H' → Rl c M' ρ' G' env' σ' H' → Dn.nx σ' H'
  | .bk env' G' => ∀ M' ρ' σ' H', Gr M ρ H M' ρ' H' → Rl c M' ρ' G' env' σ' H' → Dn.bk σ' H'
  | .ct env' G' => ∀ M' ρ' σ' H', Gr M ρ H M' ρ' H' → Rl c M' ρ' G' env' σ' H' → Dn.ct σ' H'
  | .rt e G' => ∀ M' ρ' v H', Gr M ρ H M' ρ' H' → SR c M' ρ' G' H' → RepE c M' ρ' H' e v → Dn.rt v H'
  | .er cl fs env' G' => ∀ M' ρ' σ' H' dd gs, Gr M ρ H M' ρ' H' → Rl c M' ρ' G' env' σ' H' → XA H' dd gs → Flds c M' ρ' H' cl fs gs → W (.ref (c.C cl)) dd σ' H'
  | .st => False
def tDS (c : RC) (W : WX) (m : SM) : TS := fun Dn σ H => ∃ M ρ G env, Rl c M ρ G env σ H ∧ SQ c W M ρ H (m env G) Dn
def DS (X : Cx) (c : RC) (W : WX) (s : Stmt) (m : SM) : Prop := PS X s (tDS c W m)
def DSs (X : Cx) (c : RC) (W : WX) (s : List Stmt) (m : SM) : Prop := PSs X s (tDS c W m)
theorem ps_imp {X : Cx} {e : Stmt} {t t' : TS} (h : PS X e t) (k : ∀ D σ H, t' D σ H → t D σ H) : PS X e t' := ⟨fun pins s σ H D I q => h.run pins s σ H D I (k D σ H q)⟩
theorem pss_imp {X : Cx} {e : List Stmt} {t t' : TS} (h : PSs X e t) (k : ∀ D σ H, t' D σ H → t D σ H) : PSs X e t' := ⟨fun pins s σ H D I q => h.run pins s σ H D I (k D σ H q)⟩
section
variable {c : RC} {W : WX} {M M' : Addr → Prop} {ρ ρ' : List Addr} {H H' : Hp} {o : OutS} {Dn Dn' : Ends} {σ : L2.St} {G : GS} {env : En}
theorem SQ.grow (h : SQ c W M ρ H o Dn) (g : Gr M ρ H M' ρ' H') : SQ c W M' ρ' H' o Dn := by
  cases o with
  | nx e G => exact fun a b d f g2 r => h a b d f (g.trans g2) r
  | bk e G => exact fun a b d f g2 r => h a b d f (g.trans g2) r
  | ct e G => exact fun a b d f g2 r => h a b d f (g.trans g2) r
  | rt e G => exact fun a b d f g2 r => h a b d f (g.trans g2) r
  | er cl fs e G => exact fun a b d f dd gs g2 r => h a b d f dd gs (g.trans g2) r
  | st => exact h
/-- an expression ahead of the rest of a statement -/
def ofE {α : Type} (o : Out α) (env : En) (k : α → GS → OutS) : OutS := match o with
  | .ok e G => k e G
  | .er c fs G => .er c fs env G
  | .st => .st
theorem SQ.ofE {α β : Type} {R : (Addr → Prop) → List Addr → Hp → α → β → Prop} {m : Out α} {k : α → GS → OutS} (Rr : Rl c M ρ G env σ H) (h : SQ c W M ρ H (ofE m env k) Dn) :
    TQ R c W M ρ σ H m (fun v H1 => ∃ ρ1 G1 e, Ge M ρ H ρ1 H1 ∧ Rl c M ρ1 G1 env σ H1 ∧ R M ρ1 H1 e v ∧ SQ c W M ρ1 H1 (k e G1) Dn) := by
  cases m with
  | ok e G => exact fun v ρ1 H1 g s r => ⟨ρ1, G, e, g, Rr.ge g s, r, SQ.grow h g.gr⟩
  | er cl fs G => exact fun dd gs ρ1 H1 g s e f => h M ρ1 σ H1 dd gs g.gr (Rr.ge g s) e f
  | st => exact h
end
def seqO (o : OutS) (k : En → GS → OutS) : OutS := match o with
  | .nx env G => k env G
  | o => o
def sSeq (a b : SM) : SM := fun env G => seqO (a env G) b
def sNil : SM := fun env G => .nx env G
def sSet (i : Nat) (m : EM) : SM := fun env G => ofE (m env G) env fun e G1 => .nx (env.set i (.ev e)) G1
def sRet (m : EM) : SM := fun env G => ofE (m env G) env fun e G1 => .rt e G1
def sRetN : SM := fun _ G => .rt (.d .non) G
def sDrop (m : EM) : SM := fun env G => ofE (m env G) env fun _ G1 => .nx env G1
def sIf (t : BM) (a b : SM) : SM := fun env G => ofE (t env G) env fun k G1 => if k = true then a env G1 else b env G1
def sSt : SM := fun _ _ => .st
def sBk : SM := fun env G => .bk env G
def sCt : SM := fun env G => .ct env G
section
variable {X : Cx} {c : RC} {W : WX} {e t : Expr} {st : Stmt} {sts as bs : List Stmt} {me : EM} {mt : BM} {ms mr ma mb : SM} {pos : Pos}
theorem dss_nil : DSs X c W [] sNil := by
  refine pss_imp pss_nil fun Dn σ H q => ?_
  obtain ⟨M, ρ, G, env, R, q⟩ := q
  exact q M ρ σ H Gr.refl R
theorem SQ.seq {M : Addr → Prop} {ρ : List Addr} {H : Hp} {o : OutS} {k : SM} {Dn : Ends} (h : SQ c W M ρ H (seqO o k) Dn) : SQ c W M ρ H o { Dn with nx := tDS c W k Dn } := by
  cases o with
  | nx env G => exact fun M' ρ' σ' H' g R => ⟨M', ρ', G, env, R, SQ.grow h g⟩
  | bk e G => exact h
  | ct e G => exact h
  | rt e G => exact h
  | er cl fs e G => exact h
  | st => exact h
theorem dss_cons (h : DS X c W st ms) (k : DSs X c W sts mr) : DSs X c W (st :: sts) (sSeq ms mr) := by
  refine pss_imp (pss_cons h k) fun Dn σ H q => ?_
  obtain ⟨M, ρ, G, env, R, q⟩ := q
  exact ⟨M, ρ, G, env, R, SQ.seq q⟩
theorem dss_one (h : DS X c W st ms) : DSs X c W [st] ms := pss_one h
theorem ds_never : DS X c W st sSt := by
  refine ps_imp ps_never fun Dn σ H q => ?_
  obtain ⟨M, ρ, G, env, R, q⟩ := q
  exact q.elim
theorem Rl.set {M : Addr → Prop} {ρ : List Addr} {G : GS} {env : En} {σ : L2.St} {H : Hp} {i : Nat} {x : EV} {v : V} (R : Rl c M ρ G env σ H) (r : RepE c M ρ H x v) : Rl c M ρ G (env.set i (.ev x)) (σ.set i (some v)) H := by
  obtain ⟨oa, h1, h2⟩ := R.e
  have ne : ∀ (j : Nat) (sl : Sl), (env.set i (.ev x))[j]? = some sl → (j = i ∧ sl = .ev x) ∨ (j ≠ i ∧ env[j]? = some sl) := fun j sl e => by
    by_cases hj : j = i
    · subst hj
      have hl : j < env.length := by
        have := (List.getElem?_eq_some_iff.mp e).1
        rwa [List.length_set] at this
      rw [List.getElem?_set_self hl] at e
      exact .inl ⟨rfl, (Option.some.inj e).symm⟩
    · rw [List.getElem?_set_ne (Ne.symm hj)] at e
      exact .inr ⟨hj, e⟩
  refine ⟨R.s, by simpa using R.len, oa, fun j sl e => ?_, fun j k o u e1 e2 e3 => ?_⟩
  · rcases ne j sl e with ⟨rfl, rfl⟩ | ⟨hj, e'⟩
    · exact ⟨v, List.getElem?_set_self (Nat.lt_of_lt_of_le (by simpa using (List.getElem?_eq_some_iff.mp e).1) R.len), r⟩
    · have h := h1 j sl e'
      have sg : (σ.set i (some v))[j]? = σ[j]? := List.getElem?_set_ne (Ne.symm hj)
      match sl, h with
      | .no, _ => trivial
      | .ev e, ⟨v, a, b⟩ => exact ⟨v, by rw [sg]; exact a, b⟩
      | .own (.lst xs), ⟨a, b⟩ => exact ⟨by rw [sg]; exact a, b⟩
      | .own (.ins k fs), ⟨a, b⟩ => exact ⟨by rw [sg]; exact a, b⟩
      | .exn k fs, ⟨a, b⟩ => exact ⟨by rw [sg]; exact a, b⟩
  · rcases ne j _ e1 with ⟨_, z⟩ | ⟨_, e1⟩
    · cases z
    · rcases ne k _ e2 with ⟨_, z⟩ | ⟨_, e2⟩
      · cases z
      · exact h2 j k o u e1 e2 e3
theorem ds_set {i : Nat} {x : Str} {pos' : Pos} (hN : X.N.Nodup) (hi : X.N[i]? = some x) (hx : Loc X.env.scope x) (he : DE X c W e me) (hs : swapsWith e (some (.Name x pos')) pos.line X.env = pure false := by rfl)
    (hf : X.fn x = true ∨ X.env.scope.names.lookup x = some .local := by first | exact .inl rfl | exact .inr rfl | assumption) : DS X c W (.Assign [.Name x pos'] e pos) (sSet i me) := by
  refine ⟨fun pins s σ H D I q => (ps_set hN hi hx he hs hf).run pins s σ H D I ?_⟩
  obtain ⟨M, ρ, G, env, R, q⟩ := q
  refine ⟨M, ρ, G, env, R, (SQ.ofE (R := RE c) R q).imp fun v H1 ⟨ρ1, G1, e1, g1, R1, r1, q1⟩ => ?_⟩
  exact q1 M ρ1 _ H1 Gr.refl (R1.set r1)
theorem ds_ret (he : DE X c W e me) : DS X c W (.Return (some e) pos) (sRet me) := by
  refine ps_imp (ps_ret he) fun Dn σ H q => ?_
  obtain ⟨M, ρ, G, env, R, q⟩ := q
  refine ⟨M, ρ, G, env, R, (SQ.ofE (R := RE c) R q).imp fun v H1 ⟨ρ1, G1, e1, g1, R1, r1, q1⟩ => ?_⟩
  exact q1 M ρ1 _ H1 Gr.refl R1.s r1
theorem ds_expr (he : DE X c W e me) (hs : swapsWith e none pos.line X.env = pure false := by rfl) : DS X c W (.Expr e pos) (sDrop me) := by
  refine ps_imp (ps_expr he hs) fun Dn σ H q => ?_
  obtain ⟨M, ρ, G, env, R, q⟩ := q
  refine ⟨M, ρ, G, env, R, (SQ.ofE (R := RE c) R q).imp fun v H1 ⟨ρ1, G1, e1, g1, R1, r1, q1⟩ => ?_⟩
  exact q1 M ρ1 _ H1 Gr.refl R1
theorem ds_if (ht : DB X c W t mt) (ha : DSs X c W as ma) (hb : DSs X c W bs mb) : DS X c W (.If t as bs pos) (sIf mt ma mb) := by
  refine ps_imp (ps_if ht ha hb) fun Dn σ H q => ?_
  obtain ⟨M, ρ, G, env, R, q⟩ := q
  refine ⟨M, ρ, G, env, R, (SQ.ofE (R := RB) R q).imp fun v H1 ⟨ρ1, G1, e1, g1, R1, r1, q1⟩ => ?_⟩
  obtain rfl : v = e1 := Eq.symm r1
  cases v with
  | true => rw [if_pos rfl] at q1 ⊢; exact ⟨M, ρ1, G1, env, R1, q1⟩
  | false => exact ⟨M, ρ1, G1, env, R1, q1⟩
end
end DL
set_option Elab.async false
set_option linter.all false
set_option maxRecDepth 100000
set_option maxHeartbeats 4000000
namespace DL
open PySem L2 PyProof.Rows
abbrev nM : Addr → Prop := fun _ => False
section
variable {c c' : RC} {M M' : Addr → Prop} {ρ ρ' : List Addr} {H H' : Hp} {G : GS}
/-- the same data under other protections -/
structure Cv (c : RC) (M : Addr → Prop) (c' : RC) (M' : Addr → Prop) (ρ : List Addr) : Prop where
  K : c'.K = c.K
  C : c'.C = c.C
  N : c'.N = c.N
  z : ∀ a, Zz c M ρ a → Zz c' M' ρ a
theorem ZL.cv {a : Addr} {xs : List V} (v : Cv c M c' M' ρ) (h : ZL c M ρ H a xs) : ZL c' M' ρ H a xs := h.elim (fun q => .inl ⟨v.z a q.1, q.2⟩) fun q => .inr (by rw [v.K]; exact q)
theorem ZT.cv {a : Addr} {xs : List V} (v : Cv c M c' M' ρ) (h : ZT c M ρ H a xs) : ZT c' M' ρ H a xs := h.elim (fun q => .inl ⟨v.z a q.1, q.2⟩) fun q => .inr (by rw [v.K]; exact q)
theorem RepN.cv (v : Cv c M c' M' ρ) : ∀ {n : Nat} {d : D} {u : V}, RepN c M ρ H n d u → RepN c' M' ρ H n d u := by
  intro n
  induction n with
  | zero =>
    intro d u h
    cases d with
    | cls k => show u = _; rw [v.C]; exact h
    | _ => exact h
  | succ n ih =>
    intro d u h
    cases d with
    | tup xs => obtain ⟨a, vs, e, z, r⟩ := h; exact ⟨a, vs, e, z.cv v, r.imp fun _ _ q => ih q⟩
    | lst xs => obtain ⟨a, vs, e, z, r⟩ := h; exact ⟨a, vs, e, z.cv v, r.imp fun _ _ q => ih q⟩
    | ins k fs => obtain ⟨a, dx, gs, e, z, e2, nm, r⟩ := h; exact ⟨a, dx, gs, e, v.z a z, by rw [v.C]; exact e2, by rw [v.N]; exact nm, r.imp fun _ _ q => ih q⟩
    | cls k => show u = _; rw [v.C]; exact h
    | _ => exact h
theorem Rep.cv (v : Cv c M c' M' ρ) {d : D} {u : V} (h : Rep c M ρ H d u) : Rep c' M' ρ H d u := let ⟨n, q⟩ := h; ⟨n, q.cv v⟩
theorem RepE.cv (v : Cv c M c' M' ρ) {d : EV} {u : V} (h : RepE c M ρ H d u) : RepE c' M' ρ H d u := by
  cases d with
  | d x => exact Rep.cv v h
  | o i => exact h
theorem repEs_cv (v : Cv c M c' M' ρ) {d : List EV} {u : List V} (h : All2 (RepE c M ρ H) d u) : All2 (RepE c' M' ρ H) d u := h.imp fun _ _ q => q.cv v
theorem flds_cv (v : Cv c M c' M' ρ) {k : String} {fs : List D} {gs : List (Str × V)} (h : Flds c M ρ H k fs gs) : Flds c' M' ρ H k fs gs := ⟨by rw [v.N]; exact h.nm, h.r.imp fun _ _ q => q.cv v⟩
theorem SR.cv (v : Cv c M c' M' ρ) (s : SR c M ρ G H) (h1 : ∀ a ∈ ρ, ¬ c'.B a ∧ ¬ M' a) (h2 : ∀ a, M' a → H a ≠ none) (h3 : ∀ a, c'.B a → H a ≠ none) : SR c' M' ρ G H :=
  ⟨s.len, s.nd, h1, fun i xs e => let ⟨a, vs, p, q, r⟩ := s.at_ i xs e; ⟨a, vs, p, q, repEs_cv v r⟩, h2, h3, fun i k e => by rw [v.C]; exact s.tb i k e⟩
/-- the frame forgets what is its own -/
theorem cv_drop : Cv c M c nM ρ := ⟨rfl, rfl, rfl, fun a h => ⟨h.1, fun z => z, h.2.2⟩⟩
theorem SR.drop (s : SR c M ρ G H) : SR c nM ρ G H := s.cv cv_drop (fun a h => ⟨(s.sep a h).1, fun z => z⟩) (fun _ z => z.elim) s.bt
/-- the callee's frame: what is ours is the callers' there -/
def sub (c : RC) (M : Addr → Prop) : RC := ⟨c.K, c.C, c.N, fun a => c.B a ∨ M a, 0, 0⟩
theorem cv_in : Cv c M (sub c M) nM ρ := ⟨rfl, rfl, rfl, fun a h => ⟨fun z => z.elim h.1 h.2.1, fun z => z, h.2.2⟩⟩
theorem cv_out : Cv (sub c M) nM c M ρ := ⟨rfl, rfl, rfl, fun a h => ⟨fun z => h.1 (.inl z), fun z => h.1 (.inr z), h.2.2⟩⟩
theorem SR.in_ (s : SR c M ρ G H) : SR (sub c M) nM ρ G H := s.cv cv_in (fun a h => ⟨fun z => z.elim (s.sep a h).1 (s.sep a h).2, fun z => z⟩) (fun _ z => z.elim) fun a z => z.elim (s.bt a) (s.mt a)
theorem SR.out (s : SR (sub c M) nM ρ G H) : SR c M ρ G H := s.cv cv_out (fun a h => ⟨fun z => (s.sep a h).1 (.inl z), fun z => (s.sep a h).1 (.inr z)⟩) (fun a z => s.bt a (.inr z)) fun a z => s.bt a (.inl z)
theorem TQ.in_ {W : WX} {σ : L2.St} {o : Out EV} {Q : VK} (h : TQ (RE c) c W M ρ σ H o Q) : TQ (RE (sub c M)) (sub c M) W nM ρ σ H o Q := by
  cases o with
  | ok e G => exact fun v ρ' H' g s r => h v ρ' H' ⟨g.keep, g.there, g.grow⟩ s.out (r.cv cv_out)
  | er cl fs G => exact fun dd gs ρ' H' g s e r => h dd gs ρ' H' ⟨g.keep, g.there, g.grow⟩ s.out e (flds_cv cv_out r)
  | st => exact h
end
/-! ### the promise of a def: its meaning g on n values -/
abbrev FM := List EV → GS → Out EV
/-- which numbers of arguments are taken -/
abbrev Ar := Nat → Bool
def arN (n : Nat) : Ar := fun m => m == n
def Spd (K : PySem.W.Frag) (C : String → Addr) (N : String → List Str) (n : Ar) (g : FM) : Sp := fun vs H Q E => n vs.length = true ∧ ∃ (B : Addr → Prop) (ρ : List Addr) (G : GS) (es : List EV), SR ⟨K, C, N, B, 0, 0⟩ nM ρ G H ∧ All2 (RepE ⟨K, C, N, B, 0, 0⟩ nM ρ H) es vs ∧
  TQ (RE ⟨K, C, N, B, 0, 0⟩) ⟨K, C, N, B, 0, 0⟩ (fun cls d _ H => E cls d H) nM ρ [] H (g es G) Q
abbrev FnG (P : Program) (w : World) (K : PySem.W.Frag) (mg : Str → Option Value) (base : Heap) (C : String → Addr) (N : String → List Str) (k : Nat) (f : Addr) (n : Ar) (g : FM) : Prop := FnR P w K mg base (L2N.CX P w) k f (Spd K C N n g)
theorem Spd.imp {K : PySem.W.Frag} {C : String → Addr} {N : String → List Str} {n : Ar} {g g' : FM} (h : ∀ es G, n es.length = true → g' es G ≠ .st → g es G = g' es G) : ∀ vs H Q E, Spd K C N n g' vs H Q E → Spd K C N n g vs H Q E := fun vs H Q E ⟨hl, B, ρ, G, es, s, r, q⟩ => by
  refine ⟨hl, B, ρ, G, es, s, r, ?_⟩
  rw [h es G (by rw [r.length]; exact hl) (fun z => by rw [z] at q; exact q)]
  exact q
/-- another meaning, equal where it is one -/
theorem FnG.imp {P : Program} {w : World} {K : PySem.W.Frag} {mg : Str → Option Value} {base : Heap} {C : String → Addr} {N : String → List Str} {k : Nat} {f : Addr} {n : Ar} {g g' : FM} (F : FnG P w K mg base C N k f n g) (h : ∀ es G, n es.length = true → g' es G ≠ .st → g es G = g' es G) :
    FnG P w K mg base C N k f n g' := FnR.imp F (Spd.imp h)
/-- a body's meaning on its arguments -/
def env0 (n : Nat) (es : List EV) : En := es.map .ev ++ List.replicate (n - es.length) .no
def retO (o : OutS) : Out EV := match o with
  | .nx _ G => .ok (.d .non) G
  | .rt e G => .ok e G
  | .er c fs _ G => .er c fs G
  | _ => .st
def runB (n : Nat) (m : SM) : FM := fun es G => retO (m (env0 n es) G)
theorem rl_start {c : RC} {ρ : List Addr} {G : GS} {es : List EV} {vs : List V} {H : Hp} {N : List Str} (s : SR c nM ρ G H) (r : All2 (RepE c nM ρ H) es vs) (hl : vs.length ≤ N.length) : Rl c nM ρ G (env0 N.length es) (L2.start N vs) H := by
  have hll := r.length
  refine ⟨s, by unfold env0 L2.start; simp; omega, fun _ => 0, fun i sl e => ?_, fun i j o u e1 => ?_⟩
  · unfold env0 at e
    by_cases hi : i < es.length
    · rw [List.getElem?_append_left (by simpa using hi), List.getElem?_map] at e
      cases q : es[i]? with
      | none => rw [q] at e; cases e
      | some x =>
        rw [q] at e
        cases e
        obtain ⟨v, hv, rv⟩ := r.get q
        refine ⟨v, ?_, rv⟩
        unfold L2.start
        rw [List.getElem?_append_left (by simpa using (List.getElem?_eq_some_iff.mp hv).1), List.getElem?_map, hv]
        rfl
    · rw [List.getElem?_append_right (by simpa using hi)] at e
      have := List.mem_of_getElem? e
      rw [List.eq_of_mem_replicate this]
      trivial
  · unfold env0 at e1
    have := List.mem_of_getElem? e1
    rcases List.mem_append.mp this with h | h
    · obtain ⟨_, _, z⟩ := List.mem_map.mp h; cases z
    · cases List.eq_of_mem_replicate h
theorem Gr.ge {M' : Addr → Prop} {ρ ρ' : List Addr} {H H' : Hp} (g : Gr nM ρ H M' ρ' H') : Ge nM ρ H ρ' H' := ⟨fun a o e n => g.keep a o e n fun z => z, g.there, g.grow⟩
theorem sq_of {c : RC} {E : XK} {ρ : List Addr} {H : Hp} {o : OutS} {Q : VK} (h : TQ (RE c) c (fun cls d _ H => E cls d H) nM ρ [] H (retO o) Q) : SQ c (fun cls d _ H => E cls d H) nM ρ H o { nx := fun _ H' => Q .non H', rt := Q } := by
  cases o with
  | nx env G => exact fun M' ρ' σ' H' g R => h .non ρ' H' g.ge R.s.drop Rep.non
  | rt e G => exact fun M' ρ' v H' g s r => h v ρ' H' g.ge s.drop (r.cv cv_drop)
  | er cl fs e G => exact fun M' ρ' σ' H' dd gs g R e f => h dd gs ρ' H' g.ge R.s.drop e (flds_cv cv_drop f)
  | bk e G => exact (show False from h).elim
  | ct e G => exact (show False from h).elim
  | st => exact h
section
variable {P : Program} {w : World} {K : PySem.W.Frag} {mg : Str → Option Value} {base : Heap} {C : String → Addr} {N : String → List Str}
/-- THE RULE for a def without defaults -/
theorem fng_of {x qual : Str} {st : Stmt} {f : Addr} {fd : FuncData} {Nm ps : List Str} {k : Nat} {m : SM} (F : Fun K x qual st f fd) (S : FnScope Nm ps (defScope st)) (bd : Binds K fd ps [])
    (hb : ∀ (cdv : Value) (A : Around) (outer : List Env) (s : Shared) (H : Hp) (E : XK) (B : Addr → Prop), Room k (A.deeper (envOfC qual (defScope st) s.heap.objs.size f cdv)) →
      DSs (cxOf (L2N.CX P w) P w K mg base Nm qual (defScope st) f cdv A outer s H E) ⟨K, C, N, B, 0, 0⟩ (fun cls d _ H => E cls d H) (defBody st) m) : FnG P w K mg base C N (k + 1) f (arN ps.length) (runB Nm.length m) := by
  have hlN : ps.length ≤ Nm.length := by have := congrArg List.length S.pre; rw [List.length_take] at this; omega
  have G : FnOk P w K mg base (L2N.CX P w) (k + 1) f fd ps (Spd K C N (arN ps.length) (runB Nm.length m)) := by
    obtain ⟨oc, od, kV, doc, pm, an, cdv, ct, osl, rfl, lk, hcd⟩ := F.ex
    refine fn_of lk hcd S (fun vs H Q E h => by simpa [arN] using h.1) fun A outer s H vs Q E hr hsp => ?_
    obtain ⟨hl, B, ρ, G, es, s0, r, q⟩ := hsp
    exact ⟨_, hb cdv A outer s H E B hr, nM, ρ, G, _, rl_start s0 r (by rw [show vs.length = ps.length by simpa [arN] using hl]; exact hlN), sq_of q⟩
  exact FnR.imp (G.raw bd .nil) fun vs H Q E h => by rw [List.append_nil]; exact h
end
/-! ### calls -/
def eCall (n : Ar) (g : FM) (r : AM) : EM := fun env G => (r env G).bind fun xs G1 => if n xs.length = true then g xs G1 else .st
section
variable {X : Cx} {c : RC} {W : WX} {e a b : Expr} {es : List Expr} {ma mb : EM} {mr : AM} {pos p : Pos} {M : Addr → Prop} {ρ : List Addr} {σ : L2.St} {H : Hp}
/-- a call of a def, where what it lets out passes at this very state -/
theorem run_fnA {CX : CXT} {k : Nat} {f : Addr} {sp : Sp} {E : XK} {Q : VK} {s : Shared} {pins : List (Addr × Obj)} {vs : List V} {us : List Value}
    (F : FnR X.prog X.w X.K X.mg X.base CX k f sp) (hr : Room k X.A) (hx : PassesAt CX X σ E) (I : Inv X pins σ H s) (r : Vals vs us) (h : sp vs H Q E) :
    codeAny (model X.prog X.w) X.A (.call (.ref f) ⟨us, []⟩)
      (fun res s' => match res with
        | .ok (.ret v) => EP X pins σ Q v s'
        | .ok _ => False
        | .error e => X.xe e s') s :=
  codeAny_mono (F X.A X.stack s H us vs Q E hr I.env0 r h) fun res s' z => match res, z with
    | .error e, z => hx pins H s e s' I z
    | .ok (.ret _), z => I.after z
    | .ok .next, z => z.elim
    | .ok .brk, z => z.elim
    | .ok .cont, z => z.elim
theorem spd_of {n : Ar} {g : FM} {es1 : List EV} {vs : List V} {G1 : GS} {Q : VK} (s1 : SR c M ρ G1 H) (r1 : All2 (RepE c M ρ H) es1 vs) (q1 : TQ (RE c) c W M ρ σ H (if n es1.length = true then g es1 G1 else .st) Q) : Spd c.K c.C c.N n g vs H Q (WE W σ) := by
  split at q1
  · rename_i hl
    have z := q1.in_
    refine ⟨by rw [← r1.length]; exact hl, _, ρ, G1, es1, s1.in_, repEs_cv cv_in r1, ?_⟩
    cases hg : g es1 G1 with
    | ok e G => rw [hg] at z; exact z
    | er cl fs G => rw [hg] at z; exact z
    | st => rw [hg] at z; exact z
  · exact q1.elim
theorem de_call {x : Str} {k : Nat} {n : Ar} {f : Addr} {g : FM} (F : FnG X.prog X.w X.K X.mg X.base c.C c.N k f n g) (hK : c.K = X.K) (hr : Room k X.A) (hg : Gl X x) (hm : X.mg x = some (.ref f)) (hk : PySem.W.keepIn X.K (.ref f) = true) (tk : L2N.Takes X W) (ha : DA X c W (e :: es) mr)
    (hdb : (x == ("__debug__" : Str)) = false := by decide) (he : starEach (e :: es) X.env = (false, eval e X.env) :: starEach es X.env := by rfl) (hpl : (backTo pos (starEach es X.env)).any (·.1) = false := by rfl) :
    DE X c W (.Call (.Name x p) (e :: es) [] pos) (eCall n g mr) := by
  refine ⟨fun pins s σ H Q I h => ?_⟩
  obtain ⟨M, ρ, G, env, R, q⟩ := h
  refine wpAny_Call_Name_kw (ld_glob I hg hm ?_ hdb)
  have h' : tDA c W mr σ H fun vs H1 => Spd c.K c.C c.N n g vs H1 Q (WE W σ) := ⟨M, ρ, G, env, R, (TQ.bind (R := RA c) q).imp fun v H1 ⟨ρ1, G1, e1, g1, s1, r1, q1⟩ => spd_of s1 r1 q1⟩
  refine PySem.W.callWith_K (h₀ := X.base) I.ok.mod.kin hk (thn (PA.run ha pos pins s σ H _ I h') fun us s1 ⟨vs, H1, I1, r, q⟩ => ⟨I1.kIn, ?_⟩) he hpl
  rw [hK] at q
  exact wpAny_call (run_fnA F hr (L2N.passAt tk σ) I1 r q)
end
end DL
set_option Elab.async false
set_option linter.all false
set_option maxRecDepth 100000
set_option maxHeartbeats 4000000
namespace DL
open PySem L2 PyProof.Rows
/-! ### values: arithmetic, comparisons, built-ins -/
def gII (f : Int → Int → D) : D → D → Option D
  | .int i, .int j => some (f i j)
  | _, _ => none
def gIC (p : Int → Int → Bool) (f : Int → Int → D) : D → D → Option D
  | .int i, .int j => if p i j = true then some (f i j) else none
  | _, _ => none
def strMax : Nat := 1000000
def gAdd : D → D → Option D
  | .int i, .int j => some (.int (i + j))
  | .str i, .str j => if i.length + j.length ≤ strMax then some (.str (i ++ j)) else none
  | _, _ => none
def cMul (i j : Int) : Bool := decide (-(2 ^ 64) < i ∧ i < 2 ^ 64) || decide (-(2 ^ 64) < j ∧ j < 2 ^ 64)
def cDiv (i j : Int) : Bool := decide (0 < j) && decide (j < 2 ^ 200)
def cPos (i j : Int) : Bool := decide (0 < j)
def cPow (i j : Int) : Bool := decide (0 ≤ j) && decide (j ≤ 1000000) && decide (i.natAbs < 2 ^ 64)
def fAdd : F2 := pure2 gAdd
def fSub : F2 := pure2 (gII fun i j => .int (i - j))
def fMul : F2 := pure2 (gIC cMul fun i j => .int (i * j))
def fDiv : F2 := pure2 (gIC cDiv fun i j => .int (i / j))
def fMod : F2 := pure2 (gIC cPos fun i j => .int (i % j))
def fPow : F2 := pure2 (gIC cPow fun i j => .int (i ^ j.toNat))
def fShl : F2 := pure2 (gIC cPow fun i j => .int (i * 2 ^ j.toNat))
def fAnd : F2 := pure2 (gII fun i j => .int (Builtin.bitAnd i j))
def fOr : F2 := pure2 (gII fun i j => .int (Builtin.bitOr i j))
def fXor : F2 := pure2 (gII fun i j => .int (Builtin.bitXor i j))
def fLt : F2 := pure2 (gII fun i j => .bl (decide (i < j)))
def fLe : F2 := pure2 (gII fun i j => .bl (decide (i ≤ j)))
def fGt : F2 := pure2 (gII fun i j => .bl (decide (j < i)))
def fGe : F2 := pure2 (gII fun i j => .bl (decide (j ≤ i)))
/-! == of what holds no instance -/
mutual
def toPy : D → Option PyData
  | .non => some .none
  | .bl b => some (.bool b)
  | .int i => some (.int i)
  | .str x => some (.str x)
  | .lst xs => (toPys xs).map .list
  | .tup xs => (toPys xs).map .tuple
  | .ins _ _ => none
  | .cls _ => none
  | .ty _ => none
def toPys : List D → Option (List PyData)
  | [] => some []
  | x :: xs => (toPy x).bind fun a => (toPys xs).map (a :: ·)
end
/-- scalars: the answer at once; else by the data -/
def gEq : D → D → Option Bool
  | .int i, .int j => some (decide (i = j))
  | .str i, .str j => some (decide (i = j))
  | .bl i, .bl j => some (decide (i = j))
  | .non, .non => some true
  | .int _, .non => some false
  | .non, .int _ => some false
  | .str _, .non => some false
  | .non, .str _ => some false
  | .int _, .str _ => some false
  | .str _, .int _ => some false
  | a, b => match toPy a, toPy b with
    | some x, some y => if (SeqAt.shaped x && SeqAt.shaped y) = true then some (PyData.eqv x y) else none
    | _, _ => none
def fEq : F2 := pure2 fun a b => (gEq a b).map .bl
def fNe : F2 := pure2 fun a b => (gEq a b).map fun k => .bl (!k)
def isNon : D → Bool
  | .non => true
  | _ => false
def fIs : F2 := fun x y G => match x, y with
  | .d a, .d .non => some (.d (.bl (isNon a)), G)
  | _, _ => none
def fIsNot : F2 := fun x y G => match x, y with
  | .d a, .d .non => some (.d (.bl (!isNon a)), G)
  | _, _ => none
section
variable {X : Cx} {c : RC} {M : Addr → Prop} {ρ : List Addr} {H : Hp} {x y : V} {Q : VK}
theorem opr_imp {f : Value → Value → Sem Value} {r r' : R2} (h : OpR X f r) (k : ∀ x y H Q, r' x y H Q → r x y H Q) : OpR X f r' := fun pins s σ H x y v u Q I rx ry q => h pins s σ H x y v u Q I rx ry (k _ _ _ _ q)
theorem callr_imp {f : Value} {r r' : List V → Hp → VK → Prop} (h : CallR X f r) (k : ∀ x H Q, r' x H Q → r x H Q) : CallR X f r' := fun pins s σ H x v Q I rx q => h pins s σ H x v Q I rx (k _ _ _ q)
/-- what is known of two plain operands -/
theorem v2_pure {g : D → D → Option D} (h : V2 c (pure2 g) x y H Q) : ∃ M ρ G a b z, SR c M ρ G H ∧ Rep c M ρ H a x ∧ Rep c M ρ H b y ∧ g a b = some z ∧ ∀ v H', Same H H' → Rep c M ρ H' z v → Q v H' := by
  obtain ⟨M, ρ, G, a, b, s, ra, rb, q⟩ := h
  cases a with
  | o i => exact q.elim
  | d a =>
    cases b with
    | o i => exact q.elim
    | d b =>
      dsimp only [pure2] at q
      cases hz : g a b with
      | none => rw [hz] at q; exact q.elim
      | some z =>
        rw [hz] at q
        exact ⟨M, ρ, G, a, b, z, s, ra, rb, hz, fun v H' sm r => q v ρ H' (Ge.same sm) (s.same sm) r⟩
theorem v1_pure {g : D → Option D} (h : V1 c (pure1 g) x H Q) : ∃ M ρ G a z, SR c M ρ G H ∧ Rep c M ρ H a x ∧ g a = some z ∧ ∀ v H', Same H H' → Rep c M ρ H' z v → Q v H' := by
  obtain ⟨M, ρ, G, a, s, ra, q⟩ := h
  cases a with
  | o i => exact q.elim
  | d a =>
    dsimp only [pure1] at q
    cases hz : g a with
    | none => rw [hz] at q; exact q.elim
    | some z =>
      rw [hz] at q
      exact ⟨M, ρ, G, a, z, s, ra, hz, fun v H' sm r => q v ρ H' (Ge.same sm) (s.same sm) r⟩
theorem datas_rep : ∀ {es : List EV} {vs : List V} {ds : List D}, datas es = some ds → All2 (RepE c M ρ H) es vs → All2 (Rep c M ρ H) ds vs
  | [], _, _, h, .nil => by cases h; exact .nil
  | .d x :: es, _, _, h, .cons r t => by
    dsimp only [datas] at h
    cases q : datas es with
    | none => rw [q] at h; cases h
    | some xs =>
      rw [q] at h
      cases h
      exact .cons r (datas_rep q t)
  | .o i :: es, _, _, h, _ => by cases h
theorem vn_pure {g : List D → Option D} {vs : List V} (h : VN c (pureN g) vs H Q) : ∃ M ρ G ds z, SR c M ρ G H ∧ All2 (Rep c M ρ H) ds vs ∧ g ds = some z ∧ ∀ v H', Same H H' → Rep c M ρ H' z v → Q v H' := by
  obtain ⟨M, ρ, G, es, s, r, q⟩ := h
  dsimp only [pureN] at q
  cases hd : datas es with
  | none => rw [hd] at q; exact q.elim
  | some ds =>
    rw [hd] at q
    dsimp only [Option.bind] at q
    cases hz : g ds with
    | none => rw [hz] at q; exact q.elim
    | some z =>
      rw [hz] at q
      exact ⟨M, ρ, G, ds, z, s, datas_rep hd r, hz, fun v H' sm r => q v ρ H' (Ge.same sm) (s.same sm) r⟩
theorem same_refl : Same H H := fun _ _ h => h
theorem gII_of {f : Int → Int → D} {a b z : D} (h : gII f a b = some z) (ra : Rep c M ρ H a x) (rb : Rep c M ρ H b y) : ∃ i j, x = .int i ∧ y = .int j ∧ z = f i j := by
  cases a <;> cases b <;> first | (cases h; done) | skip
  injection h with h
  exact ⟨_, _, ra.of_int, rb.of_int, h.symm⟩
theorem gIC_of {p : Int → Int → Bool} {f : Int → Int → D} {a b z : D} (h : gIC p f a b = some z) (ra : Rep c M ρ H a x) (rb : Rep c M ρ H b y) : ∃ i j, x = .int i ∧ y = .int j ∧ p i j = true ∧ z = f i j := by
  cases a <;> cases b <;> first | (cases h; done) | skip
  dsimp only [gIC] at h
  split at h
  · rename_i hp
    injection h with h
    exact ⟨_, _, ra.of_int, rb.of_int, hp, h.symm⟩
  · cases h
theorem op2I {f : Value → Value → Sem Value} {g : Int → Int → Int} (h : OpR X f (rI0 fun i j => .int (g i j))) : OpR X f (V2 c (pure2 (gII fun i j => .int (g i j)))) := opr_imp h fun x y H Q q => by
  obtain ⟨M, ρ, G, a, b, z, s, ra, rb, hz, q⟩ := v2_pure q
  obtain ⟨i, j, rfl, rfl, rfl⟩ := gII_of hz ra rb
  exact ⟨i, j, rfl, rfl, q _ _ same_refl .int⟩
theorem op2B {f : Value → Value → Sem Value} {g : Int → Int → Bool} (h : OpR X f (rI0 fun i j => .bl (g i j))) : OpR X f (V2 c (pure2 (gII fun i j => .bl (g i j)))) := opr_imp h fun x y H Q q => by
  obtain ⟨M, ρ, G, a, b, z, s, ra, rb, hz, q⟩ := v2_pure q
  obtain ⟨i, j, rfl, rfl, rfl⟩ := gII_of hz ra rb
  exact ⟨i, j, rfl, rfl, q _ _ same_refl .bl⟩
theorem op2C {f : Value → Value → Sem Value} {p : Int → Int → Bool} {C : Int → Int → Prop} {g : Int → Int → Int} (h : OpR X f (rI C fun i j => .int (g i j))) (k : ∀ i j, p i j = true → C i j) : OpR X f (V2 c (pure2 (gIC p fun i j => .int (g i j)))) := opr_imp h fun x y H Q q => by
  obtain ⟨M, ρ, G, a, b, z, s, ra, rb, hz, q⟩ := v2_pure q
  obtain ⟨i, j, rfl, rfl, hp, rfl⟩ := gIC_of hz ra rb
  exact ⟨i, j, rfl, rfl, k i j hp, q _ _ same_refl .int⟩
theorem dop_sub : OpR X (binaryOp .Sub) (V2 c fSub) := op2I op_sub
theorem dop_mul : OpR X (binaryOp .Mult) (V2 c fMul) := op2C op_mul fun i j h => by
  rcases Bool.or_eq_true_iff.mp h with h | h
  · exact .inl (of_decide_eq_true h)
  · exact .inr (of_decide_eq_true h)
theorem dop_div : OpR X (binaryOp .FloorDiv) (V2 c fDiv) := op2C op_fdivW fun i j h => by
  obtain ⟨h1, h2⟩ := Bool.and_eq_true_iff.mp h
  have h1 : 0 < j := of_decide_eq_true h1
  have h2 : j < 2 ^ 200 := of_decide_eq_true h2
  exact wide_div (b := 200) h1 (by omega) (by decide) (by decide)
theorem dop_mod : OpR X (binaryOp .Mod) (V2 c fMod) := op2C op_mod fun i j h => of_decide_eq_true h
theorem cpow_ok {i j : Int} (h : cPow i j = true) : CPow i j := by
  obtain ⟨h1, h3⟩ := Bool.and_eq_true_iff.mp h
  obtain ⟨h1, h2⟩ := Bool.and_eq_true_iff.mp h1
  exact ⟨of_decide_eq_true h1, of_decide_eq_true h2, of_decide_eq_true h3⟩
theorem dop_pow : OpR X (binaryOp .Pow) (V2 c fPow) := op2C op_pow fun i j h => cpow_ok h
theorem dop_shl : OpR X (binaryOp .LShift) (V2 c fShl) := op2C op_shl fun i j h => cpow_ok h
theorem dop_and : OpR X (binaryOp .BitAnd) (V2 c fAnd) := op2I op_and
theorem dop_or : OpR X (binaryOp .BitOr) (V2 c fOr) := op2I op_or
theorem dop_lt : OpR X (compareOp .Lt) (V2 c fLt) := op2B op_lt
theorem dop_gt : OpR X (compareOp .Gt) (V2 c fGt) := op2B op_gt
theorem dop_ge : OpR X (compareOp .GtE) (V2 c fGe) := op2B op_ge
theorem dop_add : OpR X (binaryOp .Add) (V2 c fAdd) := opr_imp (op_add.or op_add_str) fun x y H Q q => by
  obtain ⟨M, ρ, G, a, b, z, s, ra, rb, hz, q⟩ := v2_pure q
  cases a <;> cases b <;> first | (cases hz; done) | skip
  · injection hz with hz
    cases hz
    exact .inl ⟨_, _, ra.of_int, rb.of_int, q _ _ same_refl .int⟩
  · dsimp only [gAdd] at hz
    split at hz
    · rename_i hl
      injection hz with hz
      cases hz
      exact .inr ⟨_, _, ra.of_str, rb.of_str, Nat.le_trans hl (by decide), q _ _ same_refl .str⟩
    · cases hz
mutual
theorem toPy_dp {K : PySem.W.Frag} (hK : c.K = K) : ∀ (d : D) (p : PyData) (v : V), toPy d = some p → Rep c M ρ H d v → Dp K H v p
  | .non, p, v, h, r => by cases h; cases r.of_non; exact .non
  | .bl b, p, v, h, r => by cases h; cases r.of_bl; exact .bl b
  | .int b, p, v, h, r => by cases h; cases r.of_int; exact .int b
  | .str b, p, v, h, r => by cases h; cases r.of_str; exact .str b
  | .lst xs, p, v, h, r => by
    obtain ⟨a, vs, rfl, z, q⟩ := r.of_lst
    dsimp only [toPy] at h
    cases e : toPys xs with
    | none => rw [e] at h; cases h
    | some ps => rw [e] at h; cases h; exact .lst (by rw [← hK]; exact z.sq) (toPys_dp hK xs ps vs e q)
  | .tup xs, p, v, h, r => by
    obtain ⟨a, vs, rfl, z, q⟩ := r.of_tup
    dsimp only [toPy] at h
    cases e : toPys xs with
    | none => rw [e] at h; cases h
    | some ps => rw [e] at h; cases h; exact .tup (by rw [← hK]; exact z.sq) (toPys_dp hK xs ps vs e q)
  | .ins _ _, p, v, h, r => by cases h
  | .cls _, p, v, h, r => by cases h
  | .ty _, p, v, h, r => by cases h
theorem toPys_dp {K : PySem.W.Frag} (hK : c.K = K) : ∀ (ds : List D) (ps : List PyData) (vs : List V), toPys ds = some ps → All2 (Rep c M ρ H) ds vs → DpAll K H vs ps
  | [], ps, vs, h, r => by cases h; cases r; exact .nil
  | d :: ds, ps, vs, h, r => by
    cases r with
    | cons r t =>
      dsimp only [toPys] at h
      cases e1 : toPy d with
      | none => rw [e1] at h; cases h
      | some p =>
        rw [e1] at h
        dsimp only [Option.bind] at h
        cases e2 : toPys ds with
        | none => rw [e2] at h; cases h
        | some qs => rw [e2] at h; cases h; exact .cons (toPy_dp hK d p _ e1 r) (toPys_dp hK ds qs _ e2 t)
end
theorem geq_of {K : PySem.W.Frag} (hK : c.K = K) {a b : D} {k : Bool} (h : gEq a b = some k) (ra : Rep c M ρ H a x) (rb : Rep c M ρ H b y) :
    (scal x y = true ∧ decide (x = y) = k) ∨ ∃ d e, Dp K H x d ∧ Dp K H y e ∧ SeqAt.shaped d = true ∧ SeqAt.shaped e = true ∧ PyData.eqv d e = k := by
  have gen : (match toPy a, toPy b with
    | some x, some y => if (SeqAt.shaped x && SeqAt.shaped y) = true then some (PyData.eqv x y) else none
    | _, _ => none) = some k → ∃ d e, Dp K H x d ∧ Dp K H y e ∧ SeqAt.shaped d = true ∧ SeqAt.shaped e = true ∧ PyData.eqv d e = k := fun h => by
    cases e1 : toPy a with
    | none => rw [e1] at h; cases h
    | some p =>
      cases e2 : toPy b with
      | none => rw [e1, e2] at h; cases h
      | some q =>
        rw [e1, e2] at h
        dsimp only at h
        split at h
        · rename_i hs
          obtain ⟨h1, h2⟩ := Bool.and_eq_true_iff.mp hs
          injection h with h
          exact ⟨p, q, toPy_dp hK a p x e1 ra, toPy_dp hK b q y e2 rb, h1, h2, h⟩
        · cases h
  unfold gEq at h
  split at h
  · injection h with h; cases ra.of_int; cases rb.of_int; exact .inl ⟨rfl, by rw [← h]; simp⟩
  · injection h with h; cases ra.of_str; cases rb.of_str; exact .inl ⟨rfl, by rw [← h]; simp⟩
  · injection h with h; cases ra.of_bl; cases rb.of_bl; exact .inl ⟨rfl, by rw [← h]; simp⟩
  · injection h with h; cases ra.of_non; cases rb.of_non; exact .inl ⟨rfl, by rw [← h]; simp⟩
  · injection h with h; cases ra.of_int; cases rb.of_non; exact .inl ⟨rfl, by rw [← h]; simp⟩
  · injection h with h; cases ra.of_non; cases rb.of_int; exact .inl ⟨rfl, by rw [← h]; simp⟩
  · injection h with h; cases ra.of_str; cases rb.of_non; exact .inl ⟨rfl, by rw [← h]; simp⟩
  · injection h with h; cases ra.of_non; cases rb.of_str; exact .inl ⟨rfl, by rw [← h]; simp⟩
  · injection h with h; cases ra.of_int; cases rb.of_str; exact .inl ⟨rfl, by rw [← h]; simp⟩
  · injection h with h; cases ra.of_str; cases rb.of_int; exact .inl ⟨rfl, by rw [← h]; simp⟩
  · exact .inr (gen h)
theorem dop_eq (hK : c.K = X.K) (hu : X.A.units + 64 < cLine) : OpR X (compareOp .Eq) (V2 c fEq) := opr_imp (op_eq.or (op_eqD hu)) fun x y H Q q => by
  obtain ⟨M, ρ, G, a, b, z, s, ra, rb, hz, q⟩ := v2_pure q
  cases hk : gEq a b with
  | none => rw [hk] at hz; cases hz
  | some k =>
    rw [hk] at hz
    injection hz with hz
    cases hz
    rcases geq_of hK hk ra rb with ⟨h1, h2⟩ | ⟨d, e, h1, h2, h3, h4, h5⟩
    · exact .inl ⟨h1, by rw [h2]; exact q _ _ same_refl .bl⟩
    · exact .inr ⟨d, e, h1, h2, h3, h4, by rw [h5]; exact q _ _ same_refl .bl⟩
theorem dop_is : OpR X (compareOp .Is) (V2 c fIs) := opr_imp op_isN fun x y H Q q => by
  obtain ⟨M, ρ, G, a, b, s, ra, rb, q⟩ := q
  unfold fIs at q
  split at q
  · rename_i d
    refine ⟨Rep.of_non rb, ?_⟩
    have e : decide (x = .non) = isNon d := by
      cases d with
      | non => cases Rep.of_non ra; rfl
      | bl b => cases Rep.of_bl ra; rfl
      | int b => cases Rep.of_int ra; rfl
      | str b => cases Rep.of_str ra; rfl
      | cls b => cases Rep.of_cls ra; rfl
      | ty b => cases Rep.of_ty ra; rfl
      | lst b => obtain ⟨_, _, rfl, _⟩ := Rep.of_lst ra; rfl
      | tup b => obtain ⟨_, _, rfl, _⟩ := Rep.of_tup ra; rfl
      | ins b c => obtain ⟨_, _, _, rfl, _⟩ := Rep.of_ins ra; rfl
    rw [e]
    exact q _ ρ H Ge.refl s Rep.bl
  · exact q.elim
theorem dop_isnot : OpR X (compareOp .IsNot) (V2 c fIsNot) := opr_imp op_notN fun x y H Q q => by
  obtain ⟨M, ρ, G, a, b, s, ra, rb, q⟩ := q
  unfold fIsNot at q
  split at q
  · rename_i d
    refine ⟨Rep.of_non rb, ?_⟩
    have e : decide (x = .non) = isNon d := by
      cases d with
      | non => cases Rep.of_non ra; rfl
      | bl b => cases Rep.of_bl ra; rfl
      | int b => cases Rep.of_int ra; rfl
      | str b => cases Rep.of_str ra; rfl
      | cls b => cases Rep.of_cls ra; rfl
      | ty b => cases Rep.of_ty ra; rfl
      | lst b => obtain ⟨_, _, rfl, _⟩ := Rep.of_lst ra; rfl
      | tup b => obtain ⟨_, _, rfl, _⟩ := Rep.of_tup ra; rfl
      | ins b c => obtain ⟨_, _, _, rfl, _⟩ := Rep.of_ins ra; rfl
    rw [e]
    exact q _ ρ H Ge.refl s Rep.bl
  · exact q.elim
end
end DL
set_option Elab.async false
set_option linter.all false
set_option maxRecDepth 100000
set_option maxHeartbeats 4000000
namespace DL
open PySem L2 PyProof.Rows
/-! ### fields by their places -/
def ixf (f : Str) : List Str → Option Nat
  | [] => none
  | g :: r => if g = f then some 0 else (ixf f r).map (· + 1)
theorem lookup_cons {f g : Str} {v : V} {r : List (Str × V)} : ((g, v) :: r).lookup f = if f = g then some v else r.lookup f := by
  by_cases h : f = g
  · subst h; simp [List.lookup]
  · have : (f == g) = false := by simpa using h
    simp [List.lookup, this, h]
theorem lookup_ix {f : Str} {i : Nat} : ∀ {nm : List Str} {gs : List (Str × V)} {i : Nat}, gs.map (·.1) = nm.take gs.length → ixf f nm = some i → gs.lookup f = (gs[i]?).map (·.2)
  | _, [], i, _, _ => by simp
  | [], (g, v) :: gs, i, _, h => by cases h
  | n :: nm, (g, v) :: gs, i, e, h => by
    simp only [List.map_cons, List.length_cons, List.take_succ_cons, List.cons.injEq] at e
    obtain ⟨rfl, e⟩ := e
    rw [lookup_cons]
    unfold ixf at h
    by_cases q : g = f
    · subst q
      rw [if_pos rfl] at h ⊢
      cases h
      rfl
    · rw [if_neg q] at h
      rw [if_neg (fun z => q z.symm)]
      cases hx : ixf f nm with
      | none => rw [hx] at h; cases h
      | some j =>
        rw [hx] at h
        cases h
        rw [lookup_ix (i := j) e hx]
        simp
theorem lookup_no {f : Str} : ∀ {nm : List Str} {gs : List (Str × V)}, gs.map (·.1) = nm.take gs.length → ixf f nm = none → gs.lookup f = none
  | _, [], _, _ => rfl
  | [], (g, v) :: gs, e, _ => by simp at e
  | n :: nm, (g, v) :: gs, e, h => by
    simp only [List.map_cons, List.length_cons, List.take_succ_cons, List.cons.injEq] at e
    obtain ⟨rfl, e⟩ := e
    rw [lookup_cons]
    unfold ixf at h
    by_cases q : g = f
    · subst q; rw [if_pos rfl] at h; cases h
    · rw [if_neg q] at h
      rw [if_neg (fun z => q z.symm)]
      exact lookup_no e (by cases hx : ixf f nm with
        | none => rfl
        | some j => rw [hx] at h; cases h)
theorem putF_set {f : Str} {v : V} : ∀ {nm : List Str} {gs : List (Str × V)} {i : Nat}, gs.map (·.1) = nm.take gs.length → ixf f nm = some i → i < gs.length → putF f v gs = gs.set i (f, v)
  | _, [], i, _, _, h => absurd h (Nat.not_lt_zero _)
  | [], (g, u) :: gs, i, _, h, _ => by cases h
  | n :: nm, (g, u) :: gs, i, e, h, hl => by
    simp only [List.map_cons, List.length_cons, List.take_succ_cons, List.cons.injEq] at e
    obtain ⟨rfl, e⟩ := e
    unfold ixf at h
    unfold putF
    by_cases q : g = f
    · subst q
      rw [if_pos rfl] at h
      cases h
      simp
    · rw [if_neg q] at h
      cases hx : ixf f nm with
      | none => rw [hx] at h; cases h
      | some j =>
        rw [hx] at h
        cases h
        have z := putF_set (v := v) (i := j) e hx (by simpa using hl)
        simp [q, fun z => q (Eq.symm z), z]
theorem putF_new {f : Str} {v : V} : ∀ {nm : List Str} {gs : List (Str × V)}, gs.map (·.1) = nm.take gs.length → ixf f nm = some gs.length → putF f v gs = gs ++ [(f, v)]
  | _, [], _, _ => rfl
  | [], (g, u) :: gs, _, h => by cases h
  | n :: nm, (g, u) :: gs, e, h => by
    simp only [List.map_cons, List.length_cons, List.take_succ_cons, List.cons.injEq] at e
    obtain ⟨rfl, e⟩ := e
    unfold ixf at h
    unfold putF
    by_cases q : g = f
    · subst q
      rw [if_pos rfl] at h
      cases h
    · rw [if_neg q] at h
      cases hx : ixf f nm with
      | none => rw [hx] at h; cases h
      | some j =>
        rw [hx] at h
        have hj : j = gs.length := by simpa using h
        subst hj
        have z := putF_new (v := v) e hx
        simp [q, fun z => q (Eq.symm z), z]
theorem ixf_at {f : Str} : ∀ {nm : List Str} {i : Nat}, ixf f nm = some i → nm[i]? = some f
  | [], i, h => by cases h
  | g :: nm, i, h => by
    unfold ixf at h
    by_cases q : g = f
    · subst q; rw [if_pos rfl] at h; cases h; rfl
    · rw [if_neg q] at h
      cases hx : ixf f nm with
      | none => rw [hx] at h; cases h
      | some j => rw [hx] at h; cases h; simpa using ixf_at hx
def fput (i : Nat) (x : D) (fs : List D) : Option (List D) := if i < fs.length then some (fs.set i x) else if i = fs.length then some (fs ++ [x]) else none
section
variable {c : RC} {M : Addr → Prop} {ρ : List Addr} {H : Hp}
theorem flds_get {k : String} {f : Str} {i : Nat} {x : D} {fs : List D} {gs : List (Str × V)} (h : Flds c M ρ H k fs gs) (hi : ixf f (c.N k) = some i) (hx : fs[i]? = some x) : ∃ v, gs.lookup f = some v ∧ Rep c M ρ H x v := by
  obtain ⟨q, hq, r⟩ := h.r.get hx
  exact ⟨q.2, by rw [lookup_ix (i := i) h.nm hi, hq]; rfl, r⟩
theorem flds_none {k : String} {f : Str} {fs : List D} {gs : List (Str × V)} (h : Flds c M ρ H k fs gs) (hi : ixf f (c.N k) = none) : gs.lookup f = none := lookup_no h.nm hi
theorem flds_len {k : String} {fs : List D} {gs : List (Str × V)} (h : Flds c M ρ H k fs gs) : gs.length = fs.length := h.r.length.symm
theorem flds_put {k : String} {f : Str} {i : Nat} {x : D} {v : V} {fs fs' : List D} {gs : List (Str × V)} (r : Rep c M ρ H x v) (h : Flds c M ρ H k fs gs) (hi : ixf f (c.N k) = some i) (hp : fput i x fs = some fs') : Flds c M ρ H k fs' (putF f v gs) := by
  have hl := flds_len h
  unfold fput at hp
  split at hp
  · rename_i h1
    cases hp
    rw [putF_set h.nm hi (by omega)]
    refine ⟨?_, All2.set (R := fun (p : D) (q : Str × V) => Rep c M ρ H p q.2) (a := x) (b := (f, v)) r i h.r⟩
    rw [List.length_set, ← h.nm, List.map_set]
    refine List.ext_getElem? fun j => ?_
    by_cases hj : i = j
    · subst hj
      have e : (gs.map (·.1))[i]? = some f := by
        rw [h.nm, List.getElem?_take, if_pos (by omega)]
        exact ixf_at hi
      rw [List.getElem?_set_self (by simpa using (by omega : i < gs.length)), e]
    · rw [List.getElem?_set_ne hj]
  · split at hp
    · rename_i h1 h2
      cases hp
      rw [putF_new h.nm (by rw [hi, h2, hl])]
      refine ⟨?_, h.r.append (.cons r .nil)⟩
      have e := ixf_at hi
      rw [List.map_append, List.length_append, h.nm]
      show _ = (c.N k).take (gs.length + 1)
      have e' : (c.N k)[gs.length]? = some f := by rw [hl, ← h2]; exact e
      rw [List.take_add_one, e']
      rfl
    · cases hp
end
/-! ### instances -/
/-- what is read off an instance of one of the classes ks -/
def kix : List (String × Nat) → String → Option Nat
  | [], _ => none
  | (k, i) :: r, k' => if k = k' then some i else kix r k'
def gFld (ks : List (String × Nat)) : D → Option D
  | .ins k fs => (kix ks k).bind fun i => fs[i]?
  | _ => none
def eFld (ks : List (String × Nat)) (m : EM) : EM := eUn (pure1 (gFld ks)) m
structure HasF (K : PySem.W.Frag) (C : String → Addr) (N : String → List Str) (f : Str) (k : String) (i : Nat) : Prop where
  cl : Cls K (C k)
  na : NoAttr K (C k) f
  ix : ixf f (N k) = some i
section
variable {X : Cx} {c : RC} {W : WX} {e o : Expr} {es : List Expr} {me mo : EM} {mr : AM} {pos p apos : Pos} {M : Addr → Prop} {ρ : List Addr} {σ : L2.St} {H : Hp} {G : GS} {env : En}
theorem de_fld {ks : List (String × Nat)} {f : Str} (hK : c.K = X.K) (h : ∀ k i, kix ks k = some i → HasF X.K c.C c.N f k i) (he : DE X c W e me) (hb : attributeBase e f X.env (eval e X.env) = eval e X.env := by rfl) :
    DE X c W (.Attribute e f pos) (eFld ks me) := by
  refine pe_imp (pe_fld he hb) fun σ H Q q => ?_
  obtain ⟨M, ρ, G, env, R, q⟩ := q
  refine ⟨M, ρ, G, env, R, (TQ.bind (R := RE c) q).imp fun v H1 ⟨ρ1, G1, e1, g1, s1, r1, q1⟩ => ?_⟩
  obtain ⟨M, ρ, G, a, z, s, ra, hz, q⟩ := v1_pure (⟨M, ρ1, G1, e1, s1, r1, VQ.of q1⟩ : V1 c (pure1 (gFld ks)) v H1 Q)
  cases a <;> first | (cases hz; done) | skip
  rename_i k fs
  dsimp only [gFld] at hz
  cases hk : kix ks k with
  | none => rw [hk] at hz; cases hz
  | some i =>
    rw [hk] at hz
    obtain ⟨a, dx, gs, rfl, z, e2, fl⟩ := ra.of_ins
    obtain ⟨v, hv, rv⟩ := flds_get fl (h k i hk).ix hz
    exact ⟨a, c.C k, dx, gs, v, rfl, e2, (h k i hk).cl, (h k i hk).na, hv, q _ _ same_refl rv⟩
/-- self.f = e in an __init__ -/
def sFld (i : Nat) (k : String) (ix : Nat) (m : EM) : SM := fun env G => ofE (m env G) env fun e G1 => match e, env[i]? with
  | .d x, some (.own (.ins k' fs)) => if k' = k ∧ fs.length < 900 then (match fput ix x fs with
    | some fs' => .nx (env.set i (.own (.ins k fs'))) G1
    | none => .st) else .st
  | _, _ => .st
theorem env_set {i : Nat} {s : Sl} {sl : Sl} {j : Nat} {env : En} (e : (env.set i s)[j]? = some sl) : (j = i ∧ sl = s) ∨ (j ≠ i ∧ env[j]? = some sl) := by
  by_cases hj : j = i
  · subst hj
    have hl : j < env.length := by
      have := (List.getElem?_eq_some_iff.mp e).1
      rwa [List.length_set] at this
    rw [List.getElem?_set_self hl] at e
    exact .inl ⟨rfl, (Option.some.inj e).symm⟩
  · rw [List.getElem?_set_ne (Ne.symm hj)] at e
    exact .inr ⟨hj, e⟩
/-- the frame's own instance is written -/
theorem gr_own {a : Addr} {o : HO} {u : HO} (hm : M a) (e : H a = some u) : Gr M ρ H M ρ (upd H a o) :=
  ⟨fun b w q n m => by rw [upd_ne (fun z => m (by rw [z]; exact hm))]; exact q, fun b w q => by
    by_cases h : b = a
    · subst h; exact ⟨o, upd_same⟩
    · exact ⟨w, by rw [upd_ne h]; exact q⟩, ⟨[], by simp, by simp⟩, fun _ h => .inl h⟩
theorem SR.own {a : Addr} {o u : HO} (s : SR c M ρ G H) (hm : M a) (e : H a = some u) (nc : ∀ b q, u ≠ LamX.CodeO b q) : SR c M ρ G (upd H a o) := by
  have ne : ∀ b, b ∈ ρ → b ≠ a := fun b hb z => (s.sep b hb).2 (by rw [z]; exact hm)
  refine ⟨s.len, s.nd, s.sep, fun i xs e1 => ?_, fun b m => ?_, fun b m => ?_, fun i k e1 => ?_⟩
  · obtain ⟨b, vs, p, q, r⟩ := s.at_ i xs e1
    exact ⟨b, vs, p, by rw [upd_ne (ne b (List.mem_of_getElem? p))]; exact q, repEs_grow r (gr_own hm e)⟩
  · by_cases h : b = a
    · subst h; rw [upd_same]; simp
    · rw [upd_ne h]; exact s.mt b m
  · by_cases h : b = a
    · subst h; rw [upd_same]; simp
    · rw [upd_ne h]; exact s.bt b m
  · obtain ⟨p, t⟩ := s.tb i k e1
    exact ⟨p, tabs_keep t (fun ps z => by rw [upd_ne (ne _ (List.mem_of_getElem? p))]; exact z) fun b z => by rw [upd_ne (fun y => nc b _ (Option.some.inj (e.symm.trans ((congrArg H y).symm.trans z))))]; exact z⟩
theorem ds_fld {i ix : Nat} {x f : Str} {k : String} {p' p'' : Pos} (h : HasF X.K c.C c.N f k ix) (hv : PE X (.Name x p'') (tVar i)) (he : DE X c W e me)
    (hs : swapsWith e (some (.Attribute (.Name x p'') f p')) pos.line X.env = pure false := by rfl) : DS X c W (.Assign [.Attribute (.Name x p'') f p'] e pos) (sFld i k ix me) := by
  refine ps_imp (ps_fld hv he hs) fun Dn σ H q => ?_
  obtain ⟨M, ρ, G, env, R, q⟩ := q
  refine ⟨M, ρ, G, env, R, (SQ.ofE (R := RE c) R q).imp fun v H1 ⟨ρ1, G1, e1, g1, R1, r1, q1⟩ => ?_⟩
  split at q1
  · rename_i x k' fs hi
    split at q1
    · rename_i hk
      obtain ⟨rfl, hl⟩ := hk
      split at q1
      rotate_left
      · exact q1.elim
      rename_i fs' hp
      obtain ⟨oa, h1, h2⟩ := R1.e
      obtain ⟨hσ, ho, hm, dx, gs, hH, fl⟩ := h1 i _ hi
      have gw := gr_own (ρ := ρ1) (o := .ins (c.C k') dx (putF f v gs)) hm hH
      refine ⟨_, hσ, c.s, c.C k', dx, gs, rfl, hH, h.cl, h.na, by rw [flds_len fl]; omega, q1 M ρ1 σ _ gw ⟨R1.s.own hm hH (fun _ _ => ins_code), by simpa using R1.len, oa, fun j sl e => ?_, fun j j2 o u e1 e2 e3 => ?_⟩⟩
      · rcases env_set e with ⟨rfl, rfl⟩ | ⟨hj, e⟩
        · exact ⟨hσ, ho, hm, dx, _, upd_same, flds_grow (flds_put r1 fl h.ix hp) gw⟩
        · have hq := h1 j sl e
          match sl, hq with
          | .no, _ => trivial
          | .ev e, ⟨v, a, b⟩ => exact ⟨v, a, b.grow gw⟩
          | .own (.lst xs), ⟨a, b, vs, d, r⟩ =>
            have ne : oa j ≠ c.s := fun z => hj (h2 j i _ _ e hi (z.trans ho.symm))
            exact ⟨a, b, vs, by rw [upd_ne ne]; exact d, reps_grow r gw⟩
          | .own (.ins k2 f2), ⟨a, o2, b⟩ => exact absurd (h2 j i _ _ e hi (o2.trans ho.symm)) hj
          | .exn k2 f2, ⟨a, b⟩ => exact ⟨a, b.grow gw⟩
      · rcases env_set e1 with ⟨h5, _⟩ | ⟨_, f1⟩
        · rcases env_set e2 with ⟨h6, _⟩ | ⟨_, f2⟩
          · rw [h5, h6]
          · rw [h5] at e3 ⊢; exact h2 i j2 _ _ hi f2 e3
        · rcases env_set e2 with ⟨h6, _⟩ | ⟨_, f2⟩
          · rw [h6] at e3 ⊢; exact h2 j i _ _ f1 hi e3
          · exact h2 j j2 _ _ f1 f2 e3
    · exact q1.elim
  · exact q1.elim
end
/-! ### making an instance -/
/-- an __init__: from the arguments behind self the fields -/
abbrev IM := List EV → GS → Out (List D)
def SpI (K : PySem.W.Frag) (C : String → Addr) (N : String → List Str) (k : String) (n : Ar) (g : IM) : Sp := fun vs H Q E => ∃ (x : Addr) (rest : List V), vs = .ref x :: rest ∧ n rest.length = true ∧ ∃ (B : Addr → Prop) (ρ : List Addr) (G : GS) (es : List EV) (dx : Addr),
  SR ⟨K, C, N, B, x, 0⟩ (· = x) ρ G H ∧ All2 (RepE ⟨K, C, N, B, x, 0⟩ (· = x) ρ H) es rest ∧ H x = some (.ins (C k) dx []) ∧ ¬ B x ∧
  (match g es G with
  | .ok fs G' => ∀ dy gs ρ' H', Gr (· = x) ρ H nM ρ' H' → SR ⟨K, C, N, B, x, 0⟩ nM ρ' G' H' → H' x = some (.ins (C k) dy gs) → Flds ⟨K, C, N, B, x, 0⟩ nM ρ' H' k fs gs → Q .non H'
  | .er cl fs G' => ∀ dd gs ρ' H', Gr (· = x) ρ H nM ρ' H' → SR ⟨K, C, N, B, x, 0⟩ nM ρ' G' H' → XA H' dd gs → Flds ⟨K, C, N, B, x, 0⟩ nM ρ' H' cl fs gs → E (.ref (C cl)) dd H'
  | .st => False)
abbrev FnI (P : Program) (w : World) (K : PySem.W.Frag) (mg : Str → Option Value) (base : Heap) (C : String → Addr) (N : String → List Str) (c : Nat) (f : Addr) (k : String) (n : Ar) (g : IM) : Prop := FnR P w K mg base (L2N.CX P w) c f (SpI K C N k n g)
def envI (n : Nat) (k : String) (es : List EV) : En := Sl.own (.ins k []) :: (es.map Sl.ev ++ List.replicate (n - 1 - es.length) Sl.no)
def retI (k : String) (o : OutS) : Out (List D) := match o with
  | .nx env G => match (env[0]? : Option Sl) with
    | some (Sl.own (OW.ins k' fs)) => if k' = k then .ok fs G else .st
    | _ => .st
  | .er c fs _ G => .er c fs G
  | _ => .st
def runI (n : Nat) (k : String) (m : SM) : IM := fun es G => retI k (m (envI n k es) G)
end DL
set_option Elab.async false
set_option linter.all false
set_option maxRecDepth 100000
set_option maxHeartbeats 4000000
namespace DL
open PySem L2 PyProof.Rows StX
section
variable {P : Program} {w : World} {K : PySem.W.Frag} {mg : Str → Option Value} {base : Heap} {C : String → Addr} {N : String → List Str}
theorem rl_init {c : RC} {ρ : List Addr} {G : GS} {es : List EV} {vs : List V} {H : Hp} {Nm : List Str} {k : String} {dx : Addr} (s : SR c (· = c.s) ρ G H) (r : All2 (RepE c (· = c.s) ρ H) es vs) (hx : H c.s = some (.ins (c.C k) dx [])) (hl : vs.length + 1 ≤ Nm.length) :
    Rl c (· = c.s) ρ G (envI Nm.length k es) (L2.start Nm (.ref c.s :: vs)) H := by
  have ev0 : ∀ (i : Nat) (sl : Sl), (envI Nm.length k es)[i]? = some sl → (i = 0 ∧ sl = .own (.ins k [])) ∨ (∃ j, i = j + 1 ∧ ((∃ x, es[j]? = some x ∧ sl = .ev x) ∨ sl = .no)) := fun i sl e => by
    unfold envI at e
    cases i with
    | zero => exact .inl ⟨rfl, (Option.some.inj e).symm⟩
    | succ j =>
      refine .inr ⟨j, rfl, ?_⟩
      rw [List.getElem?_cons_succ] at e
      by_cases hi : j < es.length
      · rw [List.getElem?_append_left (by simpa using hi), List.getElem?_map] at e
        cases q : es[j]? with
        | none => rw [q] at e; cases e
        | some x => rw [q] at e; exact .inl ⟨x, rfl, (Option.some.inj e).symm⟩
      · rw [List.getElem?_append_right (by simpa using hi)] at e
        exact .inr (List.eq_of_mem_replicate (List.mem_of_getElem? e))
  have hll := r.length
  refine ⟨s, by unfold envI L2.start; simp; omega, fun _ => c.s, fun i sl e => ?_, fun i j o u e1 e2 _ => ?_⟩
  · rcases ev0 i sl e with ⟨rfl, rfl⟩ | ⟨j, rfl, ⟨x, q, rfl⟩ | rfl⟩
    · exact ⟨rfl, rfl, rfl, dx, [], hx, ⟨by simp, .nil⟩⟩
    · obtain ⟨v, hv, rv⟩ := r.get q
      refine ⟨v, ?_, rv⟩
      unfold L2.start
      rw [List.getElem?_append_left (by simpa using (List.getElem?_eq_some_iff.mp hv).1), List.getElem?_map, List.getElem?_cons_succ, hv]
      rfl
    · trivial
  · rcases ev0 i _ e1 with ⟨h1, _⟩ | ⟨_, _, ⟨x, _, z⟩ | z⟩
    · rcases ev0 j _ e2 with ⟨h2, _⟩ | ⟨_, _, ⟨x, _, z⟩ | z⟩
      · rw [h1, h2]
      · cases z
      · cases z
    · cases z
    · cases z
/-- what an __init__'s body gives -/
def IQ (c : RC) (E : XK) (k : String) (ρ : List Addr) (H : Hp) (o : Out (List D)) (Q : VK) : Prop := match o with
  | .ok fs G' => ∀ dx gs ρ' H', Gr (· = c.s) ρ H nM ρ' H' → SR c nM ρ' G' H' → H' c.s = some (.ins (c.C k) dx gs) → Flds c nM ρ' H' k fs gs → Q .non H'
  | .er cl fs G' => ∀ dd gs ρ' H', Gr (· = c.s) ρ H nM ρ' H' → SR c nM ρ' G' H' → XA H' dd gs → Flds c nM ρ' H' cl fs gs → E (.ref (c.C cl)) dd H'
  | .st => False
theorem Gr.nm {M M' : Addr → Prop} {ρ ρ' : List Addr} {H H' : Hp} (g : Gr M ρ H M' ρ' H') : Gr M ρ H nM ρ' H' := ⟨g.keep, g.there, g.grow, fun _ z => z.elim⟩
theorem sq_init {c : RC} {E : XK} {k : String} {ρ : List Addr} {H : Hp} {o : OutS} {Q : VK} (h : IQ c E k ρ H (retI k o) Q) : SQ c (fun cls d _ H => E cls d H) (· = c.s) ρ H o { nx := fun _ H' => Q .non H', rt := Q } := by
  cases o with
  | nx env G =>
    intro M' ρ' σ' H' g R
    unfold retI at h
    dsimp only at h
    split at h
    · rename_i k' fs he
      split at h
      · rename_i hk
        subst hk
        obtain ⟨oa, h1, _⟩ := R.e
        obtain ⟨_, _, _, dx, gs, hH, fl⟩ := h1 0 _ he
        exact h dx gs ρ' H' g.nm R.s.drop hH (flds_cv cv_drop fl)
      · exact h.elim
    · exact h.elim
  | rt e G => exact (show False from h).elim
  | er cl fs e G => exact fun M' ρ' σ' H' dd gs g R e f => h dd gs ρ' H' g.nm R.s.drop e (flds_cv cv_drop f)
  | bk e G => exact (show False from h).elim
  | ct e G => exact (show False from h).elim
  | st => exact h
theorem fni_of {x qual s1 : Str} {st : Stmt} {f : Addr} {fd : FuncData} {Nm ps : List Str} {k : Nat} {cl : String} {m : SM} (F : Fun K x qual st f fd) (S : FnScope Nm (s1 :: ps) (defScope st)) (bd : Binds K fd (s1 :: ps) [])
    (hb : ∀ (cdv : Value) (A : Around) (outer : List Env) (s : Shared) (H : Hp) (E : XK) (B : Addr → Prop) (x : Addr), Room k (A.deeper (envOfC qual (defScope st) s.heap.objs.size f cdv)) →
      DSs (cxOf (L2N.CX P w) P w K mg base Nm qual (defScope st) f cdv A outer s H E) ⟨K, C, N, B, x, 0⟩ (fun cls d _ H => E cls d H) (defBody st) m) : FnI P w K mg base C N (k + 1) f cl (arN ps.length) (runI Nm.length cl m) := by
  have hlN : (s1 :: ps).length ≤ Nm.length := by have := congrArg List.length S.pre; rw [List.length_take] at this; omega
  have G : FnOk P w K mg base (L2N.CX P w) (k + 1) f fd (s1 :: ps) (SpI K C N cl (arN ps.length) (runI Nm.length cl m)) := by
    obtain ⟨oc, od, kV, doc, pm, an, cdv, ct, osl, rfl, lk, hcd⟩ := F.ex
    refine fn_of lk hcd S (fun vs H Q E ⟨x, rest, e, hl, _⟩ => by rw [e]; simpa [arN] using hl) fun A outer s H vs Q E hr hsp => ?_
    obtain ⟨x, rest, rfl, hl, B, ρ, G, es, dx, s0, r, hx, hB, q⟩ := hsp
    have hl' : rest.length = ps.length := by simpa [arN] using hl
    refine ⟨_, hb cdv A outer s H E B x hr, (· = x), ρ, G, envI Nm.length cl es, rl_init (c := ⟨K, C, N, B, x, 0⟩) (Nm := Nm) s0 r hx (by rw [hl']; exact hlN), ?_⟩
    refine sq_init (c := ⟨K, C, N, B, x, 0⟩) (k := cl) ?_
    unfold IQ
    unfold runI at q
    cases ho : retI cl (m (envI Nm.length cl es) G) with
    | ok fs G' => rw [ho] at q; exact q
    | er c2 fs G' => rw [ho] at q; exact q
    | st => rw [ho] at q; exact q
  exact FnR.imp (G.raw bd .nil) fun vs H Q E h => by rw [List.append_nil]; exact h
end
/-! ### stars -/
/-- def f(a, .., *v): the arguments behind the first k as one tuple -/
def starA (k : Nat) (es : List EV) : Option (List EV) := (datas (es.drop k)).bind fun ds => if ds.length ≤ 1000 then some (es.take k ++ [.d (.tup ds)]) else none
def arS (k : Nat) : Ar := fun m => decide (k ≤ m)
def starI (k : Nat) (g : IM) : IM := fun es G => match starA k es with
  | some es' => g es' G
  | none => .st
section
variable {c : RC} {M : Addr → Prop} {ρ : List Addr} {H : Hp} {G : GS}
theorem all2_take {α β : Type} {R : α → β → Prop} : ∀ (n : Nat) {as : List α} {bs : List β}, All2 R as bs → All2 R (as.take n) (bs.take n)
  | 0, _, _, _ => by simp; exact .nil
  | n + 1, _, _, .nil => .nil
  | n + 1, _, _, .cons r t => .cons r (all2_take n t)
theorem all2_drop {α β : Type} {R : α → β → Prop} : ∀ (n : Nat) {as : List α} {bs : List β}, All2 R as bs → All2 R (as.drop n) (bs.drop n)
  | 0, _, _, h => h
  | n + 1, _, _, .nil => .nil
  | n + 1, _, _, .cons r t => all2_drop n t
/-- the new tuple -/
theorem star_new {es es' : List EV} {vs : List V} {k : Nat} {p : Addr} (s : SR c M ρ G H) (r : All2 (RepE c M ρ H) es vs) (h : starA k es = some es') (hp : H p = none) : (vs.drop k).length ≤ sizeLine ∧ SR c M ρ G (upd H p (.tup (vs.drop k))) ∧ All2 (RepE c M ρ (upd H p (.tup (vs.drop k)))) es' (vs.take k ++ [V.ref p]) ∧ es'.length = (es.take k).length + 1 := by
  unfold starA at h
  cases hd : datas (es.drop k) with
  | none => rw [hd] at h; cases h
  | some ds =>
    rw [hd] at h
    dsimp only [Option.bind] at h
    split at h
    · rename_i hl
      injection h with h
      subst h
      have rr := datas_rep hd (all2_drop k r)
      have sm : Same H (upd H p (.tup (vs.drop k))) := same_upd hp
      refine ⟨by rw [← rr.length]; exact Nat.le_trans hl (by decide), s.same sm, ?_, by simp⟩
      refine All2.append (repEs_grow (all2_take k r) (Gr.same sm)) (.cons ?_ .nil)
      exact Rep.tup (.inl ⟨(s.fresh hp), .inl upd_same⟩) (reps_grow rr (Gr.same sm))
    · cases h
end
section
variable {P : Program} {w : World} {K : PySem.W.Frag} {mg : Str → Option Value} {base : Heap} {C : String → Addr} {N : String → List Str}
theorem cxUpN {P : Program} {w : World} : CXUp (L2N.CX P w) := by
  intro outer s H s2 H2 E e s' un kp ho z
  obtain ⟨a, B, H', cls, d, ea, fl, hok, ub, na, os, rest⟩ := z
  have fr : ∀ b o, s.heap.get? b = some o → H b = Option.none → H2 b = Option.none := fun b o q n => un.free b o q n (by simp)
  refine ⟨a, B, H', cls, d, ea, fl, hok, ?_, na, os.trans ho, rest⟩
  constructor
  case keep => exact fun b o q n => ub.keep b o (kp b o q) (fr b o q n)
  case slot => exact fun b o q => ub.slot b o (kp b o q)
  case free => exact fun b o q n => ub.free b o (kp b o q) (fr b o q n)
  case there => exact fun b o q => ub.there b o (kp b o q)
  case tups => exact fun b xs q => ub.tups b xs (un.tups b xs q)
  case frzs => exact fun b o xs q => ub.frzs b o xs (un.frzs b o xs q)
  case tbls =>
    intro b ps q
    rcases un.tbls b ps q with ⟨m, e⟩
    rcases ub.tbls b (ps ++ m) e with ⟨m', e'⟩
    exact ⟨m ++ m', by simpa using e'⟩
/-- how a def with a star binds -/
def BindS (fd : FuncData) (ps : List Str) (pv : Str) : Prop := ∀ us rest : List Value, us.length = ps.length → bindArgs fd ⟨us ++ rest, []⟩ = (newTuple rest >>= fun t => pure (ps.zip us ++ [(pv, t)]))
theorem fni_star {x qual s1 pv : Str} {st : Stmt} {f : Addr} {fd : FuncData} {Nm ps : List Str} {k : Nat} {cl : String} {m : SM} (F : Fun K x qual st f fd) (S : FnScope Nm ((s1 :: ps) ++ [pv]) (defScope st)) (bd : BindS fd (s1 :: ps) pv)
    (hb : ∀ (cdv : Value) (A : Around) (outer : List Env) (s : Shared) (H : Hp) (E : XK) (B : Addr → Prop) (x : Addr), Room k (A.deeper (envOfC qual (defScope st) s.heap.objs.size f cdv)) →
      DSs (cxOf (L2N.CX P w) P w K mg base Nm qual (defScope st) f cdv A outer s H E) ⟨K, C, N, B, x, 0⟩ (fun cls d _ H => E cls d H) (defBody st) m) : FnI P w K mg base C N (k + 1) f cl (arS ps.length) (starI ps.length (runI Nm.length cl m)) := by
  have hlN : ((s1 :: ps) ++ [pv]).length ≤ Nm.length := by have := congrArg List.length S.pre; rw [List.length_take] at this; omega
  obtain ⟨oc, od, kV, doc, pm, an, cdv, ct, osl, rfl, lk, hcd⟩ := F.ex
  refine FnR.imp (fn_star (sp := SpI K C N cl (arN (ps.length + 1)) (runI Nm.length cl m)) lk hcd S cxUpN bd fun A outer s H vs Q E hr hsp => ?_) fun vs H Q E h => ?_
  · obtain ⟨x, rest, rfl, hl, B, ρ, G, es, dx, s0, r, hx, hB, q⟩ := hsp
    have hl' : rest.length = ps.length + 1 := by simpa [arN] using hl
    refine ⟨_, hb cdv A outer s H E B x hr, (· = x), ρ, G, envI Nm.length cl es, rl_init (c := ⟨K, C, N, B, x, 0⟩) (Nm := Nm) s0 r hx (by rw [hl']; simpa using hlN), ?_⟩
    refine sq_init (c := ⟨K, C, N, B, x, 0⟩) (k := cl) ?_
    unfold IQ
    unfold runI at q
    cases ho : retI cl (m (envI Nm.length cl es) G) with
    | ok fs G' => rw [ho] at q; exact q
    | er c2 fs G' => rw [ho] at q; exact q
    | st => rw [ho] at q; exact q
  · obtain ⟨x, rest, rfl, hl, B, ρ, G, es, dx, s0, r, hx, hB, q⟩ := h
    have hl' : ps.length ≤ rest.length := by simpa [arS] using hl
    unfold starI at q
    cases he : starA ps.length es with
    | none => rw [he] at q; exact q.elim
    | some es' =>
      rw [he] at q
      dsimp only at q
      have hz : (rest.drop ps.length).length ≤ sizeLine := by
        unfold starA at he
        cases hd : datas (es.drop ps.length) with
        | none => rw [hd] at he; cases he
        | some ds =>
          rw [hd] at he
          dsimp only [Option.bind] at he
          split at he
          · rename_i hz
            rw [← (datas_rep hd (all2_drop ps.length r)).length]; exact Nat.le_trans hz (by decide)
          · cases he
      refine ⟨V.ref x :: rest.take ps.length, rest.drop ps.length, by simp, by simp [hl'], hz, fun p hp => ?_⟩
      obtain ⟨_, s2, r1, l1⟩ := star_new s0 r he hp
      have sm : Same H (upd H p (.tup (rest.drop ps.length))) := same_upd hp
      have gs : Gr (· = x) ρ H (· = x) ρ (upd H p (.tup (rest.drop ps.length))) := Gr.same sm
      refine ⟨x, rest.take ps.length ++ [V.ref p], by simp, by simp [arN, hl'], B, ρ, G, es', dx, s2, r1, sm _ _ hx, hB, ?_⟩
      cases ho : runI Nm.length cl m es' G with
      | ok fs G' => rw [ho] at q; exact fun dy gs' ρ' H' g s hy f => q dy gs' ρ' H' (gs.trans g) s hy f
      | er c2 fs G' => rw [ho] at q; exact fun dd gs' ρ' H' g s hy f => q dd gs' ρ' H' (gs.trans g) s hy f
      | st => rw [ho] at q; exact q
end
end DL
set_option Elab.async false
set_option linter.all false
set_option maxRecDepth 100000
set_option maxHeartbeats 4000000
namespace DL
open PySem L2 PyProof.Rows StX ClX
def mkO (cl : String) : Out (List D) → Out EV
  | .ok fs G => .ok (.d (.ins cl fs)) G
  | .er c fs G => .er c fs G
  | .st => .st
def eMake (cl : String) (A : Ar) (g : IM) (r : AM) : EM := fun env G => (r env G).bind fun xs G1 => if A xs.length = true then mkO cl (g xs G1) else .st
section
variable {X : Cx} {c : RC} {W : WX} {e o : Expr} {es : List Expr} {me mo : EM} {mr : AM} {pos p apos : Pos} {M : Addr → Prop} {ρ : List Addr} {σ : L2.St} {H : Hp} {G : GS} {env : En}
theorem spi_of {cl : String} {A : Ar} {g : IM} {es1 : List EV} {vs : List V} {G1 : GS} {Q : VK} {x dx : Addr} (s1 : SR c M ρ G1 H) (r1 : All2 (RepE c M ρ H) es1 vs) (q1 : TQ (RE c) c W M ρ σ H (if A es1.length = true then mkO cl (g es1 G1) else .st) Q)
    (hx : H x = none) (hd : H dx = none) (hne : dx ≠ x) : SpI c.K c.C c.N cl A g (.ref x :: vs) (upd (upd H dx (.own x)) x (.ins (c.C cl) dx [])) (fun v H2 => v = .non ∧ Q (.ref x) H2) (WE W σ) := by
  split at q1
  · rename_i hl
    have sm : Same H (upd (upd H dx (.own x)) x (.ins (c.C cl) dx [])) := fun b o q => by
      rw [upd_ne (ne_of_none q hx), upd_ne (ne_of_none q hd)]
      exact q
    have g0 : Gr nM ρ H (· = x) ρ (upd (upd H dx (.own x)) x (.ins (c.C cl) dx [])) := ⟨fun a o q _ _ => sm a o q, fun a o q => ⟨o, sm a o q⟩, ⟨[], by simp, by simp⟩, fun a e => .inr (by rw [e]; exact hx)⟩
    have fx := s1.fresh hx
    have v1 : Cv (sub c M) (· = x) ⟨c.K, c.C, c.N, fun a => c.B a ∨ M a, x, 0⟩ (· = x) ρ := ⟨rfl, rfl, rfl, fun _ h => h⟩
    have v2 : ∀ ρ', Cv (⟨c.K, c.C, c.N, fun a => c.B a ∨ M a, x, 0⟩ : RC) nM c M ρ' := fun ρ' => ⟨rfl, rfl, rfl, fun a h => ⟨fun z => h.1 (.inl z), fun z => h.1 (.inr z), h.2.2⟩⟩
    have back : ∀ {ρ' : List Addr} {H' : Hp}, Gr (· = x) ρ (upd (upd H dx (.own x)) x (.ins (c.C cl) dx [])) nM ρ' H' → Ge M ρ H ρ' H' ∧ x ∉ ρ' := fun {ρ' H'} g => by
      obtain ⟨ext, e1, e2⟩ := g.grow
      refine ⟨⟨fun a o q n => g.keep a o (sm a o q) n (ne_of_none q hx), fun a o q => g.there a o (sm a o q), ext, e1, fun a ha => ?_⟩, ?_⟩
      · have z := e2 a ha
        cases q : H a with
        | none => rfl
        | some o => rw [sm a o q] at z; cases z
      · rw [e1]; intro z
        rcases List.mem_append.mp z with z | z
        · exact fx.2.2 z
        · have := e2 x z; rw [upd_same] at this; cases this
    have srb : ∀ {ρ' : List Addr} {G' : GS} {H' : Hp}, SR (⟨c.K, c.C, c.N, fun a => c.B a ∨ M a, x, 0⟩ : RC) nM ρ' G' H' → SR c M ρ' G' H' := fun s =>
      s.cv (v2 _) (fun a h => ⟨fun z => (s.sep a h).1 (.inl z), fun z => (s.sep a h).1 (.inr z)⟩) (fun a z => s.bt a (.inr z)) fun a z => s.bt a (.inl z)
    refine ⟨x, vs, rfl, by rw [← r1.length]; exact hl, fun a => c.B a ∨ M a, ρ, G1, es1, dx, ?_, repEs_cv v1 (repEs_grow (repEs_cv cv_in r1) g0), upd_same, fun z => z.elim fx.1 fx.2.1, ?_⟩
    · have s2 : SR c M ρ G1 (upd (upd H dx (.own x)) x (.ins (c.C cl) dx [])) := s1.same sm
      refine ⟨s2.len, s2.nd, fun a h => ⟨fun z => z.elim (s2.sep a h).1 (s2.sep a h).2, fun z => fx.2.2 (by rw [← z]; exact h)⟩, fun i xs e => ?_, fun a z => by rw [z, upd_same]; simp, fun a z => z.elim (s2.bt a) (s2.mt a), fun i k e => s2.tb i k e⟩
      obtain ⟨a, us, h1, h2, h3⟩ := s1.at_ i xs e
      exact ⟨a, us, h1, sm _ _ h2, repEs_cv v1 (repEs_grow (repEs_cv cv_in h3) g0)⟩
    · cases ho : g es1 G1 with
      | ok fs G' =>
        rw [ho] at q1
        intro dy gs ρ' H' g s hy fl
        obtain ⟨ge, nx⟩ := back g
        exact ⟨rfl, q1 (.ref x) ρ' H' ge (srb s) (Rep.ins ⟨fx.1, fx.2.1, nx⟩ hy (flds_cv (v2 _) fl))⟩
      | er c2 fs G' =>
        rw [ho] at q1
        intro dd gs ρ' H' g s hy fl
        exact q1 dd gs ρ' H' (back g).1 (srb s) hy (flds_cv (v2 _) fl)
      | st => rw [ho] at q1; exact q1.elim
  · exact q1.elim
/-- an instance is made and its __init__ run, where what that lets out passes at this very state -/
theorem run_makeA {CX : CXT} {k : Nat} {f C : Addr} {sp : Sp} {E : XK} {Q : VK} {s : Shared} {pins : List (Addr × Obj)} {vs : List V} {us : List Value}
    (M : Mk X.K C f) (F : FnR X.prog X.w X.K X.mg X.base CX k f sp) (hr : Room (k + 1) X.A) (hx : PassesAt CX X σ E) (I : Inv X pins σ H s) (r : Vals vs us)
    (h : ∀ x dx, H x = Option.none → H dx = Option.none → dx ≠ x →
      sp (V.ref x :: vs) (upd (upd H dx (.own x)) x (.ins C dx [])) (fun v H2 => v = .non ∧ Q (.ref x) H2) E) :
    wpAny (model X.prog X.w) X.A (call (.ref C) us) (EP X pins σ Q) X.xe s := by
  let n := s.heap.objs.size
  have f0 : H n = Option.none := I.hok.fresh (Nat.le_refl n)
  have f1 : H (n + 1) = Option.none := I.hok.fresh (Nat.le_succ n)
  have q := h (n + 1) n f1 f0 (Nat.ne_of_lt n.lt_succ_self)
  have J := Inv.made (C := C) I
  have ra : Vals (V.ref (n + 1) :: vs) (Value.ref (n + 1) :: us) := .cons rfl r
  have z := F _ X.stack _ _ (Value.ref (n + 1) :: us) _ _ E (hr.make C us []) (J.env0.make C us []) ra q
  refine wpAny_call (make_map (f := f) I.kIn M.makes M.init (beq_iff_eq.mp M.fn) (codeAny_mono z fun res s' y => ?_))
  match res, y with
  | .error e, y => exact hx pins _ _ e s' J y
  | .ok (.ret u), y =>
    rcases J.after y with ⟨v, H3, J3, rv, hv, q3⟩
    cases hv
    exact ⟨rv, V.ref (n + 1), H3, J3, rfl, q3⟩
  | .ok .next, y => exact y.elim
  | .ok .brk, y => exact y.elim
  | .ok .cont, y => exact y.elim
variable {x : Str} {cl : String} {A : Ar} {g : IM} {k : Nat} {f : Addr}
theorem tda_make (h : tD c W (eMake cl A g mr) σ H Q) : tDA c W mr σ H fun vs H1 => ∀ x dx, H1 x = Option.none → H1 dx = Option.none → dx ≠ x → SpI c.K c.C c.N cl A g (V.ref x :: vs) (upd (upd H1 dx (.own x)) x (.ins (c.C cl) dx [])) (fun v H2 => v = .non ∧ Q (.ref x) H2) (WE W σ) := by
  obtain ⟨M, ρ, G, env, R, q⟩ := h
  exact ⟨M, ρ, G, env, R, (TQ.bind (R := RA c) q).imp fun v H1 ⟨ρ1, G1, e1, g1, s1, r1, q1⟩ x dx hx hd hne => spi_of s1 r1 q1 hx hd hne⟩
theorem de_make (Mc : Mk X.K (c.C cl) f) (F : FnI X.prog X.w X.K X.mg X.base c.C c.N k f cl A g) (hK : c.K = X.K) (hr : Room (k + 1) X.A) (hg : Gl X x) (hm : X.mg x = some (.ref (c.C cl))) (tk : L2N.Takes X W) (ha : DA X c W (e :: es) mr)
    (hdb : (x == ("__debug__" : Str)) = false := by decide) (he : starEach (e :: es) X.env = (false, eval e X.env) :: starEach es X.env := by rfl) (hpl : (backTo pos (starEach es X.env)).any (·.1) = false := by rfl) :
    DE X c W (.Call (.Name x p) (e :: es) [] pos) (eMake cl A g mr) := by
  refine ⟨fun pins s σ H Q I h => ?_⟩
  refine wpAny_Call_Name_kw (ld_glob I hg hm ?_ hdb)
  refine PySem.W.callWith_K (h₀ := X.base) I.ok.mod.kin Mc.kp (thn (PA.run ha pos pins s σ H _ I (tda_make h)) fun us s1 ⟨vs, H1, I1, r, q⟩ => ⟨I1.kIn, ?_⟩) he hpl
  rw [hK] at q
  exact run_makeA Mc F hr (L2N.passAt tk σ) I1 r q
theorem de_make0 (Mc : Mk X.K (c.C cl) f) (F : FnI X.prog X.w X.K X.mg X.base c.C c.N k f cl A g) (hK : c.K = X.K) (hr : Room (k + 1) X.A) (hg : Gl X x) (hm : X.mg x = some (.ref (c.C cl))) (tk : L2N.Takes X W) (hdb : (x == ("__debug__" : Str)) = false := by decide) :
    DE X c W (.Call (.Name x p) [] [] pos) (eMake cl A g aNil) := by
  refine ⟨fun pins s σ H Q I h => ?_⟩
  refine wpAny_Call_Name_kw (ld_glob I hg hm ?_ hdb)
  obtain ⟨M, ρ, G, env, R, q⟩ := h
  have q1 : TQ (RE c) c W M ρ σ H (if A ([] : List EV).length = true then mkO cl (g [] G) else .st) Q := q
  refine PySem.W.callWith_K0 I.kIn Mc.kp (run_makeA (us := []) (vs := []) Mc F hr (L2N.passAt tk σ) I .nil fun x dx hx hd hne => ?_)
  rw [← hK]
  exact spi_of R.s .nil q1 hx hd hne
theorem map_d {M : Addr → Prop} {ρ : List Addr} {H : Hp} {xs : List D} {vs : List V} (h : All2 (Rep c M ρ H) xs vs) : All2 (RepE c M ρ H) (xs.map .d) vs := by
  induction h with
  | nil => exact .nil
  | cons r t ih => exact .cons r ih
end
/-! ### methods -/
/-- the classes that have the method, with its meaning -/
def kfn : List (String × (Ar × FM)) → String → Option (Ar × FM)
  | [], _ => none
  | (k, g) :: r, k' => if k = k' then some g else kfn r k'
def eMeth (ms : List (String × (Ar × FM))) (mo : EM) (r : AM) : EM := fun env G => (mo env G).bind fun x G1 => match x with
  | .d (.ins k fs) => (match kfn ms k with
    | some (A, g) => (r env G1).bind fun xs G2 => if A (xs.length + 1) = true then g (.d (.ins k fs) :: xs) G2 else .st
    | none => .st)
  | _ => .st
/-- what a class must have for its method -/
structure HasM (P : Program) (w : World) (K : PySem.W.Frag) (mg : Str → Option Value) (base : Heap) (C : String → Addr) (N : String → List Str) (lv : Nat) (m : Str) (k : String) (A : Ar) (g : FM) : Prop where
  cl : Cls K (C k)
  no : ixf m (N k) = none
  fn : ∃ f, Meth K (C k) m f ∧ FnG P w K mg base C N lv f A g
section
variable {X : Cx} {c : RC} {W : WX} {e o : Expr} {es : List Expr} {me mo : EM} {mr : AM} {pos p apos : Pos} {M : Addr → Prop} {ρ : List Addr} {σ : L2.St} {H : Hp} {G : GS} {env : En} {pl : Sem Bool} {lv : Nat} {m : Str} {ms : List (String × (Ar × FM))}
/-- how the call of a method reads, row by row -/
abbrev MRow (X : Cx) (o : Expr) (m : Str) (ap : Pos) (args : List Expr) (pos : Pos) (pl : Sem Bool) : Prop :=
  eval (.Call (.Attribute o m ap) args [] pos) X.env =
    (do let ov ← eval o X.env; standAt ap.atName; let (f, first) ← holding [ov] (getMethod ov m pl); callWith pos f first (backTo pos (starEach args X.env)) (backToKw pos (keywordEach [] X.env)))
theorem de_meth0 (hK : c.K = X.K) (hr : Room lv X.A) (tk : L2N.Takes X W) (h : ∀ k A g, kfn ms k = some (A, g) → HasM X.prog X.w X.K X.mg X.base c.C c.N lv m k A g) (ho : DE X c W o mo)
    (ht : MRow X o m apos [] pos pl := by rfl) :
    DE X c W (.Call (.Attribute o m apos) [] [] pos) (eMeth ms mo aNil) := by
  refine ⟨fun pins s σ H Q I q => ?_⟩
  obtain ⟨M, ρ, G, env, R, q⟩ := q
  have h' : tD c W mo σ H fun x H1 => ∃ k fs A g, kfn ms k = some (A, g) ∧ ∃ ρ1 G1, SR c M ρ1 G1 H1 ∧ RepE c M ρ1 H1 (.d (.ins k fs)) x ∧ TQ (RE c) c W M ρ1 σ H1 (if A 1 = true then g [.d (.ins k fs)] G1 else .st) Q := by
    refine ⟨M, ρ, G, env, R, (TQ.bind (R := RE c) q).imp fun v H1 ⟨ρ1, G1, e1, g1, s1, r1, q1⟩ => ?_⟩
    split at q1
    · rename_i k fs
      split at q1
      · rename_i A g hk
        exact ⟨k, fs, A, g, hk, ρ1, G1, s1, r1, q1⟩
      · exact q1.elim
    · exact q1.elim
  refine PySem.W.methodCall_KW (pl := pl) (thn (PE.run ho pins s σ H _ I h') fun u s1 ⟨x, H1, I1, rx, k, fs, A, g, hk, ρ1, G1, sr1, r1, q1⟩ => ?_) ht
  have q2 := spd_of (es1 := [.d (.ins k fs)]) (n := A) sr1 (.cons r1 .nil) q1
  obtain ⟨a, dx, gs, rfl, z, ea, fl⟩ := Rep.of_ins r1
  obtain rfl : u = Value.ref a := rx
  obtain ⟨cl, no, f, mt, F⟩ := h k A g hk
  refine getmeth_ok I1 ea cl mt (flds_none fl no) ?_
  rw [hK] at q2
  exact PySem.W.callWith_K0 (first := [.ref a]) I1.kIn mt.kp (wpAny_call (run_fnA (us := [.ref a]) (vs := [.ref a]) F hr (L2N.passAt tk σ) I1 (.cons rfl .nil) q2))
/-- C.NAME, a constant of the class -/
theorem de_cval {x fn : Str} {p' : Pos} {cl : String} {mc u : Value} {d : D} {v : V} (hg : Gl X x) (hm : X.mg x = some (.ref (c.C cl))) (r : CRead X.K (c.C cl) mc) (k : CVal X.K (c.C cl) mc fn v u) (rv : ∀ M ρ H, Rep c M ρ H d v) (hdb : (x == ("__debug__" : Str)) = false := by decide)
    (hb : attributeBase (.Name x p') fn X.env (eval (.Name x p') X.env) = eval (.Name x p') X.env := by rfl) : DE X c W (.Attribute (.Name x p') fn pos) (eC d) := by
  refine pe_imp (pe_cval (pe_glob (v := V.ref (c.C cl)) hg hm rfl hdb) hb) fun σ H Q q => ?_
  obtain ⟨M, ρ, G, env, R, q⟩ := q
  exact ⟨c.C cl, mc, v, u, rfl, r, k, q.ok R.s (rv _ _ _)⟩
/-- C.m(..), m a classmethod: cls is handed in first -/
def eCMeth (cl : String) (A : Ar) (g : FM) (r : AM) : EM := fun env G => (r env G).bind fun xs G1 => if A (xs.length + 1) = true then g (.d (.cls cl) :: xs) G1 else .st
theorem run_cmA {CX : CXT} {k : Nat} {q g C : Addr} {sp : Sp} {E : XK} {Q : VK} {s : Shared} {pins : List (Addr × Obj)} {vs : List V} {us : List Value}
    (F : FnR X.prog X.w X.K X.mg X.base CX k g sp) (hr : Room k X.A) (hx : PassesAt CX X σ E)
    (I : Inv X ((q, PySem.W.methodObj (.ref g) (.ref C)) :: pins) σ H s) (r : Vals vs us) (h : sp (.ref C :: vs) H Q E) :
    wpAny (model X.prog X.w) X.A (call (.ref q) us) (EP X pins σ Q) X.xe s :=
  thn (wpAny_call (PySem.W.method_call (pin_at I) (run_fnA (vs := .ref C :: vs) (us := .ref C :: us) F hr hx I (.cons rfl r) h))) fun _ _ => unpinE
end
end DL
set_option Elab.async false
set_option linter.all false
set_option maxRecDepth 100000
set_option maxHeartbeats 4000000
namespace DL
open PySem L2 PyProof.Rows StX ClX
def toOpt {α : Type} : Out α → Option (α × GS)
  | .ok e G => some (e, G)
  | _ => none
def alt2 (f g : F2) : F2 := fun x y G => match f x y G with
  | some r => some r
  | none => g x y G
def alt1 (f g : F1) : F1 := fun x G => match f x G with
  | some r => some r
  | none => g x G
def altN (f g : FN) : FN := fun x G => match f x G with
  | some r => some r
  | none => g x G
/-- x op y by the class's own def: both are instances of it -/
def fOwn (cl : String) (A : Ar) (g : FM) : F2 := fun x y G => match x, y with
  | .d (.ins k fs), .d (.ins k' fs') => if k = cl ∧ k' = cl ∧ A 2 = true then toOpt (g [.d (.ins k fs), .d (.ins k' fs')] G) else none
  | _, _ => none
def fOwn1 (cl : String) (A : Ar) (g : FM) : F1 := fun x G => match x with
  | .d (.ins k fs) => if k = cl ∧ A 1 = true then toOpt (g [.d (.ins k fs)] G) else none
  | _ => none
section
variable {X : Cx} {c : RC} {M : Addr → Prop} {ρ : List Addr} {σ : L2.St} {H : Hp} {G : GS} {lv : Nat} {cl : String} {A : Ar} {g : FM} {f : Addr}
theorem opr_alt {F : Value → Value → Sem Value} {f g : F2} (h : OpR X F (V2 c f)) (k : OpR X F (V2 c g)) : OpR X F (V2 c (alt2 f g)) := opr_imp (h.or k) fun x y H Q ⟨M, ρ, G, a, b, s, ra, rb, q⟩ => by
  unfold alt2 at q
  cases hf : f a b G with
  | some r => rw [hf] at q; exact .inl ⟨M, ρ, G, a, b, s, ra, rb, by rw [hf]; exact q⟩
  | none => rw [hf] at q; exact .inr ⟨M, ρ, G, a, b, s, ra, rb, q⟩
theorem callr_or {F : Value} {r r' : List V → Hp → VK → Prop} (h : CallR X F r) (k : CallR X F r') : CallR X F (fun x H Q => r x H Q ∨ r' x H Q) := fun pins s σ H x v Q I rx q => q.elim (h pins s σ H x v Q I rx) (k pins s σ H x v Q I rx)
abbrev E0' : XK := fun _ _ _ => False
theorem pass0' {X : Cx} {σ : L2.St} : PassesAt (L2N.CX X.prog X.w) X σ E0' := fun _ _ _ _ _ _ ⟨_, _, _, _, _, _, _, _, _, _, _, _, h⟩ => h.elim
/-- a call that raises nothing, by values -/
theorem spd_opt {es : List EV} {vs : List V} {Q : VK} (s : SR c M ρ G H) (r : All2 (RepE c M ρ H) es vs) (hA : A es.length = true) (q : VQ c M ρ H (toOpt (g es G)) Q) : Spd c.K c.C c.N A g vs H Q E0' := by
  refine spd_of (W := fun _ _ _ _ => False) (σ := []) (es1 := es) s r ?_
  rw [if_pos hA]
  cases hg : g es G with
  | ok e G' => rw [hg] at q; exact q
  | er cl fs G' => rw [hg] at q; exact q.elim
  | st => rw [hg] at q; exact q.elim
theorem inst_at {pins : List (Addr × Obj)} {s : Shared} {a C dx : Addr} {fs : List (Str × V)} (I : Inv X pins σ H s) (h : H a = some (.ins C dx fs)) : ∃ ox od, PySem.W.InstAt s.heap a ox C od := by
  obtain ⟨ox, od, J, _⟩ := insC_at (X := X) I (C := C) (.inr ⟨dx, fs, h⟩)
  exact ⟨ox, od, J⟩
theorem dop_own {op : Operator} (hK : c.K = X.K) (hr : Room lv X.A) (hc : PySem.W.selfFirst X.K (c.C cl) = true) (hs : PySem.W.findIn X.K (.ref (c.C cl)) (PySem.dunder op.info.2) = some (some (.ref f))) (hf : PySem.W.isFn X.K (.ref f) = true) (F : FnG X.prog X.w X.K X.mg X.base c.C c.N lv f A g) :
    OpR X (binaryOp op) (V2 c (fOwn cl A g)) := by
  intro pins s σ H x y v u Q I rx ry ⟨M, ρ, G, a, b, sr, ra, rb, q⟩
  unfold fOwn at q
  split at q
  · rename_i k fs k' fs'
    split at q
    · rename_i hk
      obtain ⟨rfl, rfl, hA⟩ := hk
      have sp := spd_opt (A := A) (g := g) (es := [.d (.ins k' fs), .d (.ins k' fs')]) sr (.cons ra (.cons rb .nil)) hA q
      obtain ⟨p, dx, gs, rfl, z, ea, fl⟩ := Rep.of_ins ra
      obtain ⟨p', dx', gs', rfl, z', ea', fl'⟩ := Rep.of_ins rb
      cases (show v = Value.ref p from rx)
      cases (show u = Value.ref p' from ry)
      obtain ⟨ox, od, J⟩ := inst_at I ea
      obtain ⟨ox', od', J'⟩ := inst_at I ea'
      obtain ⟨m, hF⟩ := I.fr
      refine PySem.W.binop_K hF I.ok.mod.kin J J'.type hc hs hf ?_
      rw [hK] at sp
      refine wpAny_mono (wpAny_call (run_fnA (us := [.ref p, .ref p']) (vs := [.ref p, .ref p']) F hr pass0' I (.cons rfl (.cons rfl .nil)) sp)) (fun w s' hw => ?_) fun _ _ x => x
      obtain ⟨z', H', I', rz, qz⟩ := hw
      exact SlX.cmpback rz ⟨z', H', I', rz, qz⟩
    · exact q.elim
  · exact q.elim
end
/-! ### displays, subscripts, built-ins over lists -/
def lstMax : Nat := 100000
def eLst (r : AM) : EM := fun env G => (r env G).bind fun xs G1 => match datas xs with
  | some ds => if ds.length ≤ lstMax then .ok (.d (.lst ds)) G1 else .st
  | none => .st
def eTup (r : AM) : EM := fun env G => (r env G).bind fun xs G1 => match datas xs with
  | some ds => if ds.length ≤ lstMax then .ok (.d (.tup ds)) G1 else .st
  | none => .st
/-- a list that will be written: an object of the store -/
def eObj (r : AM) : EM := fun env G => (r env G).bind fun xs G1 => if xs.length ≤ lstMax then .ok (.o G1.length) (G1 ++ [.lst xs]) else .st
section
variable {X : Cx} {c : RC} {W : WX} {e : Expr} {es : List Expr} {mr : AM} {me : EM} {pos : Pos} {M : Addr → Prop} {ρ : List Addr} {σ : L2.St} {H : Hp} {G : GS}
theorem lst_ok {n : Nat} (h : n ≤ lstMax) : n ≤ sizeLine := Nat.le_trans h (by decide)
theorem de_lst (ha : DA X c W es mr) : DE X c W (.List es pos) (eLst mr) := by
  refine pe_imp (pe_lst ha) fun σ H Q q => ?_
  obtain ⟨M, ρ, G, env, R, q⟩ := q
  refine ⟨M, ρ, G, env, R, (TQ.bind (R := RA c) q).imp fun v H1 ⟨ρ1, G1, e1, g1, s1, r1, q1⟩ => ?_⟩
  split at q1
  · rename_i ds hd
    split at q1
    · rename_i hl
      have rr := datas_rep hd r1
      refine ⟨by rw [← rr.length]; exact lst_ok hl, fun p hp => ?_⟩
      have sm : Same H1 (upd H1 p (.lst v)) := same_upd hp
      exact q1.okS s1 sm (Rep.lst (.inl ⟨s1.fresh hp, .inl upd_same⟩) (reps_grow rr (Gr.same sm)))
    · exact q1.elim
  · exact q1.elim
theorem de_tup {n} (ha : DA X c W es mr) : DE X c W (.Tuple es n pos) (eTup mr) := by
  refine pe_imp (pe_tup ha) fun σ H Q q => ?_
  obtain ⟨M, ρ, G, env, R, q⟩ := q
  refine ⟨M, ρ, G, env, R, (TQ.bind (R := RA c) q).imp fun v H1 ⟨ρ1, G1, e1, g1, s1, r1, q1⟩ => ?_⟩
  split at q1
  · rename_i ds hd
    split at q1
    · rename_i hl
      have rr := datas_rep hd r1
      refine ⟨by rw [← rr.length]; exact lst_ok hl, fun p hp => ?_⟩
      have sm : Same H1 (upd H1 p (.tup v)) := same_upd hp
      exact q1.okS s1 sm (Rep.tup (.inl ⟨s1.fresh hp, .inl upd_same⟩) (reps_grow rr (Gr.same sm)))
    · exact q1.elim
  · exact q1.elim
/-- a new object of the store -/
theorem sr_new {xs : List EV} {vs : List V} {p : Addr} (s : SR c M ρ G H) (r : All2 (RepE c M ρ H) xs vs) (hp : H p = none) : Ge M ρ H (ρ ++ [p]) (upd H p (.lst vs)) ∧ SR c M (ρ ++ [p]) (G ++ [.lst xs]) (upd H p (.lst vs)) ∧ (ρ ++ [p])[G.length]? = some p := by
  have sm : Same H (upd H p (.lst vs)) := same_upd hp
  have fx := s.fresh hp
  have g : Ge M ρ H (ρ ++ [p]) (upd H p (.lst vs)) := ⟨fun a o e _ => sm a o e, fun a o e => ⟨o, sm a o e⟩, [p], rfl, by simpa using hp⟩
  refine ⟨g, ⟨by simp [s.len], ?_, fun a h => ?_, fun i ys e => ?_, fun a m => same_ne sm (s.mt a m), fun a m => same_ne sm (s.bt a m), fun i k e => ?_⟩, ?_⟩
  · rw [List.nodup_append]
    exact ⟨s.nd, by simp, fun a h1 b h2 => by
      have : b = p := by simpa using h2
      subst this
      rintro rfl
      exact fx.2.2 h1⟩
  · rcases List.mem_append.mp h with h | h
    · exact s.sep a h
    · have : a = p := by simpa using h
      subst this
      exact ⟨fx.1, fx.2.1⟩
  · by_cases hi : i < G.length
    · rw [List.getElem?_append_left hi] at e
      obtain ⟨a, us, h1, h2, h3⟩ := s.at_ i ys e
      exact ⟨a, us, by rw [List.getElem?_append_left (by rw [s.len]; exact hi)]; exact h1, sm _ _ h2, repEs_grow h3 g.gr⟩
    · rw [List.getElem?_append_right (by omega)] at e
      have hi2 : i - G.length = 0 := by
        have := (List.getElem?_eq_some_iff.mp e).1
        simp at this
        omega
      rw [hi2] at e
      cases e
      have hi3 : i = ρ.length := by rw [s.len]; omega
      subst hi3
      exact ⟨p, vs, by simp, upd_same, repEs_grow r g.gr⟩
  · by_cases hi : i < G.length
    · rw [List.getElem?_append_left hi] at e
      obtain ⟨h1, t⟩ := s.tb i k e
      exact ⟨by rw [List.getElem?_append_left (by rw [s.len]; exact hi)]; exact h1, t.ext sm⟩
    · rw [List.getElem?_append_right (by omega)] at e
      have hi2 : i - G.length = 0 := by
        have := (List.getElem?_eq_some_iff.mp e).1
        simp at this
        omega
      rw [hi2] at e
      cases e
  · rw [← s.len]; simp
theorem de_obj (ha : DA X c W es mr) : DE X c W (.List es pos) (eObj mr) := by
  refine pe_imp (pe_lst ha) fun σ H Q q => ?_
  obtain ⟨M, ρ, G, env, R, q⟩ := q
  refine ⟨M, ρ, G, env, R, (TQ.bind (R := RA c) q).imp fun v H1 ⟨ρ1, G1, e1, g1, s1, r1, q1⟩ => ?_⟩
  split at q1
  · rename_i hl
    refine ⟨by rw [← r1.length]; exact lst_ok hl, fun p hp => ?_⟩
    obtain ⟨g, s2, e2⟩ := sr_new s1 r1 hp
    exact q1 (.ref p) _ _ g s2 ⟨p, e2, rfl⟩
  · exact q1.elim
end
def fIx : F2 := fun x y G => match x, y with
  | .d (.lst xs), .d (.int i) => (atI xs i).map fun z => (.d z, G)
  | .d (.tup xs), .d (.int i) => (atI xs i).map fun z => (.d z, G)
  | .o k, .d (.int i) => (match (G[k]? : Option GO) with
    | some (GO.lst xs) => (atI xs i).map fun z => (z, G)
    | _ => none)
  | _, _ => none
end DL
set_option Elab.async false
set_option linter.all false
set_option maxRecDepth 100000
set_option maxHeartbeats 4000000
namespace DL
open PySem L2 PyProof.Rows StX ClX
/-! ### what is walked -/
/-- J gives the items ds, in every later state -/
def ItR (c : RC) (M : Addr → Prop) (ρ : List Addr) (J : It) (ds : List D) (H : Hp) : Prop := ∀ M2 ρ2 H2, Gr M ρ H M2 ρ2 H2 → ∀ i, (∀ d, ds[i]? = some d → J.go i H2 ∧ ∀ x H3, J.yld i H2 x H3 → Same H2 H3 ∧ Rep c M2 ρ2 H3 d x) ∧ (ds.length ≤ i → J.stop i H2)
abbrev LM := En → GS → Out (List D)
def tDI (c : RC) (W : WX) (m : LM) : TI := fun σ H R => ∃ M ρ G env, Rl c M ρ G env σ H ∧ (match m env G with
  | .ok ds G' => ∀ J ρ' H', Ge M ρ H ρ' H' → SR c M ρ' G' H' → ItR c M ρ' J ds H' → R J H'
  | .er cl fs G' => ∀ dd gs ρ' H', Ge M ρ H ρ' H' → SR c M ρ' G' H' → XA H' dd gs → Flds c M ρ' H' cl fs gs → W (.ref (c.C cl)) dd σ H'
  | .st => False)
def DI (X : Cx) (c : RC) (W : WX) (tg e : Expr) (m : LM) : Prop := PI X tg e (tDI c W m)
theorem pi_imp {X : Cx} {tg e : Expr} {t t' : TI} (h : PI X tg e t) (k : ∀ σ H R, t' σ H R → t σ H R) : PI X tg e t' := ⟨fun pins s σ H R I q => h.run pins s σ H R I (k σ H R q)⟩
def lSeq (m : EM) : LM := fun env G => (m env G).bind fun e G1 => match e with
  | .d (.lst xs) => .ok xs G1
  | _ => .st
def lTup (m : EM) : LM := fun env G => (m env G).bind fun e G1 => match e with
  | .d (.tup xs) => .ok xs G1
  | _ => .st
def lRng (lo : Int) (n : Nat) : List D := (List.range n).map fun i : Nat => .int (lo + i)
def rngMax : Int := 1000000
def lRng1 (r : AM) : LM := fun env G => (r env G).bind fun xs G1 => match xs with
  | [.d (.int j)] => if -rngMax ≤ j ∧ j ≤ rngMax then .ok (lRng 0 j.toNat) G1 else .st
  | _ => .st
section
variable {X : Cx} {c : RC} {W : WX} {e a b tg : Expr} {es : List Expr} {mr : AM} {me : EM} {pos p : Pos} {M : Addr → Prop} {ρ : List Addr} {σ : L2.St} {H : Hp} {G : GS}
/-- the items behind an expression -/
theorem tdi_of {α β : Type} {Rr : (Addr → Prop) → List Addr → Hp → α → β → Prop} {m : En → GS → Out α} {k : α → GS → Out (List D)} {env : En} {R : It → Hp → Prop} (Rl0 : Rl c M ρ G env σ H)
    (h : (match (m env G).bind k with
  | .ok ds G' => ∀ J ρ' H', Ge M ρ H ρ' H' → SR c M ρ' G' H' → ItR c M ρ' J ds H' → R J H'
  | .er cl fs G' => ∀ dd gs ρ' H', Ge M ρ H ρ' H' → SR c M ρ' G' H' → XA H' dd gs → Flds c M ρ' H' cl fs gs → W (.ref (c.C cl)) dd σ H'
  | .st => False)) (hk : ∀ x G1, (∃ ds, k x G1 = .ok ds G1) ∨ k x G1 = .st) :
    TQ Rr c W M ρ σ H (m env G) fun v H1 => ∃ ρ1 G1 x ds, Ge M ρ H ρ1 H1 ∧ SR c M ρ1 G1 H1 ∧ Rr M ρ1 H1 x v ∧ k x G1 = .ok ds G1 ∧ ∀ J, ItR c M ρ1 J ds H1 → R J H1 := by
  cases hm : m env G with
  | ok x G1 =>
    rw [hm] at h
    intro v ρ1 H1 g s r
    rcases hk x G1 with ⟨ds, hd⟩ | hd
    · refine ⟨ρ1, G1, x, ds, g, s, r, hd, fun J hJ => ?_⟩
      have h' : ∀ J ρ' H', Ge M ρ H ρ' H' → SR c M ρ' G1 H' → ItR c M ρ' J ds H' → R J H' := by
        have z : (Out.ok x G1).bind k = .ok ds G1 := hd
        rw [z] at h
        exact h
      exact h' J ρ1 H1 g s hJ
    · have z : (Out.ok x G1).bind k = .st := hd
      rw [z] at h
      exact h.elim
  | er cl fs G1 => rw [hm] at h; exact h
  | st => rw [hm] at h; exact h
theorem di_lst (hK : c.K = X.K) (he : DE X c W e me) : DI X c W tg e (lSeq me) := by
  refine pi_imp (pi_list he) fun σ H R q => ?_
  obtain ⟨M, ρ, G, env, R0, q⟩ := q
  refine ⟨M, ρ, G, env, R0, (tdi_of (Rr := RE c) R0 q (fun x G1 => ?_)).imp fun v H1 ⟨ρ1, G1, x, ds, g, s, r, hd, hJ⟩ => ?_⟩
  · skip
    split
    · exact .inl ⟨_, rfl⟩
    · exact .inr rfl
  · skip
    split at hd
    · rename_i xs
      injection hd with hd _
      subst hd
      obtain ⟨p, vs, rfl, z, rr⟩ := Rep.of_lst r
      refine ⟨p, rfl, ⟨vs, by rw [← hK]; exact z.sq⟩, hJ _ fun M2 ρ2 H2 g2 i => ⟨fun d hd => ?_, fun hl => ?_⟩⟩
      · have z2 := z.grow g2
        have r2 := reps_grow rr g2
        obtain ⟨v, hv, rv⟩ := r2.get hd
        refine ⟨⟨vs, v, by rw [← hK]; exact z2.sq, hv⟩, fun x H3 ⟨e3, y⟩ => ?_⟩
        subst e3
        have := y vs (by rw [← hK]; exact z2.sq)
        rw [hv] at this
        cases this
        exact ⟨same_refl, rv⟩
      · exact ⟨vs, by rw [← hK]; exact (z.grow g2).sq, by rw [← rr.length]; exact hl⟩
    · cases hd
theorem di_tup (hK : c.K = X.K) (he : DE X c W e me) : DI X c W tg e (lTup me) := by
  refine pi_imp (pi_tup he) fun σ H R q => ?_
  obtain ⟨M, ρ, G, env, R0, q⟩ := q
  refine ⟨M, ρ, G, env, R0, (tdi_of (Rr := RE c) R0 q (fun x G1 => ?_)).imp fun v H1 ⟨ρ1, G1, x, ds, g, s, r, hd, hJ⟩ => ?_⟩
  · skip
    split
    · exact .inl ⟨_, rfl⟩
    · exact .inr rfl
  · skip
    split at hd
    · rename_i xs
      injection hd with hd _
      subst hd
      obtain ⟨p, vs, rfl, z, rr⟩ := Rep.of_tup r
      refine ⟨p, rfl, ⟨vs, by rw [← hK]; exact z.sq⟩, hJ _ fun M2 ρ2 H2 g2 i => ⟨fun d hd => ?_, fun hl => ?_⟩⟩
      · have z2 := z.grow g2
        have r2 := reps_grow rr g2
        obtain ⟨v, hv, rv⟩ := r2.get hd
        refine ⟨⟨vs, v, by rw [← hK]; exact z2.sq, hv⟩, fun x H3 ⟨e3, y⟩ => ?_⟩
        subst e3
        have := y vs (by rw [← hK]; exact z2.sq)
        rw [hv] at this
        cases this
        exact ⟨same_refl, rv⟩
      · exact ⟨vs, by rw [← hK]; exact (z.grow g2).sq, by rw [← rr.length]; exact hl⟩
    · cases hd
theorem itr_range {lo : Int} {n : Nat} : ItR c M ρ (Itr lo n) (lRng lo n) H := fun M2 ρ2 H2 g2 i => by
  refine ⟨fun d hd => ?_, fun hl => ?_⟩
  · unfold lRng at hd
    rw [List.getElem?_map] at hd
    cases e : (List.range n)[i]? with
    | none => rw [e] at hd; cases hd
    | some j =>
      rw [e] at hd
      cases hd
      obtain ⟨hi, ej⟩ := List.getElem?_eq_some_iff.mp e
      simp at hi ej
      subst ej
      exact ⟨hi, fun x H3 ⟨e3, ex⟩ => by subst e3; subst ex; exact ⟨same_refl, Rep.int⟩⟩
  · show n ≤ i
    simpa [lRng] using hl
theorem di_range1 (hg : Gl X "range") (hm : X.mg "range" = none) (ha : DA X c W [a] mr) (hs : starEach [a] X.env = [(false, eval a X.env)] := by rfl) : DI X c W tg (.Call (.Name "range" p) [a] [] pos) (lRng1 mr) := by
  refine pi_imp (pi_range1 hg hm ha hs) fun σ H R q => ?_
  obtain ⟨M, ρ, G, env, R0, q⟩ := q
  refine ⟨M, ρ, G, env, R0, (tdi_of (Rr := RA c) R0 q (fun x G1 => ?_)).imp fun v H1 ⟨ρ1, G1, x, ds, g, s, r, hd, hJ⟩ => ?_⟩
  · skip
    split
    · split
      · exact .inl ⟨_, rfl⟩
      · exact .inr rfl
    · exact .inr rfl
  · skip
    split at hd
    · split at hd
      · rename_i j hj
        injection hd with hd _
        subst hd
        cases r with
        | cons r t =>
          cases t
          cases Rep.of_int r
          unfold rngMax at hj
          exact ⟨j, rfl, by omega, by omega, hJ _ itr_range⟩
      · cases hd
    · cases hd
end
/-! ### for -/
def loopO (o : OutS) (k : En → GS → OutS) : OutS := match o with
  | .nx e g => k e g
  | .ct e g => k e g
  | .bk e g => .nx e g
  | o => o
def forL (k : Nat) (b : SM) : List D → En → GS → OutS
  | [], env, G => .nx env G
  | d :: ds, env, G => loopO (b (env.set k (.ev (.d d))) G) (forL k b ds)
def sFor (k : Nat) (m : LM) (b : SM) : SM := fun env G => ofE (m env G) env fun ds G1 => forL k b ds env G1
section
variable {X : Cx} {c : RC} {W : WX} {e tg : Expr} {body : List Stmt} {mr : LM} {mb : SM} {pos p : Pos} {M : Addr → Prop} {ρ : List Addr} {σ : L2.St} {H : Hp} {G : GS}
theorem SQ.loop {o : OutS} {k : SM} {Dn : Ends} {P : L2.St → Hp → Prop} (h : SQ c W M ρ H (loopO o k) Dn)
    (hP : ∀ env G M' ρ' σ' H', Gr M ρ H M' ρ' H' → Rl c M' ρ' G env σ' H' → SQ c W M' ρ' H' (k env G) Dn → P σ' H') : SQ c W M ρ H o { Dn with nx := P, ct := P, bk := Dn.nx } := by
  cases o with
  | nx env G => exact fun M' ρ' σ' H' g R => hP env G M' ρ' σ' H' g R (SQ.grow h g)
  | ct env G => exact fun M' ρ' σ' H' g R => hP env G M' ρ' σ' H' g R (SQ.grow h g)
  | bk env G => exact h
  | rt e G => exact h
  | er cl fs e G => exact h
  | st => exact h
theorem ds_for {k : Nat} {x : Str} (hp : PassesOwn (model X.prog X.w) X.A X.env X.xe) (hc : X.calm = true) (hi : DI X c W (.Name x p) e mr) (hg : PG X (.Name x p) (gName k)) (hb : DSs X c W body mb)
    (hs : ∀ x, foldedSetIterable e X.env x = pure x := by intro _; rfl) : DS X c W (.For (.Name x p) e body [] pos) (sFor k mr mb) := by
  refine ps_imp (ps_for hp hc hi hg hb hs) fun Dn σ H q => ?_
  obtain ⟨M, ρ, G, env, R0, q⟩ := q
  refine ⟨M, ρ, G, env, R0, ?_⟩
  unfold sFor at q
  cases hm : mr env G with
  | st => rw [hm] at q; exact q
  | er cl fs G1 => rw [hm] at q; exact fun dd gs ρ' H' g s z f => q M ρ' σ H' dd gs g.gr (R0.ge g s) z f
  | ok ds G1 =>
    rw [hm] at q
    intro J ρ1 H1 g1 s1 hJ
    have q1 : SQ c W M ρ1 H1 (forL k mb ds env G1) Dn := SQ.grow q g1.gr
    let Pv : Nat → L2.St → Hp → Prop := fun i σ H => ∃ M' ρ' G' env', Gr M ρ1 H1 M' ρ' H ∧ Rl c M' ρ' G' env' σ H ∧ SQ c W M' ρ' H (forL k mb (ds.drop i) env' G') Dn
    refine ⟨fun i m σ H => m = ds.length - i ∧ i ≤ ds.length ∧ Pv i σ H, ⟨ds.length, by simp, Nat.zero_le _, M, ρ1, G1, env, Gr.refl, R0.ge g1 s1, q1⟩, ?_⟩
    rintro i m σ2 H2 ⟨rfl, hi, M', ρ', G', env', g', R', q'⟩
    have z := hJ M' ρ' H2 g' i
    by_cases hlt : i < ds.length
    · refine .inr ?_
      obtain ⟨zg, zy⟩ := z.1 ds[i] (List.getElem?_eq_getElem hlt)
      refine ⟨zg, Pv (i + 1), fun σ' H' p' => ⟨ds.length - (i + 1), by omega, rfl, hlt, p'⟩, fun x H' y => ?_⟩
      obtain ⟨sm, rx⟩ := zy x H' y
      have R2 := (R'.same sm).set (i := k) (x := EV.d ds[i]) rx
      refine ⟨M', ρ', G', _, R2, ?_⟩
      rw [List.drop_eq_getElem_cons hlt] at q'
      have q2 : SQ c W M' ρ' H' (loopO (mb (env'.set k (.ev (.d ds[i]))) G') (forL k mb (ds.drop (i + 1)))) Dn := SQ.grow q' (Gr.same sm)
      exact SQ.loop q2 fun env2 G2 M2 ρ2 σ3 H3 g3 R3 q3 => ⟨M2, ρ2, G2, env2, (g'.trans (Gr.same sm)).trans g3, R3, q3⟩
    · have e : i = ds.length := by omega
      subst e
      rw [List.drop_length] at q'
      exact .inl ⟨z.2 (Nat.le_refl _), q' M' ρ' σ2 H2 Gr.refl R'⟩
end
/-! ### list comprehensions -/
def wipeE (env : En) : List Nat → En
  | [] => env
  | v :: vs => (wipeE env vs).set v .no
/-- nothing is raised out of a comprehension's element -/
def bindN {α β : Type} (o : Out α) (f : α → GS → Out β) : Out β := match o with
  | .ok a g => f a g
  | _ => .st
def lcL (k : Nat) (tt : BM) (te : EM) : List D → En → GS → Out (List D)
  | [], _, G => .ok [] G
  | d :: ds, env, G => bindN (tt (env.set k (.ev (.d d))) G) fun b G1 => if b = true then bindN (te (env.set k (.ev (.d d))) G1) fun y G2 => (match y with
      | .d y => bindN (lcL k tt te ds env G2) fun ys G3 => .ok (y :: ys) G3
      | _ => .st) else lcL k tt te ds env G1
def eLc (k : Nat) (vs : List Nat) (m : LM) (tt : BM) (te : EM) : EM := fun env G => (m env G).bind fun ds G1 => bindN (lcL k tt te ds (wipeE env vs) G1) fun ys G2 => if ys.length ≤ lstMax then .ok (.d (.lst ys)) G2 else .st
abbrev W0 : WX := fun _ _ _ _ => False
def DTs (X : Cx) (c : RC) (es : List Expr) (m : BM) : Prop := PTs X es (tDB c W0 m)
def bYes : BM := fun _ G => .ok true G
theorem dts_nil {X : Cx} {c : RC} : DTs X c [] bYes := ⟨fun pins s σ H Q I ⟨M, ρ, G, env, R, q⟩ => pts_nil.run pins s σ H Q I (q.ok R.s rfl)⟩
theorem dts_one {X : Cx} {c : RC} {e : Expr} {m : BM} (h : DB X c W0 e m) : DTs X c [e] m := pts_one h
section
variable {X : Cx} {c : RC} {W : WX} {elt e tg : Expr} {ifs : List Expr} {mr : LM} {mt : BM} {me : EM} {pos p : Pos} {M : Addr → Prop} {ρ : List Addr} {σ : L2.St} {H : Hp} {G : GS} {scope : Scope} {own : List (Str × Nat)}
theorem rl_wipe {env : En} (R : Rl c M ρ G env σ H) : ∀ vs : List Nat, Rl c M ρ G (wipeE env vs) (wipe σ vs) H
  | [] => R
  | v :: vs => by
    have Q := rl_wipe R vs
    obtain ⟨oa, h1, h2⟩ := Q.e
    have old : ∀ (j : Nat) (sl : Sl), ((wipeE env vs).set v .no)[j]? = some sl → sl = .no ∨ (j ≠ v ∧ (wipeE env vs)[j]? = some sl) := fun j sl e => by
      rcases env_set e with ⟨_, rfl⟩ | h
      · exact .inl rfl
      · exact .inr h
    refine ⟨Q.s, by unfold wipeE wipe; simpa using Q.len, oa, fun j sl e => ?_, fun i j o u e1 e2 e3 => ?_⟩
    · rcases old j sl e with rfl | ⟨hj, e⟩
      · trivial
      · have h := h1 j sl e
        have sg : (wipe σ (v :: vs))[j]? = (wipe σ vs)[j]? := (List.getElem?_set_ne (Ne.symm hj) : ((wipe σ vs).set v none)[j]? = _)
        match sl, h with
        | .no, _ => trivial
        | .ev e, ⟨v, a, b⟩ => exact ⟨v, by rw [sg]; exact a, b⟩
        | .own (.lst xs), ⟨a, b⟩ => exact ⟨by rw [sg]; exact a, b⟩
        | .own (.ins k fs), ⟨a, b⟩ => exact ⟨by rw [sg]; exact a, b⟩
        | .exn k fs, ⟨a, b⟩ => exact ⟨by rw [sg]; exact a, b⟩
    · rcases old i _ e1 with z | ⟨_, e1⟩
      · cases z
      · rcases old j _ e2 with z | ⟨_, e2⟩
        · cases z
        · exact h2 i j o u e1 e2 e3
/-- the frame with one more address of its own -/
theorem rl_more {env : En} {D : Addr} {o : HO} (R : Rl c M ρ G env σ H) (h : H D = none) : Rl c (fun a => M a ∨ a = D) ρ G env σ (upd H D o) := by
  have sm : Same H (upd H D o) := same_upd h
  have fx := R.s.fresh h
  have g : Gr M ρ H (fun a => M a ∨ a = D) ρ (upd H D o) := ⟨fun a o q _ _ => sm a o q, fun a o q => ⟨o, sm a o q⟩, ⟨[], by simp, by simp⟩, fun a z => z.elim .inl fun e => .inr (by rw [e]; exact h)⟩
  obtain ⟨oa, h1, h2⟩ := R.e
  refine ⟨⟨R.s.len, R.s.nd, fun a ha => ⟨(R.s.sep a ha).1, fun z => z.elim (R.s.sep a ha).2 fun e => fx.2.2 (by rw [← e]; exact ha)⟩, fun i xs e => ?_, fun a z => z.elim (fun z => same_ne sm (R.s.mt a z)) fun e => by rw [e, upd_same]; simp, fun a z => same_ne sm (R.s.bt a z), fun i k e => let ⟨p, t⟩ := R.s.tb i k e; ⟨p, t.ext sm⟩⟩, R.len, oa, fun i sl e => ?_, h2⟩
  · obtain ⟨a, vs, p, q, r⟩ := R.s.at_ i xs e
    exact ⟨a, vs, p, sm _ _ q, repEs_grow r g⟩
  · have hq := h1 i sl e
    match sl, hq with
    | .no, _ => trivial
    | .ev e, ⟨v, a, b⟩ => exact ⟨v, a, b.grow g⟩
    | .own (.lst xs), ⟨a, b, vs, d, r⟩ => exact ⟨a, ⟨.inl b.1, b.2⟩, vs, sm _ _ d, reps_grow r g⟩
    | .own (.ins k2 f2), ⟨a, o2, b, dx, gs, d, r⟩ => exact ⟨a, o2, .inl b, dx, gs, sm _ _ d, flds_grow r g⟩
    | .exn k2 f2, ⟨a, b⟩ => exact ⟨a, b.grow g⟩
end
end DL
set_option Elab.async false
set_option linter.all false
set_option maxRecDepth 100000
set_option maxHeartbeats 4000000
namespace DL
open PySem L2 PyProof.Rows StX ClX
theorem wipe_get {σ : L2.St} {j : Nat} : ∀ {vs : List Nat}, (wipe σ vs)[j]? = if j ∈ vs ∧ j < σ.length then some none else σ[j]?
  | [] => by simp [wipe]
  | v :: vs => by
    show ((wipe σ vs).set v none)[j]? = _
    by_cases h : v = j
    · subst h
      by_cases hl : v < σ.length
      · rw [List.getElem?_set_self (by rw [wipe_length]; exact hl)]
        simp [hl]
      · have e1 : ((wipe σ vs).set v none)[v]? = none := List.getElem?_eq_none (by rw [List.length_set, wipe_length]; omega)
        have e2 : σ[v]? = none := List.getElem?_eq_none (by omega)
        rw [e1, if_neg (fun z => hl z.2), e2]
    · rw [List.getElem?_set_ne h, wipe_get (vs := vs)]
      have : (j ∈ v :: vs) ↔ j ∈ vs := by
        constructor
        · intro z
          rcases List.mem_cons.mp z with z | z
          · exact absurd z.symm h
          · exact z
        · exact List.mem_cons_of_mem _
      simp [this]
theorem wipe_set {σ : L2.St} {k : Nat} {y : Option V} {vs : List Nat} (h : k ∈ vs) : wipe ((wipe σ vs).set k y) vs = wipe σ vs := by
  refine List.ext_getElem? fun j => ?_
  rw [wipe_get, List.length_set, wipe_length]
  by_cases hj : j ∈ vs ∧ j < σ.length
  · rw [if_pos hj, wipe_get, if_pos hj]
  · rw [if_neg hj]
    by_cases hk : k = j
    · subst hk
      have hl : ¬ k < σ.length := fun z => hj ⟨h, z⟩
      rw [List.getElem?_eq_none (by rw [List.length_set, wipe_length]; omega), List.getElem?_eq_none (by rw [wipe_length]; omega)]
    · rw [List.getElem?_set_ne hk]
section
variable {X : Cx} {c : RC} {W : WX} {elt e tg : Expr} {ifs : List Expr} {mr : LM} {mt : BM} {me : EM} {pos p : Pos} {M : Addr → Prop} {ρ : List Addr} {σ : L2.St} {H : Hp} {G : GS} {scope : Scope} {own : List (Str × Nat)} {k : Nat}
theorem RepN.zz {M1 M2 : Addr → Prop} {ρ1 ρ2 : List Addr} (hz : ∀ a, Zz c M1 ρ1 a → Zz c M2 ρ2 a) : ∀ {n : Nat} {d : DL.D} {u : V}, RepN c M1 ρ1 H n d u → RepN c M2 ρ2 H n d u := by
  intro n
  induction n with
  | zero => intro d u h; cases d <;> exact h
  | succ n ih =>
    intro d u h
    cases d with
    | tup xs => obtain ⟨a, vs, e, z, r⟩ := h; exact ⟨a, vs, e, z.imp (fun q => ⟨hz a q.1, q.2⟩) id, r.imp fun _ _ q => ih q⟩
    | lst xs => obtain ⟨a, vs, e, z, r⟩ := h; exact ⟨a, vs, e, z.imp (fun q => ⟨hz a q.1, q.2⟩) id, r.imp fun _ _ q => ih q⟩
    | ins k fs => obtain ⟨a, dx, gs, e, z, e2, nm, r⟩ := h; exact ⟨a, dx, gs, e, hz a z, e2, nm, r.imp fun _ _ q => ih q⟩
    | _ => exact h
theorem Rep.zz {M1 M2 : Addr → Prop} {ρ1 ρ2 : List Addr} (hz : ∀ a, Zz c M1 ρ1 a → Zz c M2 ρ2 a) {d : DL.D} {u : V} (h : Rep c M1 ρ1 H d u) : Rep c M2 ρ2 H d u := let ⟨n, q⟩ := h; ⟨n, RepN.zz hz q⟩
theorem map_dz {xs : List DL.D} {vs : List V} (h : All2 (Rep c M ρ H) xs vs) : All2 (RepE c M ρ H) (xs.map .d) vs := by
  induction h with
  | nil => exact .nil
  | cons r _ ih => exact .cons r ih
/-- while the new list at D grows -/
structure LcI (c : RC) (M : Addr → Prop) (ρ1 : List Addr) (H1 : Hp) (D : Addr) (ρ' : List Addr) (G' : GS) (envw : En) (σw : L2.St) (H : Hp) (done : List DL.D) : Prop where
  g : Ge M ρ1 H1 ρ' H
  nd : D ∉ ρ'
  s : SR c (fun a => M a ∨ a = D) ρ' G' H
  len : envw.length ≤ σw.length
  e : ∃ oa : Nat → Addr, (∀ (i : Nat) (sl : Sl), envw[i]? = some sl → SlR c (fun a => M a ∨ a = D) ρ' H oa σw i sl) ∧ (∀ (i j : Nat) (o u : OW), envw[i]? = some (.own o) → envw[j]? = some (.own u) → oa i = oa j → i = j) ∧ ∀ (i : Nat) (o : OW), envw[i]? = some (.own o) → oa i ≠ D
  at_ : ∃ acc, H D = some (.lst acc) ∧ All2 (Rep c (fun a => M a ∨ a = D) ρ' H) done acc
theorem LcI.r {ρ1 : List Addr} {H1 : Hp} {D : Addr} {ρ' : List Addr} {G' : GS} {envw : En} {σw : L2.St} {done : List DL.D} (L : LcI c M ρ1 H1 D ρ' G' envw σw H done) : Rl c (fun a => M a ∨ a = D) ρ' G' envw σw H :=
  let ⟨oa, h1, h2, _⟩ := L.e; ⟨L.s, L.len, oa, h1, h2⟩
theorem slr_ge {M' : Addr → Prop} {ρ' ρ2 : List Addr} {H' : Hp} {oa : Nat → Addr} {i : Nat} {sl : Sl} (hM : ∀ a, M' a → a ∉ ρ') (h : SlR c M' ρ' H oa σ i sl) (g : Ge M' ρ' H ρ2 H') : SlR c M' ρ2 H' oa σ i sl := by
  match sl, h with
  | .no, _ => trivial
  | .ev e, ⟨v, a, b⟩ => exact ⟨v, a, b.grow g.gr⟩
  | .own (.lst xs), ⟨a, b, vs, d, f⟩ => exact ⟨a, b, vs, g.keep _ _ d (hM _ b.1), reps_grow f g.gr⟩
  | .own (.ins k fs), ⟨a, o, b, dx, gs, d, f⟩ => exact ⟨a, o, b, dx, gs, g.keep _ _ d (hM _ b), flds_grow f g.gr⟩
  | .exn k fs, ⟨a, b⟩ => exact ⟨a, b.grow g.gr⟩
theorem lcI_ge {ρ1 : List Addr} {H1 : Hp} {D : Addr} {ρ' ρ2 : List Addr} {G' G2 : GS} {envw : En} {σw : L2.St} {H' : Hp} {done : List DL.D} (L : LcI c M ρ1 H1 D ρ' G' envw σw H done) (g : Ge (fun a => M a ∨ a = D) ρ' H ρ2 H') (s : SR c (fun a => M a ∨ a = D) ρ2 G2 H') : LcI c M ρ1 H1 D ρ2 G2 envw σw H' done := by
  obtain ⟨acc, hA, ra⟩ := L.at_
  obtain ⟨oa, h1, h2, h3⟩ := L.e
  have g' : Ge M ρ' H ρ2 H' := ⟨g.keep, g.there, g.grow⟩
  exact ⟨L.g.trans g', fun z => (s.sep D z).2 (.inr rfl), s, L.len, ⟨oa, fun i sl e => slr_ge (fun a m h => (L.s.sep a h).2 m) (h1 i sl e) g, h2, h3⟩, acc, g.keep D _ hA L.nd, reps_grow ra g.gr⟩
/-- one more item -/
theorem lcI_put {ρ1 : List Addr} {H1 : Hp} {D : Addr} {ρ' : List Addr} {G' : GS} {envw : En} {σw : L2.St} {done : List DL.D} {acc : List V} {y : DL.D} {v : V} (hD : H1 D = none) (L : LcI c M ρ1 H1 D ρ' G' envw σw H done) (hA : H D = some (.lst acc)) (ra : All2 (Rep c (fun a => M a ∨ a = D) ρ' H) done acc)
    (rv : Rep c (fun a => M a ∨ a = D) ρ' H y v) : LcI c M ρ1 H1 D ρ' G' envw σw (upd H D (.lst (acc ++ [v]))) (done ++ [y]) := by
  obtain ⟨oa, h1, h2, h3⟩ := L.e
  have hm' : (fun a => M a ∨ a = D) D := .inr rfl
  have gw := gr_own (M := fun a => M a ∨ a = D) (ρ := ρ') (o := .lst (acc ++ [v])) hm' hA
  have keepH : ∀ a o, H1 a = some o → (upd H D (.lst (acc ++ [v]))) a = H a := fun a o e => upd_ne (ne_of_none e hD)
  refine ⟨⟨fun a o e n => by rw [keepH a o e]; exact L.g.keep a o e n, fun a o e => by rw [keepH a o e]; exact L.g.there a o e, L.g.grow⟩, L.nd, L.s.own hm' hA (fun _ _ => lst_code), L.len, ⟨oa, fun i sl e => ?_, h2, h3⟩, acc ++ [v], upd_same, All2.append (reps_grow ra gw) (.cons (Rep.grow rv gw) .nil)⟩
  have h := h1 i sl e
  match sl, h, e with
  | .no, _, _ => trivial
  | .ev e, ⟨v, a, b⟩, _ => exact ⟨v, a, b.grow gw⟩
  | .own (.lst xs), ⟨a, b, vs, d, f⟩, e => exact ⟨a, b, vs, by rw [upd_ne (h3 i _ e)]; exact d, reps_grow f gw⟩
  | .own (.ins k fs), ⟨a, o, b, dx, gs, d, f⟩, e => exact ⟨a, o, b, dx, gs, by rw [upd_ne (by rw [← o]; exact h3 i _ e)]; exact d, flds_grow f gw⟩
  | .exn k fs, ⟨a, b⟩, _ => exact ⟨a, b.grow gw⟩
theorem cv_less {D : Addr} : Cv c (fun a => M a ∨ a = D) c M ρ := ⟨rfl, rfl, rfl, fun a h => ⟨h.1, fun z => h.2.1 (.inl z), h.2.2⟩⟩
/-- a comprehension whose list ends as Fin says -/
def eLcG {β : Type} (Fin : List DL.D → GS → Out β) (k : Nat) (vs : List Nat) (mr : LM) (mt : BM) (me : EM) : En → GS → Out β := fun env G => (mr env G).bind fun ds G1 => bindN (lcL k mt me ds (wipeE env vs) G1) fun ys G2 => if ys.length ≤ lstMax then Fin ys G2 else .st
def eLcF (Fin : List DL.D → GS → Out EV) (k : Nat) (vs : List Nat) (mr : LM) (mt : BM) (me : EM) : EM := fun env G => (mr env G).bind fun ds G1 => bindN (lcL k mt me ds (wipeE env vs) G1) fun ys G2 => if ys.length ≤ lstMax then Fin ys G2 else .st
/-- what is to be shown of Fin: the list that stands at D is it -/
def FinOk (c : RC) (W : WX) (Fin : List DL.D → GS → Out EV) : Prop := ∀ (M : Addr → Prop) (ρ1 ρ' : List Addr) (σ : L2.St) (G1 G' : GS) (H1 H2 : Hp) (D : Addr) (envw : En) (σw : L2.St) (done : List DL.D) (Q : VK),
  SR c M ρ1 G1 H1 → H1 D = none → LcI c M ρ1 H1 D ρ' G' envw σw H2 done → TQ (RE c) c W M ρ1 σ H1 (Fin done G') Q → Q (.ref D) H2
theorem tlc_ofG {β : Type} {Rr : (Addr → Prop) → List Addr → Hp → β → V → Prop} {Fin : List DL.D → GS → Out β} {wi : TI} {Q : VK} {vs : List Nat} {env : En} (R0 : Rl c M ρ G env σ H)
    (hF : ∀ (ρ1 ρ' : List Addr) (G1 G' : GS) (H1 H2 : Hp) (D : Addr) (done : List DL.D), Ge M ρ H ρ1 H1 → SR c M ρ1 G1 H1 → H1 D = none → LcI c M ρ1 H1 D ρ' G' (wipeE env vs) (wipe σ vs) H2 done → TQ Rr c W M ρ1 σ H1 (Fin done G') Q → Q (.ref D) H2)
    (hk : k ∈ vs) (hwi : ∀ R, tDI c W mr σ H R → wi σ H R) (q : TQ Rr c W M ρ σ H (eLcG Fin k vs mr mt me env G) Q) : tLc wi (gName k) (tDB c W0 mt) (tD c W0 me) vs σ H Q := by
  refine hwi _ ⟨M, ρ, G, env, R0, ?_⟩
  unfold eLcG at q
  cases hm : mr env G with
  | st => rw [hm] at q; exact q
  | er cl fs G1 => rw [hm] at q; exact q
  | ok ds G1 =>
    rw [hm] at q
    intro J ρ1 H1 g1 s1 hJ D hD
    have R1 := R0.ge g1 s1
    have q1 : TQ Rr c W M ρ1 σ H1 (bindN (lcL k mt me ds (wipeE env vs) G1) fun ys G2 => if ys.length ≤ lstMax then Fin ys G2 else .st) Q := TQ.grow q g1
    -- what is left to do, behind done
    let Pv : Nat → Hp → Prop := fun i H => ∃ ρ' G' done, LcI c M ρ1 H1 D ρ' G' (wipeE env vs) (wipe σ vs) H done ∧ done.length ≤ lstMax ∧ (∀ ys G3, lcL k mt me (ds.drop i) (wipeE env vs) G' = .ok ys G3 → (done ++ ys).length ≤ lstMax) ∧
      TQ Rr c W M ρ1 σ H1 (bindN (lcL k mt me (ds.drop i) (wipeE env vs) G') fun ys G2 => Fin (done ++ ys) G2) Q
    have bound : ∀ {ρ' : List Addr} {H2 : Hp} {o : Out (List DL.D)}, TQ Rr c W M ρ' σ H2 (bindN o fun ys G2 => if ys.length ≤ lstMax then Fin ys G2 else .st) Q → (∀ ys G3, o = .ok ys G3 → ys.length ≤ lstMax) ∧ TQ Rr c W M ρ' σ H2 (bindN o fun ys G2 => Fin ys G2) Q := fun {ρ' H2 o} h => by
      cases o with
      | ok ys G3 =>
        have h' : TQ Rr c W M ρ' σ H2 (if ys.length ≤ lstMax then Fin ys G3 else .st) Q := h
        split at h'
        · rename_i hl
          exact ⟨fun a b e => by cases e; exact hl, h'⟩
        · exact h'.elim
      | er cl fs G3 => exact (show False from h).elim
      | st => exact (show False from h).elim
    obtain ⟨b1, q2⟩ := bound q1
    have L0 : LcI c M ρ1 H1 D ρ1 G1 (wipeE env vs) (wipe σ vs) (upd H1 D (.lst [])) [] :=
      let RM := rl_more (o := .lst []) (rl_wipe R1 vs) hD
      let RW := rl_wipe R1 vs
      by
        obtain ⟨oa, h1, h2⟩ := RW.e
        have fx := s1.fresh hD
        have sm : Same H1 (upd H1 D (.lst [])) := same_upd hD
        have g : Gr M ρ1 H1 (fun a => M a ∨ a = D) ρ1 (upd H1 D (.lst [])) := ⟨fun a o q _ _ => sm a o q, fun a o q => ⟨o, sm a o q⟩, ⟨[], by simp, by simp⟩, fun a z => z.elim .inl fun e => .inr (by rw [e]; exact hD)⟩
        refine ⟨Ge.same sm, fx.2.2, RM.s, RM.len, ⟨oa, fun i sl e => ?_, h2, fun i o e => ?_⟩, [], upd_same, .nil⟩
        · have hq := h1 i sl e
          match sl, hq with
          | .no, _ => trivial
          | .ev e, ⟨v, a, b⟩ => exact ⟨v, a, b.grow g⟩
          | .own (.lst xs), ⟨a, b, vs, d, r⟩ => exact ⟨a, ⟨.inl b.1, b.2⟩, vs, sm _ _ d, reps_grow r g⟩
          | .own (.ins k2 f2), ⟨a, o2, b, dx, gs, d, r⟩ => exact ⟨a, o2, .inl b, dx, gs, sm _ _ d, flds_grow r g⟩
          | .exn k2 f2, ⟨a, b⟩ => exact ⟨a, b.grow g⟩
        · have hq := h1 i _ e
          match o, hq with
          | .lst xs, ⟨_, b, _⟩ => exact fun z => fx.2.1 (by rw [← z]; exact b.1)
          | .ins k2 f2, ⟨_, o2, b, _⟩ => exact fun z => fx.2.1 (by rw [← z, o2]; exact b)
    refine ⟨fun i m H => m = ds.length - i ∧ i ≤ ds.length ∧ Pv i H, ⟨ds.length, by simp, Nat.zero_le _, ρ1, G1, [], L0, by simp, by simpa using b1, by simpa using q2⟩, ?_⟩
    rintro i m H2 ⟨rfl, hi, ρ', G', done, L, hdn, hbd, q'⟩
    have gD : Gr M ρ1 H1 (fun a => M a ∨ a = D) ρ' H2 := ⟨fun a o e n _ => L.g.keep a o e n, L.g.there, L.g.grow, fun a z => z.elim .inl fun e => .inr (by rw [e]; exact hD)⟩
    have z := hJ _ ρ' H2 gD i
    by_cases hlt : i < ds.length
    · refine .inr ?_
      obtain ⟨zg, zy⟩ := z.1 ds[i] (List.getElem?_eq_getElem hlt)
      refine ⟨zg, Pv (i + 1), fun H' p' => ⟨ds.length - (i + 1), by omega, rfl, hlt, p'⟩, fun x H' y => ?_⟩
      obtain ⟨sm, rx⟩ := zy x H' y
      have L1 : LcI c M ρ1 H1 D ρ' G' (wipeE env vs) (wipe σ vs) H' done := lcI_ge L (Ge.same sm) (L.s.same sm)
      have R2 := L1.r.set (i := k) (x := EV.d ds[i]) rx
      refine ⟨wipe_set hk, (fun a => M a ∨ a = D), ρ', G', _, R2, ?_⟩
      rw [List.drop_eq_getElem_cons hlt] at q' hbd
      have q3 : TQ Rr c W M ρ1 σ H1 (bindN (lcL k mt me (ds[i] :: ds.drop (i + 1)) (wipeE env vs) G') fun ys G2 => Fin (done ++ ys) G2) Q := q'
      have key : lcL k mt me (ds[i] :: ds.drop (i + 1)) (wipeE env vs) G' = bindN (mt ((wipeE env vs).set k (.ev (.d ds[i]))) G') fun b G1 => if b = true then bindN (me ((wipeE env vs).set k (.ev (.d ds[i]))) G1) fun y G2 => (match y with
        | .d y => bindN (lcL k mt me (ds.drop (i + 1)) (wipeE env vs) G2) fun ys G3 => .ok (y :: ys) G3
        | _ => .st) else lcL k mt me (ds.drop (i + 1)) (wipeE env vs) G1 := rfl
      rw [key] at q3 hbd
      cases ht : mt ((wipeE env vs).set k (.ev (.d ds[i]))) G' with
      | st => rw [ht] at q3; exact (show False from q3).elim
      | er cl fs G3 => rw [ht] at q3; exact (show False from q3).elim
      | ok b G3 =>
        rw [ht] at q3 hbd
        intro b' ρ3 H3 g3 s3 eb
        obtain rfl : b' = b := eb.symm
        have L3 : LcI c M ρ1 H1 D ρ3 G3 (wipeE env vs) (wipe σ vs) H3 done := lcI_ge L1 g3 s3
        have q4 : TQ Rr c W M ρ1 σ H1 (bindN (if b' = true then bindN (me ((wipeE env vs).set k (.ev (.d ds[i]))) G3) fun y G2 => (match y with
          | .d y => bindN (lcL k mt me (ds.drop (i + 1)) (wipeE env vs) G2) fun ys G3 => .ok (y :: ys) G3
          | _ => .st) else lcL k mt me (ds.drop (i + 1)) (wipeE env vs) G3) fun ys G2 => Fin (done ++ ys) G2) Q := q3
        have hb4 : ∀ ys G5, (if b' = true then bindN (me ((wipeE env vs).set k (.ev (.d ds[i]))) G3) fun y G2 => (match y with
          | .d y => bindN (lcL k mt me (ds.drop (i + 1)) (wipeE env vs) G2) fun ys G3 => .ok (y :: ys) G3
          | _ => .st) else lcL k mt me (ds.drop (i + 1)) (wipeE env vs) G3) = .ok ys G5 → (done ++ ys).length ≤ lstMax := hbd
        cases b' with
        | false =>
          rw [if_neg (by decide)] at q4 hb4 ⊢
          exact ⟨ρ3, G3, done, L3, hdn, hb4, q4⟩
        | true =>
          rw [if_pos rfl] at q4 hb4 ⊢
          have R3 : Rl c (fun a => M a ∨ a = D) ρ3 G3 ((wipeE env vs).set k (.ev (.d ds[i]))) ((wipe σ vs).set k (some x)) H3 := R2.ge g3 s3
          refine ⟨_, ρ3, G3, _, R3, ?_⟩
          cases he : me ((wipeE env vs).set k (.ev (.d ds[i]))) G3 with
          | st => rw [he] at q4; exact (show False from q4).elim
          | er cl fs G5 => rw [he] at q4; exact (show False from q4).elim
          | ok y G5 =>
            rw [he] at q4 hb4
            cases y with
            | o j => exact (show False from q4).elim
            | d y =>
              intro v ρ5 H5 g5 s5 rv
              have L5 : LcI c M ρ1 H1 D ρ5 G5 (wipeE env vs) (wipe σ vs) H5 done := lcI_ge L3 g5 s5
              obtain ⟨acc, hA, ra⟩ := L5.at_
              have q5 : TQ Rr c W M ρ1 σ H1 (bindN (bindN (lcL k mt me (ds.drop (i + 1)) (wipeE env vs) G5) fun ys G3 => .ok (y :: ys) G3) fun ys G2 => Fin (done ++ ys) G2) Q := q4
              have hb5 : ∀ ys G6, (bindN (lcL k mt me (ds.drop (i + 1)) (wipeE env vs) G5) fun ys G3 => .ok (y :: ys) G3) = .ok ys G6 → (done ++ ys).length ≤ lstMax := hb4
              cases hr : lcL k mt me (ds.drop (i + 1)) (wipeE env vs) G5 with
              | st => rw [hr] at q5; exact (show False from q5).elim
              | er cl fs G6 => rw [hr] at q5; exact (show False from q5).elim
              | ok ys G6 =>
                rw [hr] at q5 hb5
                have hbb := hb5 (y :: ys) G6 rfl
                have hlen : acc.length < sizeLine := by
                  rw [← ra.length]
                  refine Nat.lt_of_lt_of_le (Nat.lt_succ_of_le hdn) (by decide)
                refine ⟨acc, hA, hlen, ρ5, G5, done ++ [y], lcI_put hD L5 hA ra rv, ?_, ?_, ?_⟩
                · simp at hbb ⊢; omega
                · intro ys' G7 e
                  rw [hr] at e
                  cases e
                  simpa using hbb
                · rw [hr]
                  have q7 : TQ Rr c W M ρ1 σ H1 (Fin (done ++ (y :: ys)) G6) Q := q5
                  show TQ Rr c W M ρ1 σ H1 (Fin ((done ++ [y]) ++ ys) G6) Q
                  rw [List.append_assoc]
                  exact q7
    · have e : i = ds.length := by omega
      subst e
      rw [List.drop_length] at q'
      refine .inl ⟨z.2 (Nat.le_refl _), ?_⟩
      have q6 : TQ Rr c W M ρ1 σ H1 (Fin (done ++ []) G') Q := q'
      rw [List.append_nil] at q6
      exact hF ρ1 ρ' G1 G' H1 H2 D done g1 s1 hD L q6
theorem tlc_ofF {Fin : List DL.D → GS → Out EV} (hF : FinOk c W Fin) {wi : TI} {Q : VK} {vs : List Nat} (hk : k ∈ vs) (hwi : ∀ R, tDI c W mr σ H R → wi σ H R) (q : tD c W (eLcF Fin k vs mr mt me) σ H Q) : tLc wi (gName k) (tDB c W0 mt) (tD c W0 me) vs σ H Q := by
  obtain ⟨M, ρ, G, env, R0, q⟩ := q
  exact tlc_ofG (Rr := RE c) (Fin := Fin) R0 (fun ρ1 ρ' G1 G' H1 H2 D done g1 s1 hD L q6 => hF M ρ1 ρ' σ G1 G' H1 H2 D _ _ done Q s1 hD L q6) hk hwi q
theorem finD : FinOk c W (fun ys G => .ok (.d (.lst ys)) G) := fun M ρ1 ρ' σ G1 G' H1 H2 D envw σw done Q s1 hD L q6 => by
  obtain ⟨acc, hA, ra⟩ := L.at_
  have fx := s1.fresh hD
  have sM : SR c M ρ' G' H2 := L.s.cv cv_less (fun a h => ⟨(L.s.sep a h).1, fun z => (L.s.sep a h).2 (.inl z)⟩) (fun a z => L.s.mt a (.inl z)) L.s.bt
  exact q6 (.ref D) ρ' H2 L.g sM (Rep.lst (.inl ⟨⟨fx.1, fx.2.1, L.nd⟩, .inl hA⟩) (ra.imp fun _ _ r => r.cv cv_less))
theorem tlc_of {wi : TI} {Q : VK} {vs : List Nat} (hk : k ∈ vs) (hwi : ∀ R, tDI c W mr σ H R → wi σ H R) (q : tD c W (eLc k vs mr mt me) σ H Q) : tLc wi (gName k) (tDB c W0 mt) (tD c W0 me) vs σ H Q := by
  refine tlc_ofF (Fin := fun ys G => .ok (.d (.lst ys)) G) finD hk hwi ?_
  exact q
/-- the list is an object that may be written -/
def eLcO (k : Nat) (vs : List Nat) (mr : LM) (mt : BM) (me : EM) : EM := eLcF (fun ys G => .ok (.o G.length) (G ++ [.lst (ys.map .d)])) k vs mr mt me
theorem finO : FinOk c W (fun ys G => .ok (.o G.length) (G ++ [.lst (ys.map .d)])) := fun M ρ1 ρ' σ G1 G' H1 H2 D envw σw done Q s1 hD L q6 => by
  obtain ⟨acc, hA, ra⟩ := L.at_
  have fx := s1.fresh hD
  have cz : ∀ a, Zz c (fun a => M a ∨ a = D) ρ' a → Zz c M (ρ' ++ [D]) a := fun a h => ⟨h.1, fun z => h.2.1 (.inl z), fun z => by
    rcases List.mem_append.mp z with z | z
    · exact h.2.2 z
    · exact h.2.1 (.inr (by simpa using z))⟩
  have hlen : ρ'.length = G'.length := L.s.len
  have rM : All2 (RepE c M (ρ' ++ [D]) H2) (done.map EV.d) acc := map_dz (ra.imp fun _ _ r => Rep.zz cz r)
  have hs : SR c M (ρ' ++ [D]) (G' ++ [.lst (done.map .d)]) H2 := by
    refine ⟨by simp [hlen], ?_, fun a h => ?_, fun i ys e => ?_, fun a m => L.s.mt a (.inl m), L.s.bt, fun i k e => ?_⟩
    · refine List.nodup_append.mpr ⟨L.s.nd, by simp, fun a h1 b h2 => ?_⟩
      rintro rfl
      exact L.nd (by rw [List.mem_singleton] at h2; rw [← h2]; exact h1)
    · rcases List.mem_append.mp h with h | h
      · exact ⟨(L.s.sep a h).1, fun z => (L.s.sep a h).2 (.inl z)⟩
      · rw [List.mem_singleton] at h
        subst h
        exact ⟨fx.1, fx.2.1⟩
    · by_cases hi : i < G'.length
      · rw [List.getElem?_append_left hi] at e
        obtain ⟨a, us, h1, h2, h3⟩ := L.s.at_ i ys e
        refine ⟨a, us, by rw [List.getElem?_append_left (by rw [hlen]; exact hi)]; exact h1, h2, h3.imp fun x u r => ?_⟩
        cases x with
        | d x => exact Rep.zz cz r
        | o j =>
          obtain ⟨b, e1, e2⟩ := r
          exact ⟨b, by rw [List.getElem?_append_left (List.getElem?_eq_some_iff.mp e1).1]; exact e1, e2⟩
      · have hi2 : i = G'.length := by
          have := (List.getElem?_eq_some_iff.mp e).1
          simp at this
          omega
        subst hi2
        rw [List.getElem?_append_right (Nat.le_refl _), Nat.sub_self] at e
        cases e
        exact ⟨D, acc, by rw [← hlen]; simp, hA, rM⟩
    · by_cases hi : i < G'.length
      · rw [List.getElem?_append_left hi] at e
        obtain ⟨h1, t⟩ := L.s.tb i k e
        exact ⟨by rw [List.getElem?_append_left (by rw [hlen]; exact hi)]; exact h1, t⟩
      · have hi2 : i = G'.length := by
          have := (List.getElem?_eq_some_iff.mp e).1
          simp at this
          omega
        subst hi2
        rw [List.getElem?_append_right (Nat.le_refl _), Nat.sub_self] at e
        cases e
  have hg : Ge M ρ1 H1 (ρ' ++ [D]) H2 := by
    obtain ⟨ext, e1, e2⟩ := L.g.grow
    refine ⟨L.g.keep, L.g.there, ext ++ [D], by rw [e1, List.append_assoc], fun a h => ?_⟩
    rcases List.mem_append.mp h with h | h
    · exact e2 a h
    · rw [List.mem_singleton] at h; subst h; exact hD
  exact q6 (.ref D) (ρ' ++ [D]) H2 hg hs ⟨D, by rw [← hlen]; simp, rfl⟩
theorem de_lcO (hc : X.calm = true) (hN : X.N.Nodup) (hi : DI X c W tg e mr) (ok : BlkOk X.N X.env.scope scope own) (hk : k ∈ own.map (·.2))
    (hg : ∀ (s : Shared) (H : Hp) (C : Addr) (cl : List (Str × Addr)) (fp : List Addr), PG (X.blk s H scope (compEnvC scope cl C X.env) fp) tg (gName k)) (ht : ∀ (s : Shared) (H : Hp) (C : Addr) (cl : List (Str × Addr)) (fp : List Addr), DTs (X.blk s H scope (compEnvC scope cl C X.env) fp) c ifs mt)
    (he : ∀ (s : Shared) (H : Hp) (C : Addr) (cl : List (Str × Addr)) (fp : List Addr), DE (X.blk s H scope (compEnvC scope cl C X.env) fp) c W0 elt me) (hs : ∀ x, foldedSetIterable e X.env x = pure x := by intro _; rfl) :
    DE X c W (.ListComp elt [⟨tg, e, ifs, 0⟩] scope pos) (eLcO k (own.map (·.2)) mr mt me) :=
  pe_imp (pe_lc hc hN hi ok hg ht he hs) fun σ H Q q => tlc_ofF finO hk (fun R q => q) q
theorem de_lc (hc : X.calm = true) (hN : X.N.Nodup) (hi : DI X c W tg e mr) (ok : BlkOk X.N X.env.scope scope own) (hk : k ∈ own.map (·.2))
    (hg : ∀ (s : Shared) (H : Hp) (C : Addr) (cl : List (Str × Addr)) (fp : List Addr), PG (X.blk s H scope (compEnvC scope cl C X.env) fp) tg (gName k)) (ht : ∀ (s : Shared) (H : Hp) (C : Addr) (cl : List (Str × Addr)) (fp : List Addr), DTs (X.blk s H scope (compEnvC scope cl C X.env) fp) c ifs mt)
    (he : ∀ (s : Shared) (H : Hp) (C : Addr) (cl : List (Str × Addr)) (fp : List Addr), DE (X.blk s H scope (compEnvC scope cl C X.env) fp) c W0 elt me) (hs : ∀ x, foldedSetIterable e X.env x = pure x := by intro _; rfl) :
    DE X c W (.ListComp elt [⟨tg, e, ifs, 0⟩] scope pos) (eLc k (own.map (·.2)) mr mt me) :=
  pe_imp (pe_lc hc hN hi ok hg ht he hs) fun σ H Q q => tlc_of hk (fun R q => q) q
end
end DL
set_option Elab.async false
set_option linter.all false
set_option maxRecDepth 100000
set_option maxHeartbeats 4000000
namespace DL
open PySem L2 PyProof.Rows StX ClX
section
variable {X : Cx} {c : RC} {W : WX} {e o a b : Expr} {es : List Expr} {ma mb mo mi me : EM} {mr : AM} {pos p p2 : Pos} {M : Addr → Prop} {ρ : List Addr} {σ : L2.St} {H : Hp} {G : GS}
theorem all2_two {α β : Type} {R : α → β → Prop} {x y : α} {vs : List β} (h : All2 R [x, y] vs) : ∃ a b, vs = [a, b] ∧ R x a ∧ R y b := by
  cases h with
  | cons r t => cases t with
    | cons r2 t => cases t; exact ⟨_, _, rfl, r, r2⟩
theorem atI_all2 {α β : Type} {R : α → β → Prop} {xs : List α} {ys : List β} {i : Int} {x : α} (r : All2 R xs ys) (h : atI xs i = some x) : ∃ y, atI ys i = some y ∧ R x y := by
  unfold atI at h ⊢
  rw [← r.length]
  cases hi : ixN xs.length i with
  | none => rw [hi] at h; cases h
  | some j => rw [hi] at h; exact r.get h
theorem dix (hK : c.K = X.K) : IxR X (V2 c fIx) := by
  intro value slice pins s σ H x y v u Q I rx ry ⟨M, ρ, G, a, b, sr, ra, rb, q⟩ hs
  unfold fIx at q
  split at q
  · rename_i xs i
    obtain ⟨p, vs, rfl, z, rr⟩ := Rep.of_lst ra
    cases Rep.of_int rb
    cases hz : atI xs i with
    | none => rw [hz] at q; exact q.elim
    | some d =>
      rw [hz] at q
      obtain ⟨w, hw, rw'⟩ := atI_all2 rr hz
      exact ix_list value slice pins s σ H _ _ v u Q I rx ry ⟨p, vs, i, w, rfl, rfl, by rw [← hK]; exact z.sq, hw, q _ ρ H Ge.refl sr rw'⟩ hs
  · rename_i xs i
    obtain ⟨p, vs, rfl, z, rr⟩ := Rep.of_tup ra
    cases Rep.of_int rb
    cases hz : atI xs i with
    | none => rw [hz] at q; exact q.elim
    | some d =>
      rw [hz] at q
      obtain ⟨w, hw, rw'⟩ := atI_all2 rr hz
      exact ix_tup value slice pins s σ H _ _ v u Q I rx ry ⟨p, vs, i, w, rfl, rfl, by rw [← hK]; exact z.sq, hw, q _ ρ H Ge.refl sr rw'⟩ hs
  · rename_i k i
    obtain ⟨p, hp, rfl⟩ := ra
    cases Rep.of_int rb
    split at q
    · rename_i xs hx
      obtain ⟨p', vs, hp', hH, rr⟩ := sr.at_ k xs hx
      rw [hp] at hp'
      cases hp'
      cases hz : atI xs i with
      | none => rw [hz] at q; exact q.elim
      | some d =>
        rw [hz] at q
        obtain ⟨w, hw, rw'⟩ := atI_all2 rr hz
        exact ix_list value slice pins s σ H _ _ v u Q I rx ry ⟨p, vs, i, w, rfl, rfl, SqL.of hH, hw, q _ ρ H Ge.refl sr rw'⟩ hs
    · exact q.elim
  · exact q.elim
theorem de_ix {f : F2} (hr : IxR X (V2 c f)) (ha : DE X c W a ma) (hb : DE X c W b mb) (hs : PlainIx b := by intro _ _; rfl) : DE X c W (.Subscript a b pos) (eOp f ma mb) := by
  refine pe_imp (pe_ix hr ha hb hs) fun σ H Q q => ?_
  obtain ⟨M, ρ, G, env, R, q⟩ := q
  refine ⟨M, ρ, G, env, R, (TQ.bind (R := RE c) q).imp fun v H1 ⟨ρ1, G1, e1, g1, s1, r1, q1⟩ => ?_⟩
  refine ⟨M, ρ1, G1, env, R.ge g1 s1, (TQ.bind (R := RE c) q1).imp fun u H2 ⟨ρ2, G2, e2, g2, s2, r2, q2⟩ => ?_⟩
  exact ⟨M, ρ2, G2, e1, e2, s2, r1.grow g2.gr, r2, VQ.of q2⟩
/-! slices -/
abbrev OM := En → GS → Out (Option Int)
abbrev RO : (Addr → Prop) → List Addr → Hp → Option Int → Option Int → Prop := fun _ _ _ a b => a = b
def tDO (c : RC) (W : WX) (m : OM) : TO := fun σ H Q => ∃ M ρ G env, Rl c M ρ G env σ H ∧ TQ RO c W M ρ σ H (m env G) Q
def DO (X : Cx) (c : RC) (W : WX) (e : Option Expr) (m : OM) : Prop := PO X e (tDO c W m)
def oNone : OM := fun _ G => .ok none G
def oSome (m : EM) : OM := fun env G => (m env G).bind fun x G1 => match x with
  | .d (.int i) => .ok (some i) G1
  | _ => .st
theorem do_none : DO X c W none oNone := ⟨fun pins s σ H Q I ⟨M, ρ, G, env, R, q⟩ => po_none.run pins s σ H Q I (q.ok R.s rfl)⟩
theorem do_some (he : DE X c W e me) : DO X c W (some e) (oSome me) := ⟨fun pins s σ H Q I ⟨M, ρ, G, env, R, q⟩ => (po_some he).run pins s σ H Q I ⟨M, ρ, G, env, R, (TQ.bind (R := RE c) q).imp fun v H1 ⟨ρ1, G1, e1, g1, s1, r1, q1⟩ => by
  split at q1
  · rename_i i
    cases Rep.of_int r1
    exact ⟨i, rfl, q1.ok s1 rfl⟩
  · exact q1.elim⟩⟩
def cutL {α : Type} (xs : List α) (lo hi : Option Int) : List α := (xs.drop (HT.sIx xs.length 0 lo)).take (HT.sIx xs.length xs.length hi - HT.sIx xs.length 0 lo)
def eSl (m : EM) (lo hi : OM) : EM := fun env G => (m env G).bind fun x G1 => (lo env G1).bind fun l G2 => (hi env G2).bind fun h G3 => match x with
  | .d (.lst xs) => .ok (.d (.lst (cutL xs l h))) G3
  | _ => .st
theorem de_slL {lo hi : Option Expr} {ml mh : OM} (hK : c.K = X.K) (he : DE X c W e me) (hl : DO X c W lo ml) (hh : DO X c W hi mh) : DE X c W (.Subscript e (.Slice lo hi none p2) pos) (eSl me ml mh) := by
  refine pe_imp (pe_slice sl_list he hl hh) fun σ H Q q => ?_
  obtain ⟨M, ρ, G, env, R, q⟩ := q
  refine ⟨M, ρ, G, env, R, (TQ.bind (R := RE c) q).imp fun v H1 ⟨ρ1, G1, e1, g1, s1, r1, q1⟩ => ?_⟩
  refine ⟨M, ρ1, G1, env, R.ge g1 s1, (TQ.bind (R := RO) q1).imp fun l H2 ⟨ρ2, G2, l', g2, s2, r2, q2⟩ => ?_⟩
  refine ⟨M, ρ2, G2, env, (R.ge g1 s1).ge g2 s2, (TQ.bind (R := RO) q2).imp fun h H3 ⟨ρ3, G3, h', g3, s3, r3, q3⟩ => ?_⟩
  obtain rfl : l = l' := r2.symm
  obtain rfl : h = h' := r3.symm
  split at q3
  · rename_i xs
    obtain ⟨p, vs, rfl, z, rr⟩ := Rep.of_lst (RepE.grow (RepE.grow r1 g2.gr) g3.gr)
    refine ⟨p, vs, rfl, by rw [← hK]; exact z.sq, fun p' hp => ?_⟩
    have sm : Same H3 (upd H3 p' (.lst (cutV vs l h))) := same_upd hp
    refine q3.okS s3 sm (Rep.lst (.inl ⟨s3.fresh hp, .inl upd_same⟩) (reps_grow ?_ (Gr.same sm)))
    unfold cutL cutV
    rw [rr.length]
    exact all2_take _ (all2_drop _ rr)
  · exact q3.elim
/-! storing into the store -/
theorem sr_set {k : Nat} {xs : List EV} {vs : List V} {j : Nat} {x : EV} {v : V} {a : Addr} (s : SR c M ρ G H) (hk : G[k]? = some (GO.lst xs)) (ha : ρ[k]? = some a) (hH : H a = some (.lst vs)) (rr : All2 (RepE c M ρ H) xs vs) (r : RepE c M ρ H x v) :
    Ge M ρ H ρ (upd H a (.lst (vs.set j v))) ∧ SR c M ρ (G.set k (GO.lst (xs.set j x))) (upd H a (.lst (vs.set j v))) := by
  have hm := List.mem_of_getElem? ha
  have g : Ge M ρ H ρ (upd H a (.lst (vs.set j v))) := ⟨fun b o e n => by rw [upd_ne (fun z => n (by rw [z]; exact hm))]; exact e, fun b o e => by
    by_cases h : b = a
    · exact ⟨_, by rw [h]; exact upd_same⟩
    · exact ⟨o, by rw [upd_ne h]; exact e⟩, [], by simp, by simp⟩
  have alive : ∀ b, H b ≠ none → (upd H a (.lst (vs.set j v))) b ≠ none := fun b h => by
    by_cases hb : b = a
    · rw [hb, upd_same]; simp
    · rw [upd_ne hb]; exact h
  refine ⟨g, by rw [List.length_set]; exact s.len, s.nd, s.sep, fun i ys e => ?_, fun b m => alive b (s.mt b m), fun b m => alive b (s.bt b m), fun i q e => by
      have ne : k ≠ i := fun z => by subst z; rw [List.getElem?_set_self (List.getElem?_eq_some_iff.mp hk).1] at e; cases e
      rw [List.getElem?_set_ne ne] at e
      obtain ⟨p, t⟩ := s.tb i q e
      exact ⟨p, tabs_upd t hH (fun _ z => by cases z) fun _ => lst_code⟩⟩
  by_cases hi : k = i
  · subst hi
    have hl : k < G.length := (List.getElem?_eq_some_iff.mp hk).1
    rw [List.getElem?_set_self hl] at e
    cases e
    exact ⟨a, _, ha, upd_same, All2.set (r.grow g.gr) j (repEs_grow rr g.gr)⟩
  · rw [List.getElem?_set_ne hi] at e
    obtain ⟨b, us, h1, h2, h3⟩ := s.at_ i ys e
    have hb : b ≠ a := fun z => hi (by
      subst z
      have q1 := List.getElem?_eq_some_iff.mp ha
      have q2 := List.getElem?_eq_some_iff.mp h1
      exact (List.getElem_inj s.nd).mp (q1.2.trans q2.2.symm))
    exact ⟨b, us, h1, by rw [upd_ne hb]; exact h2, repEs_grow h3 g.gr⟩
def sSub (mo mi me : EM) : SM := fun env G => ofE (me env G) env fun x G1 => ofE (mo env G1) env fun o G2 => ofE (mi env G2) env fun i G3 => match o, i with
  | .o k, .d (.int i) => (match (G3[k]? : Option GO) with
    | some (GO.lst xs) => (match ixN xs.length i with
      | some j => .nx env (G3.set k (GO.lst (xs.set j x)))
      | none => .st)
    | _ => .st)
  | _, _ => .st
theorem ds_sub (ho : DE X c W o mo) (hi : DE X c W a mi) (he : DE X c W e me)
    (ha : ∀ v, assign (.Subscript o a p) X.env v = (do let ov ← holding [v] (eval o X.env); let iv ← holding [v, ov] (eval a X.env); standAt p; holding [v, ov, iv] (setItem ov iv v); release [v, ov, iv] []) := by intro _; rfl)
    (hs : swapsWithSole [.Subscript o a p] e pos.line X.env = pure false := by rfl) (hw : swappedStores [.Subscript o a p] e X.env = pure none := by rfl)
    (h1 : (assignEach [.Subscript o a p] X.env).map (·.2) = [assign (.Subscript o a p) X.env] := by rfl) : DS X c W (.Assign [.Subscript o a p] e pos) (sSub mo mi me) := by
  refine ps_imp (ps_asg he (pg_sub ho hi set_list ha) hs hw h1) fun Dn σ H q => ?_
  obtain ⟨M, ρ, G, env, R, q⟩ := q
  refine ⟨M, ρ, G, env, R, (SQ.ofE (R := RE c) R q).imp fun v H1 ⟨ρ1, G1, x, g1, R1, r1, q1⟩ => ?_⟩
  refine ⟨M, ρ1, G1, env, R1, (SQ.ofE (R := RE c) R1 q1).imp fun ov H2 ⟨ρ2, G2, o2, g2, R2, r2, q2⟩ => ?_⟩
  refine ⟨M, ρ2, G2, env, R2, (SQ.ofE (R := RE c) R2 q2).imp fun iv H3 ⟨ρ3, G3, i3, g3, R3, r3, q3⟩ => ?_⟩
  have r1' := (r1.grow g2.gr).grow g3.gr
  have r2' := r2.grow g3.gr
  cases o2 with
  | d z => exact (show False from q3).elim
  | o k =>
    cases i3 with
    | o z => exact (show False from q3).elim
    | d z =>
      cases z with
      | int i =>
        have q4 : SQ c W M ρ3 H3 (match (G3[k]? : Option GO) with
          | some (GO.lst xs) => (match ixN xs.length i with
            | some j => OutS.nx env (G3.set k (GO.lst (xs.set j x)))
            | none => .st)
          | _ => .st) Dn := q3
        split at q4
        · rename_i xs hx
          split at q4
          · rename_i j hj
            obtain ⟨p', hp', rfl⟩ := r2'
            obtain ⟨p, vs, hp, hH, rr⟩ := R3.s.at_ k xs hx
            rw [hp] at hp'
            cases hp'
            cases Rep.of_int r3
            obtain ⟨g4, s4⟩ := sr_set (j := j) R3.s hx hp hH rr r1'
            exact ⟨_, vs, i, j, rfl, rfl, hH, by rw [← rr.length]; exact hj, q4 M ρ3 σ _ g4.gr (R3.ge g4 s4)⟩
          · exact q4.elim
        · exact q4.elim
      | _ => exact (show False from q3).elim
/-! built-ins -/
def fLen : FN := fun es G => match es with
  | [.d (.lst xs)] => some (.d (.int xs.length), G)
  | [.d (.tup xs)] => some (.d (.int xs.length), G)
  | [.d (.str x)] => if x.length ≤ strMax then some (.d (.int x.length), G) else none
  | [.o k] => (match (G[k]? : Option GO) with
    | some (GO.lst xs) => some (.d (.int xs.length), G)
    | _ => none)
  | _ => none
theorem dcall_len (hK : c.K = X.K) : CallR X (.builtin "len") (VN c fLen) := callr_imp (callr_or call_len_seq call_len) fun vs H Q ⟨M, ρ, G, es, s, r, q⟩ => by
  unfold fLen at q
  split at q
  · cases r with
    | cons r t =>
      cases t
      obtain ⟨p, us, rfl, z, rr⟩ := Rep.of_lst r
      exact .inl ⟨p, us, rfl, .inl (by rw [← hK]; exact z.sq), by rw [← rr.length]; exact q _ ρ H Ge.refl s Rep.int⟩
  · cases r with
    | cons r t =>
      cases t
      obtain ⟨p, us, rfl, z, rr⟩ := Rep.of_tup r
      exact .inl ⟨p, us, rfl, .inr (by rw [← hK]; exact z.sq), by rw [← rr.length]; exact q _ ρ H Ge.refl s Rep.int⟩
  · split at q
    · rename_i x hx
      cases r with
      | cons r t =>
        cases t
        cases Rep.of_str r
        exact .inr ⟨_, x.length, rfl, ⟨Nat.le_trans hx (by decide), rfl⟩, q _ ρ H Ge.refl s Rep.int⟩
    · exact q.elim
  · rename_i k
    split at q
    · rename_i xs hx
      cases r with
      | cons r t =>
        cases t
        obtain ⟨p, hp, rfl⟩ := r
        obtain ⟨p', us, hp', hH, rr⟩ := s.at_ k xs hx
        rw [hp] at hp'
        cases hp'
        exact .inl ⟨p, us, rfl, .inl (SqL.of hH), by rw [← rr.length]; exact q _ ρ H Ge.refl s Rep.int⟩
    · exact q.elim
  · exact q.elim
def gInt : List D → Option D
  | [.int i] => some (.int i)
  | [.bl b] => some (.int (if b then 1 else 0))
  | _ => none
def fInt : FN := pureN gInt
theorem dcall_int : CallR X (.type "int") (VN c fInt) := callr_imp call_int1 fun vs H Q q0 => by
  obtain ⟨M, ρ, G, ds, z, s, r, hz, q⟩ := vn_pure q0
  clear q0
  unfold gInt at hz
  split at hz
  · cases r with
    | cons r t => cases t; cases hz; exact .inl ⟨_, by rw [r.of_int], q _ _ same_refl .int⟩
  · cases r with
    | cons r t => cases t; cases hz; exact .inr ⟨_, by rw [r.of_bl], q _ _ same_refl .int⟩
  · cases hz
def gTuple : List D → Option D
  | [.lst xs] => some (.tup xs)
  | [.tup xs] => some (.tup xs)
  | _ => none
def fTuple : FN := pureN gTuple
theorem dcall_tuple (hK : c.K = X.K) : CallR X (.type "tuple") (VN c fTuple) := callr_imp call_tuple_of fun vs H Q q0 => by
  obtain ⟨M, ρ, G, ds, z, s, r, hz, q⟩ := vn_pure q0
  clear q0
  unfold gTuple at hz
  split at hz
  · cases r with
    | cons r t =>
      cases t
      cases hz
      obtain ⟨p, us, rfl, z, rr⟩ := r.of_lst
      refine ⟨p, us, rfl, .inl ⟨by rw [← hK]; exact z.sq, fun l hl => ?_⟩⟩
      have sm : Same H (upd H l (.tup us)) := same_upd hl
      exact q _ _ sm (Rep.tup (.inl ⟨s.fresh hl, .inl upd_same⟩) (reps_grow rr (Gr.same sm)))
  · cases r with
    | cons r t =>
      cases t
      cases hz
      obtain ⟨p, us, rfl, z, rr⟩ := r.of_tup
      exact ⟨p, us, rfl, .inr ⟨by rw [← hK]; exact z.sq, q _ _ same_refl (Rep.tup z rr)⟩⟩
  · cases hz
/-! isinstance -/
inductive Tg where
  | ty (n : String) | own (k : String)
  deriving DecidableEq
def Tg.v (C : String → Addr) : Tg → Value
  | .ty n => .type n
  | .own k => .ref (C k)
def tgOf : D → Tg
  | .non => .ty "NoneType"
  | .bl _ => .ty "bool"
  | .int _ => .ty "int"
  | .str _ => .ty "str"
  | .tup _ => .ty "tuple"
  | .lst _ => .ty "list"
  | .ins k _ => .own k
  | .cls _ => .ty "type"
  | .ty _ => .ty "type"
def tgC : D → Option Tg
  | .cls k => some (.own k)
  | .ty n => some (.ty n)
  | _ => none
def ktb : List (Tg × Tg × Bool) → Tg → Tg → Option Bool
  | [], _, _ => none
  | (t, u, b) :: r, t', u' => if t = t' ∧ u = u' then some b else ktb r t' u'
def gIsi (tb : List (Tg × Tg × Bool)) : List D → Option D
  | [x, k] => (tgC k).bind fun u => match x with
    | .cls _ => none
    | .ty _ => none
    | x => (ktb tb (tgOf x) u).map .bl
  | _ => none
def fIsi (tb : List (Tg × Tg × Bool)) : FN := pureN (gIsi tb)
/-- what isinstance wants to know of an own class, and of the model's own word for __class__ -/
structure IsiC (K : PySem.W.Frag) (C : Addr) : Prop where
  cl : Cls K C
  ca : PySem.W.findIn K (.ref C) "__class__" = some (some (.builtin "object.__class__"))
  cm : PySem.W.mroIn K C (.type "object") = some true
structure IsiK (K : PySem.W.Frag) : Prop where
  cn : PySem.W.specialIn K (.builtin "object.__class__") "__get__" = some (some (.builtin "getset_descriptor.__get__"))
  ct : PySem.W.takesIn K (.builtin "object.__class__") = some true
theorem ktb_mem {t u : Tg} {b : Bool} : ∀ {tb : List (Tg × Tg × Bool)}, ktb tb t u = some b → (t, u, b) ∈ tb
  | [], h => by cases h
  | (t', u', b') :: r, h => by
    unfold ktb at h
    split at h
    · rename_i hh; obtain ⟨rfl, rfl⟩ := hh; cases h; exact List.mem_cons_self
    · exact List.mem_cons_of_mem _ (ktb_mem h)
theorem dcall_isi {tb : List (Tg × Tg × Bool)} (hK : c.K = X.K) (hk : IsiK X.K) (h : ∀ t u b, (t, u, b) ∈ tb → PySem.W.kitOne X.K (t.v c.C) (u.v c.C) = some b ∧ ∀ k, t = .own k → IsiC X.K (c.C k)) : CallR X (.builtin "isinstance") (VN c (fIsi tb)) := callr_imp call_isi fun vs H Q q0 => by
  obtain ⟨M, ρ, G, ds, z, s, r, hz, q⟩ := vn_pure q0
  clear q0
  unfold gIsi at hz
  split at hz
  · rename_i x k
    obtain ⟨vx, vk, rfl, r1, r2⟩ := all2_two r
    cases hu : tgC k with
    | none => rw [hu] at hz; cases hz
    | some u =>
      rw [hu] at hz
      dsimp only [Option.bind] at hz
      have cv : ClsV vk (u.v c.C) := by
        cases k <;> first | (cases hu; done) | skip
        · cases hu; rw [r2.of_cls]; exact ClsV.own _
        · cases hu; rw [r2.of_ty]; exact ClsV.ty _
      have main : ∀ t, (ktb tb t u).map DL.D.bl = some z → TyX X.K H vx (t.v c.C) ∨ (∃ k, t = .own k ∧ (IsiC X.K (c.C k) → TyX X.K H vx (t.v c.C))) → rIsi X.K [vx, vk] H Q := fun t ht hty => by
        cases hb : ktb tb t u with
        | none => rw [hb] at ht; cases ht
        | some b =>
          rw [hb] at ht
          cases ht
          obtain ⟨h1, h2⟩ := h t u b (ktb_mem hb)
          refine ⟨vx, vk, t.v c.C, u.v c.C, b, rfl, cv, ?_, h1, q _ _ same_refl .bl⟩
          rcases hty with hty | ⟨k, e, hty⟩
          · exact hty
          · exact hty (h2 k e)
      cases x with
      | non => cases r1.of_non; exact main _ hz (.inl (.base .non))
      | bl b => cases r1.of_bl; exact main _ hz (.inl (.base (.bl b)))
      | int b => cases r1.of_int; exact main _ hz (.inl (.base (.int b)))
      | str b => cases r1.of_str; exact main _ hz (.inl (.base (.str b)))
      | tup b =>
        obtain ⟨p, us, rfl, zz, rr⟩ := r1.of_tup
        refine main _ hz (.inl ?_)
        rcases zz with ⟨_, z1⟩ | (z0 | z0) | ⟨o, its, n, h1, h2, _⟩
        · rcases z1 with z1 | ⟨o, z1⟩
          · exact .base (.tup z1)
          · exact .fTuple z1
        · cases z0
        · rcases z0 with ⟨_, z0⟩; cases z0
        · exact .kTuple (by rw [← hK]; exact h1) h2
      | lst b =>
        obtain ⟨p, us, rfl, zz, rr⟩ := r1.of_lst
        refine main _ hz (.inl ?_)
        rcases zz with ⟨_, z1⟩ | (z0 | z0) | ⟨o, its, n, h1, h2, _⟩
        · rcases z1 with z1 | ⟨o, z1⟩
          · exact .base (.lst z1)
          · exact .base (.frz z1)
        · cases z0
        · rcases z0 with ⟨_, z0⟩; cases z0
        · exact .kList (by rw [← hK]; exact h1) h2
      | ins k fs =>
        obtain ⟨p, dx, gs, rfl, zz, ea, fl⟩ := r1.of_ins
        exact main _ hz (.inr ⟨k, rfl, fun i => .base (.ins ea i.cl i.ca hk.cn hk.ct i.cm)⟩)
      | cls k => cases hz
      | ty k => cases hz
  · cases hz
end
end DL
set_option Elab.async false
set_option linter.all false
set_option maxRecDepth 100000
set_option maxHeartbeats 4000000
namespace DL
open PySem L2 PyProof.Rows StX ClX
section
variable {X : Cx} {c : RC} {M : Addr → Prop} {ρ : List Addr} {H : Hp}
theorem dop_ne (hK : c.K = X.K) (hu : X.A.units + 64 < cLine) : OpR X (compareOp .NotEq) (V2 c fNe) := opr_imp (op_ne.or (op_neD hu)) fun x y H Q q => by
  obtain ⟨M, ρ, G, a, b, z, s, ra, rb, hz, q⟩ := v2_pure q
  cases hk : gEq a b with
  | none => rw [hk] at hz; cases hz
  | some k =>
    rw [hk] at hz
    injection hz with hz
    cases hz
    rcases geq_of hK hk ra rb with ⟨h1, h2⟩ | ⟨d, e, h1, h2, h3, h4, h5⟩
    · exact .inl ⟨h1, by rw [h2]; exact q _ _ same_refl .bl⟩
    · exact .inr ⟨d, e, h1, h2, h3, h4, by rw [h5]; exact q _ _ same_refl .bl⟩
end
/-! ### the end: the law itself -/
def spLaw (K : PySem.W.Frag) : Sp := fun vs H Q _ => ∃ (a : Addr) (ns : List Int), vs = [.ref a] ∧ SqL K H a (ns.map V.int) ∧ ns.length ≤ 63 ∧ ∀ H', Q (.bl true) H'
/-- the script as data -/
def scr (ns : List Int) : EV := .d (.lst (ns.map .int))
theorem ints_rep {c : RC} {M : Addr → Prop} {ρ : List Addr} {H : Hp} : ∀ ns : List Int, All2 (Rep c M ρ H) (ns.map D.int) (ns.map V.int)
  | [] => .nil
  | n :: ns => .cons .int (ints_rep ns)
theorem spd_law {K : PySem.W.Frag} {C : String → Addr} {N : String → List Str} {g : FM} (h : ∀ ns : List Int, ns.length ≤ 63 → ∃ G', g [scr ns] [] = .ok (.d (.bl true)) G') : ∀ vs H Q E, spLaw K vs H Q E → Spd K C N (arN 1) g vs H Q E := fun vs H Q E ⟨a, ns, e, hS, hl, q⟩ => by
  subst e
  obtain ⟨G', hg⟩ := h ns hl
  refine ⟨rfl, fun _ => False, [], [], [scr ns], ⟨rfl, List.nodup_nil, by simp, by simp, fun _ z => z.elim, fun _ z => z.elim, fun i k e => by simp at e⟩, .cons (Rep.lst ?_ (ints_rep ns)) .nil, ?_⟩
  · rcases hS with h1 | h1
    · exact .inl ⟨⟨fun z => z, fun z => z, by simp⟩, h1⟩
    · exact .inr (.inr h1)
  · rw [hg]
    intro v ρ' H' _ _ r
    rw [Rep.of_bl r]
    exact q H'
section
variable {P : Program} {w : World} {K : PySem.W.Frag} {mg : Str → Option Value} {base : Heap} {C : String → Addr} {N : String → List Str}
theorem fno_of {x qual : Str} {st : Stmt} {f : Addr} {fd : FuncData} {Nm ps : List Str} {k : Nat} {m : SM} (F : Fun K x qual st f fd) (S : FnScope Nm ps (defScope st))
    (hb : ∀ (cdv : Value) (A : Around) (outer : List Env) (s : Shared) (H : Hp) (E : XK) (B : Addr → Prop), Room k (A.deeper (envOfC qual (defScope st) s.heap.objs.size f cdv)) →
      DSs (cxOf (L2N.CX P w) P w K mg base Nm qual (defScope st) f cdv A outer s H E) ⟨K, C, N, B, 0, 0⟩ (fun cls d _ H => E cls d H) (defBody st) m) : FnOk P w K mg base (L2N.CX P w) (k + 1) f fd ps (Spd K C N (arN ps.length) (runB Nm.length m)) := by
  have hlN : ps.length ≤ Nm.length := by have := congrArg List.length S.pre; rw [List.length_take] at this; omega
  obtain ⟨oc, od, kV, doc, pm, an, cdv, ct, osl, rfl, lk, hcd⟩ := F.ex
  refine fn_of lk hcd S (fun vs H Q E h => by simpa [arN] using h.1) fun A outer s H vs Q E hr hsp => ?_
  obtain ⟨hl, B, ρ, G, es, s0, r, q⟩ := hsp
  exact ⟨_, hb cdv A outer s H E B hr, nM, ρ, G, _, rl_start s0 r (by rw [show vs.length = ps.length by simpa [arN] using hl]; exact hlN), sq_of q⟩
end
theorem walk {l : PySem.W.OpenLaw} {k : Nat} {x : Str} {q : Program} {loose : List Str} {XP : (Str → Option Value) → Heap → Prop} {YP : World → Heap → Prop} {d : DefRec} {K : Params → PySem.W.Frag} (hn : l.most = some 63) (hdf : d.params.defaults = []) (hr : Room k callerA)
    (hY : ∀ (w : World) (h : Heap), YP w h → (K w.params).In h)
    (F : ∀ (w : World) (mg : Str → Option Value) (fa : Addr) (h : Heap), (K w.params).In h → h.Ns mainGlobals mg → mg d.name = some (.ref fa) →
      ∃ fd : FuncData, (∀ (s : Shared) (u : Value), BindsTo s fd ⟨[u], []⟩ [(x, u)]) ∧ ∀ base : Heap, (K w.params).In base → base.Ns mainGlobals mg → FnOk l.prog w (K w.params) mg base (L2N.CX l.prog w) k fa fd [x] (spLaw (K w.params))) :
    PySem.W.WalkO q loose XP YP l.row.toRowW d [] (fun f vs => PySem.call f vs) :=
  L2.walk_of (n := 63) (k := k) (x := x) (CX := fun w => L2N.CX l.prog w) (sp := fun w => spLaw (K w.params)) hn (by decide) hdf hr hY F (fun _ _ a ns hl _ hS => ⟨a, ns, rfl, hS, hl, fun _ => rfl⟩) fun _ _ _ _ _ ⟨_, _, _, _, _, _, _, _, _, _, _, _, h⟩ => h
/-! ### helpers for printed terms -/
theorem kix_all {K : PySem.W.Frag} {C : String → Addr} {N : String → List Str} {f : Str} : ∀ {ks : List (String × Nat)}, (∀ p ∈ ks, HasF K C N f p.1 p.2) → ∀ k i, kix ks k = some i → HasF K C N f k i
  | [], _, k, i, h => by cases h
  | (k', i') :: r, hh, k, i, h => by
    unfold kix at h
    by_cases e : k' = k
    · subst e; rw [if_pos rfl] at h; cases h; exact hh _ List.mem_cons_self
    · rw [if_neg e] at h; exact kix_all (fun p hp => hh p (List.mem_cons_of_mem _ hp)) k i h
theorem kfn_all {P : Program} {w : World} {K : PySem.W.Frag} {mg : Str → Option Value} {base : Heap} {C : String → Addr} {N : String → List Str} {lv : Nat} {m : Str} : ∀ {ms : List (String × (Ar × FM))}, (∀ p ∈ ms, HasM P w K mg base C N lv m p.1 p.2.1 p.2.2) → ∀ k A g, kfn ms k = some (A, g) → HasM P w K mg base C N lv m k A g
  | [], _, k, A, g, h => by cases h
  | (k', a') :: r, hh, k, A, g, h => by
    unfold kfn at h
    by_cases e : k' = k
    · subst e; rw [if_pos rfl] at h; cases h; exact hh _ List.mem_cons_self
    · rw [if_neg e] at h; exact kfn_all (fun p hp => hh p (List.mem_cons_of_mem _ hp)) k A g h
theorem all_nil {α : Type} {p : α → Prop} : ∀ x ∈ ([] : List α), p x := fun _ h => nomatch h
theorem all_cons {α : Type} {p : α → Prop} {a : α} {l : List α} (h : p a) (t : ∀ x ∈ l, p x) : ∀ x ∈ a :: l, p x := fun x hx => by
  rcases List.mem_cons.mp hx with e | hx
  · rw [e]; exact h
  · exact t x hx
/-- in a comprehension's block nothing is raised -/
theorem takesB {X : Cx} {s : Shared} {H : Hp} {scope : Scope} {cenv : Env} {fp : List Addr} : L2N.Takes (X.blk s H scope cenv fp) W0 := fun u s' ⟨_, _, _, _, _, _, _, _, _, _, _, _, _, _, _, _, z⟩ => z
theorem takesF {X : Cx} {E : XK} (hs : X.stack = X.env :: X.outer) (hf : X.env.frame = some X.env.locals) (hex : X.ex = []) {E₁ : Value → Shared → Prop}
    (hx : X.xe = fun e s' => PySem.wpAny (model X.prog X.w) X.A (leaving X.env e) (fun _ s'' => L2N.CX X.prog X.w X.outer X.H_0 X.s_0 E e s'') E₁ s') : L2N.Takes X (fun cls d _ H => E cls d H) := L2N.takes_of hs hf hex hx
end DL
set_option Elab.async false
set_option linter.all false
set_option maxRecDepth 100000
set_option maxHeartbeats 4000000
namespace DL
open PySem PySem.Calls PySem.Spec L2 PyProof.Rows StX ClX
section
variable {X : Cx} {c : RC} {M : Addr → Prop} {ρ : List Addr} {σ : L2.St} {H : Hp} {G : GS} {lv : Nat} {cl : String} {A : Ar} {g : FM} {f : Addr} {Y : Around}
theorem env0_sub {pins : List (Addr × Obj)} {s : Shared} (I : Inv X pins σ H s) (fr : Y.frames = X.A.frames) : Env0 X.prog X.w X.K X.mg X.base Y X.stack s H := by
  have e := I.env0
  constructor
  case frames => rw [fr]; exact e.frames
  case mod => exact e.mod
  case bs => exact e.bs
  case bsz => exact e.bsz
  case funs => exact e.funs
  case frf => exact e.frf
  case hok => exact e.hok
  case bare => exact e.bare
/-- a call of a def from somewhere below the running body -/
theorem run_fnB {CX : CXT} {k : Nat} {f : Addr} {sp : Sp} {E : XK} {Q : VK} {s : Shared} {pins : List (Addr × Obj)} {vs : List V} {us : List Value} (fr : Y.frames = X.A.frames)
    (F : FnR X.prog X.w X.K X.mg X.base CX k f sp) (hr : Room k Y) (hx : PassesAt CX X σ E) (I : Inv X pins σ H s) (r : Vals vs us) (h : sp vs H Q E) :
    codeAny (model X.prog X.w) Y (.call (.ref f) ⟨us, []⟩)
      (fun res s' => match res with
        | .ok (.ret v) => EP X pins σ Q v s'
        | .ok _ => False
        | .error e => X.xe e s') s :=
  codeAny_mono (F Y X.stack s H us vs Q E hr (env0_sub I fr) r h) fun res s' z => match res, z with
    | .error e, z => hx pins H s e s' I z
    | .ok (.ret _), z => I.after z
    | .ok .next, z => z.elim
    | .ok .brk, z => z.elim
    | .ok .cont, z => z.elim
/-- what the store functions say of an own method's answer: a bool, a whole number, a text -/
def resB (o : Option (EV × GS)) : Option (EV × GS) := match o with
  | some (.d (.bl b), G) => some (.d (.bl b), G)
  | _ => none
theorem vq_B {o : Option (EV × GS)} {Q : VK} (h : VQ c M ρ H (resB o) Q) : VQ c M ρ H o (fun v H' => (∃ b, v = .bl b) ∧ Q v H') := by
  unfold resB at h
  split at h
  · rename_i b G'
    intro v ρ' H' ge s r
    exact ⟨⟨b, Rep.of_bl r⟩, h v ρ' H' ge s r⟩
  · exact h.elim
/-- bool(x) is whether x is true -/
theorem bool_in {prog : Program} {w : World} (x : Value) : MeetsIn prog w (Builtin.«bool.__new__» ⟨[.type "bool", x], []⟩) (fun A R s => wpAny (model prog w) A.in1 (truthy x) (fun b s' => R (.ok (.ret (.bool b))) s') (fun e s' => R (.error e) s') s) :=
  .of_wp fun A R s h => by
    unfold Builtin.«bool.__new__»
    refine wpAny_bind (wpAny_pure ?_)
    refine wpAny_bind (wpAny_of_eq F.conv_sub_bool ?_)
    dsimp only [Bool.not_true]
    rw [if_neg (show ¬ ((!true) = true) by decide)]
    refine wpAny_bind (wpAny_pure ?_)
    refine wpAny_bind (m := truthy x) (wpAny_mono h (fun b s' hb => wpAny_pure ⟨_, rfl, hb⟩) fun _ _ y => y)
theorem bool_call {prog : Program} {w : World} {A : Around} {E : Value → Shared → Prop} {s : Shared} {x : Value} {Q : Value → Shared → Prop} (h : wpAny (model prog w) A.in1.in1 (truthy x) (fun b s' => Q (.bool b) s') E s) : wpAny (model prog w) A (call (.type "bool") [x]) Q E s :=
  callType_newIn F.called_bool F.newNe_bool (F.typeCall_bool_1 x) (F.newCall_bool_1 x) (fun obj => F.args_object_init_2 obj x) F.entry_bool_new (bool_in x)
    (wpAny_mono h (fun _ _ q => ⟨rfl, q⟩) fun _ _ y => y)
/-- bool(a tuple) -/
def fBoolT : FN := fun es G => match es with
  | [.d (.tup xs)] => some (.d (.bl (!xs.isEmpty)), G)
  | _ => none
theorem dcall_boolT (hK : c.K = X.K) : CallR X (.type "bool") (VN c fBoolT) := by
  intro pins s σ H xs us Q I r ⟨M, ρ, G, es, sr, ra, q⟩
  unfold fBoolT at q
  split at q
  · rename_i ds
    cases ra with
    | cons ra t =>
      cases t
      obtain ⟨p, vs, rfl, z, rr⟩ := Rep.of_tup ra
      cases r with
      | cons rx t2 =>
        cases t2
        cases rx
        have hx : SqT X.K H p vs := by rw [← hK]; exact z.sq
        obtain ⟨its, r, pl, hz⟩ := I.tuple hx
        have hlen := r.length
        have hl := line63
        refine bool_call (truthy_tuple pl (by simp only [List.size_toArray]; omega) ⟨.bl (!ds.isEmpty), H, I.tok _, ?_, q _ _ _ Ge.refl sr Rep.bl⟩)
        show Value.bool _ = Value.bool _
        rw [all2_isEmpty rr, isEmpty_of r]
  · exact q.elim
/-- the type of what data stands for -/
def noC : DL.D → Bool
  | .cls _ => false
  | .ty _ => false
  | _ => true
theorem tyl_of {pins : List (Addr × Obj)} {s : Shared} {b : DL.D} {y : V} {u : Value} (hK : c.K = X.K) (I : Inv X pins σ H s) (rb : Rep c M ρ H b y) (ry : RelV y u) (hb : noC b = true) : PySem.W.Looks (model X.prog X.w) s.heap (typeOf u) ((tgOf b).v c.C) := by
  have key : ∀ {t : Value}, TyX X.K H y t → PySem.W.Looks (model X.prog X.w) s.heap (typeOf u) t := fun ty => by
    obtain ⟨P, Z, p, _⟩ := kit_of I ry ty
    exact Z.ty _ _ I.kIn p
  cases b with
  | non => cases rb.of_non; exact key (.base .non)
  | bl b => cases rb.of_bl; exact key (.base (.bl b))
  | int b => cases rb.of_int; exact key (.base (.int b))
  | str b => cases rb.of_str; exact key (.base (.str b))
  | tup b =>
    obtain ⟨p, us, rfl, zz, rr⟩ := rb.of_tup
    rcases zz with ⟨_, z1⟩ | (z0 | z0) | ⟨o, its, n, h1, h2, _⟩
    · rcases z1 with z1 | ⟨o, z1⟩
      · exact key (.base (.tup z1))
      · exact key (.fTuple z1)
    · cases z0
    · rcases z0 with ⟨_, z0⟩; cases z0
    · exact key (.kTuple (by rw [← hK]; exact h1) h2)
  | lst b =>
    obtain ⟨p, us, rfl, zz, rr⟩ := rb.of_lst
    rcases zz with ⟨_, z1⟩ | (z0 | z0) | ⟨o, its, n, h1, h2, _⟩
    · rcases z1 with z1 | ⟨o, z1⟩
      · exact key (.base (.lst z1))
      · exact key (.base (.frz z1))
    · cases z0
    · rcases z0 with ⟨_, z0⟩; cases z0
    · exact key (.kList (by rw [← hK]; exact h1) h2)
  | ins k fs =>
    obtain ⟨p, dx, gs, rfl, zz, ea, fl⟩ := rb.of_ins
    cases (show u = Value.ref p from ry)
    obtain ⟨ox, od, J⟩ := inst_at I ea
    exact J.type
  | cls k => cases hb
  | ty k => cases hb
/-- x == y, x of an own class with its own __eq__; nt: what y may be -/
def fEqO (nt : List Tg) (cl : String) (A : Ar) (g : FM) : F2 := fun x y G => match x, y with
  | .d (.ins k fs), .d b => if k = cl ∧ A 2 = true ∧ noC b = true ∧ tgOf b ∈ nt then resB (toOpt (g [.d (.ins k fs), .d b] G)) else none
  | _, _ => none
theorem dop_eqO {nt : List Tg} (hK : c.K = X.K) (hr : Room lv X.A) (hn : ∀ t ∈ nt, PySem.W.notFirst X.K (c.C cl) (t.v c.C) = true) (hs : PySem.W.findIn X.K (.ref (c.C cl)) "__eq__" = some (some (.ref f))) (hf : PySem.W.isFn X.K (.ref f) = true)
    (F : FnG X.prog X.w X.K X.mg X.base c.C c.N lv f A g) : OpR X (compareOp .Eq) (V2 c (fEqO nt cl A g)) := by
  intro pins s σ H x y v u Q I rx ry ⟨M, ρ, G, a, b, sr, ra, rb, q⟩
  unfold fEqO at q
  split at q
  · rename_i k fs b'
    split at q
    · rename_i hk
      obtain ⟨rfl, hA, hc, ht⟩ := hk
      have sp := spd_opt (A := A) (g := g) (es := [.d (.ins k fs), .d b']) sr (.cons ra (.cons rb .nil)) hA (vq_B q)
      obtain ⟨p, dx, gs, rfl, z, ea, fl⟩ := Rep.of_ins ra
      cases (show v = Value.ref p from rx)
      obtain ⟨ox, od, J⟩ := inst_at I ea
      obtain ⟨m, hF⟩ := I.fr
      show wpAny (model X.prog X.w) X.A (richCompare .Eq (.ref p) u) (EP X pins σ Q) X.xe s
      refine PySem.W.cmp_K (op := .Eq) hr.units0 hF I.ok.mod.kin J (tyl_of hK I rb ry hc) (hn _ ht) hs hf ?_
      rw [hK] at sp
      refine wpAny_mono (wpAny_call (run_fnA (us := [.ref p, u]) (vs := [.ref p, y]) F hr pass0' I (.cons rfl (.cons ry .nil)) sp)) (fun w s' hw => ?_) fun _ _ x => x
      obtain ⟨z', H', I', rz, ⟨b, e⟩, qz⟩ := hw
      subst e
      cases rz
      exact ⟨.bl b, H', I', rfl, qz⟩
    · exact q.elim
  · exact q.elim
end
end DL
set_option Elab.async false
set_option linter.all false
set_option maxRecDepth 100000
set_option maxHeartbeats 4000000
namespace DL
open PySem PySem.Spec L2 PyProof.Rows StX ClX
section
variable {X : Cx} {c : RC} {W : WX} {M : Addr → Prop} {ρ : List Addr} {σ : L2.St} {H : Hp} {G : GS} {e o : Expr} {mo me : EM} {pos apos : Pos} {lv : Nat} {cl : String} {A : Ar} {g : FM} {f : Addr}
/-! ### texts -/
def txts : List DL.D → Option (List Str)
  | [] => some []
  | .str x :: r => (txts r).map (x :: ·)
  | _ => none
theorem txts_rep : ∀ {ds : List DL.D} {vs : List V} {zs : List Str}, txts ds = some zs → All2 (Rep c M ρ H) ds vs → vs = zs.map V.str
  | [], _, _, h, .nil => by cases h; rfl
  | .str x :: r, _, zs, h, .cons ra t => by
    unfold txts at h
    cases hr : txts r with
    | none => rw [hr] at h; cases h
    | some ys =>
      rw [hr] at h
      cases h
      rw [txts_rep hr t, ra.of_str]
      rfl
  | .non :: _, _, _, h, _ => by cases h
  | .bl _ :: _, _, _, h, _ => by cases h
  | .int _ :: _, _, _, h, _ => by cases h
  | .tup _ :: _, _, _, h, _ => by cases h
  | .lst _ :: _, _, _, h, _ => by cases h
  | .ins _ _ :: _, _, _, h, _ => by cases h
  | .cls _ :: _, _, _, h, _ => by cases h
  | .ty _ :: _, _, _, h, _ => by cases h
def joinD (a : Str) (ys : List DL.D) : Option DL.D := (txts ys).bind fun zs => if (zs.map (·.length)).sum + zs.length * a.length ≤ 16777216 then some (.str (Txt.join a zs)) else none
def fJn (a : Str) : F1 := pure1 fun
  | .lst ys => joinD a ys
  | .tup ys => joinD a ys
  | _ => none
/-- o.join(e) -/
def eJoin (mo me : EM) : EM := fun env G => (mo env G).bind fun x G1 => match x with
  | .d (.str a) => (me env G1).bind fun y G2 => lift (fJn a y G2)
  | _ => .st
theorem de_join (hK : c.K = X.K) (ho : DE X c W o mo) (he : DE X c W e me) (hs : starEach [e] X.env = [(false, eval e X.env)] := by rfl) (hbase : attributeBase o "join" X.env (eval o X.env) = eval o X.env := by rfl) (hline : (apos.endLine == pos.line) = true := by rfl) :
    DE X c W (.Call (.Attribute o "join" apos) [e] [] pos) (eJoin mo me) := by
  refine pe_imp (pe_join ho he hs hbase hline) fun σ H Q q => ?_
  obtain ⟨M, ρ, G, env, R, q⟩ := q
  refine ⟨M, ρ, G, env, R, (TQ.bind (R := RE c) q).imp fun v H1 ⟨ρ1, G1, e1, g1, s1, r1, q1⟩ => ?_⟩
  split at q1
  · rename_i a
    have ev : v = .str a := Rep.of_str r1
    refine ⟨⟨a, ev⟩, M, ρ1, G1, env, R.ge g1 s1, (TQ.bind (R := RE c) q1).imp fun u H2 ⟨ρ2, G2, e2, g2, s2, r2, q2⟩ => ?_⟩
    have fin : ∀ ys p vs, u = .ref p → (SqL c.K H2 p vs ∨ SqT c.K H2 p vs) → All2 (Rep c M ρ2 H2) ys vs → TQ (RE c) c W M ρ2 σ H2 (lift ((joinD a ys).map fun z => (EV.d z, G2))) Q →
        ∃ a' p, ∃ zs : List Str, v = .str a' ∧ [u] = [.ref p] ∧ (SqL X.K H2 p (zs.map V.str) ∨ SqT X.K H2 p (zs.map V.str)) ∧ (zs.map (·.length)).sum + zs.length * a'.length ≤ 16777216 ∧ Q (.str (Txt.join a' zs)) H2 := fun ys p vs hu hz rr q3 => by
      unfold joinD at q3
      cases hy : txts ys with
      | none => rw [hy] at q3; exact q3.elim
      | some zs =>
        rw [hy] at q3
        dsimp only [Option.bind] at q3
        split at q3
        · rename_i hl
          refine ⟨a, p, zs, ev, by rw [hu], ?_, hl, TQ.ok q3 s2 Rep.str⟩
          rw [← txts_rep hy rr, ← hK]
          exact hz
        · exact q3.elim
    cases e2 with
    | o i => exact q2.elim
    | d y =>
      cases y with
      | lst ys => obtain ⟨p, vs, hu, z, rr⟩ := Rep.of_lst r2; exact fin ys p vs hu (.inl z.sq) rr q2
      | tup ys => obtain ⟨p, vs, hu, z, rr⟩ := Rep.of_tup r2; exact fin ys p vs hu (.inr z.sq) rr q2
      | _ => exact q2.elim
  · exact q1.elim
/-! f-strings of two parts or more -/
/-! str, repr -/
/-! in of whole numbers; is of bools -/
def fIsNotB : F2 := pure2 fun
  | .bl a, .bl b => some (.bl (!decide (a = b)))
  | _, _ => none
theorem dop_isnotB : OpR X (compareOp .IsNot) (V2 c fIsNotB) := opr_imp op_isnot_bl fun x y H Q q => by
  obtain ⟨M, ρ, G, a, b, z, s, ra, rb, hz, q⟩ := v2_pure q
  split at hz
  · rename_i a b
    cases hz
    exact ⟨a, b, ra.of_bl, rb.of_bl, q _ _ same_refl .bl⟩
  · cases hz
end
end DL
set_option Elab.async false
set_option linter.all false
set_option maxRecDepth 100000
set_option maxHeartbeats 4000000
/-! super().__init__(..) of an own error over the hand layer. -/
namespace SX
open PySem PySem.Spec PyProof.Rows L2 PySem.W NdefX
/-- what the text says of a method f of the class at D that says super() -/
structure SupF (P : Program) (K : PySem.W.Frag) (G : NF) (f cc D : Addr) (sf : Str) : Prop where
  cl : G.cl = [(("__class__" : Str), cc)]
  fn : ∃ oc od fd osl ar, K.lookup f = some ⟨oc, od, .func fd, osl⟩ ∧ (fd.params.posonlyargs ++ fd.params.args).head? = some ar ∧ ar.arg = sf
  code : ∃ c1 d1 vs s1 file tf, K.lookup G.c = some ⟨c1, d1, .fields vs, s1⟩ ∧ vs[2]? = some (.str file tf) ∧ ((P.main.file : Str) == file) = true
  cell : ∃ c1 d1 s1, K.lookup cc = some ⟨c1, d1, .cell (some (.ref D)), s1⟩
  clsD : ∃ cd, clsIn K D = some cd
  sup : nsIn K mainGlobals "super" = some none
  ks : G.scope.names.lookup ("super" : Str) = some .globalImplicit
  kc : G.scope.names.lookup ("__class__" : Str) = some .free
  ka : G.scope.names.lookup sf = some .local
  kk : G.scope.kind = .function
  top : (P.main.scope.names.lookup ("super" : Str)).isSome = false
section
variable {CX : CXT} {P : Program} {w : World} {K : PySem.W.Frag} {mg : Str → Option Value} {base : Heap} {N : List Str} {G : NF} {f cc D C a : Addr} {A : Around} {outer : List Env} {s0 s : Shared} {H0 H : Hp} {E : XK} {sf : Str} {pins : List (Addr × Obj)} {σ : L2.St}
/-- super() where an attribute of it is asked: a record for the object at a -/
theorem sup_base {body : List Stmt} {p0 p1 : Pos} {attr : Str} {whole : Sem Value} {ox : Obj} {Q : Value → Shared → Prop} {EE : Value → Shared → Prop} (S : SupF P K G f cc D sf) (I : Inv (ncx CX P w K mg base N G f A outer s0 H0 E) pins σ H s)
    (h0 : N[0]? = some sf) (hs : σ[0]? = some (some (.ref a))) (ha : s.heap.get? a = some ox) (hcl : ox.cls = .ref C) (hnc : ∀ z, ox.data ≠ .cls z) (hsub : mroIn K C (.ref D) = some true) (hat : (attr == ("__class__" : Str)) = false) (hm : mg "super" = none)
    (h : ∀ so s', Inv (ncx CX P w K mg base N G f A outer s0 H0 E) ((so, ks_superObj D a C) :: pins) σ H s' → Q (.ref so) s') :
    _root_.PySem.wpAt (model P w) (A.deeper (envF G f s0.heap.objs.size)) (.func body (envF G f s0.heap.objs.size)) (attributeBase (.Call (.Name "super" p0) [] [] p1) attr (envF G f s0.heap.objs.size) whole) Q EE s := by
  obtain ⟨oc, od, fd, osl, ar, hf, hp, har⟩ := S.fn
  obtain ⟨c1, d1, vs, s1, file, tf, hcode, hvs, hfile⟩ := S.code
  obtain ⟨c2, d2, s2, hcell⟩ := S.cell
  obtain ⟨cd, hD⟩ := S.clsD
  have kin : K.In s.heap := I.kIn
  obtain ⟨oD, hD1, hD2⟩ : ∃ oD, s.heap.get? D = some oD ∧ oD.data = .cls cd := by
    unfold clsIn at hD
    split at hD
    · rename_i e1 e2 e3 e4 ho
      cases hD
      exact ⟨_, kin _ _ ho, rfl⟩
    · cases hD
  obtain ⟨m, hn, hl⟩ := I.loc
  obtain ⟨u, r, l⟩ := hl 0 sf _ h0 hs (.inl S.ka)
  obtain rfl : u = Value.ref a := r
  have hlook : m sf = some (.ref a) := by
    rcases l with ⟨_, z⟩ | ⟨z, _⟩
    · exact z
    · have z' : G.scope.names.lookup sf = some .cell ∨ G.scope.names.lookup sf = some .free := z
      rw [S.ka] at z'
      rcases z' with z' | z' <;> cases z'
  obtain ⟨mb, hb1, hb2⟩ := I.mod.blt
  have kf : (envF G f s0.heap.objs.size).scope.kind = .function := S.kk
  refine ks_wpAt_super_base (env := envF G f s0.heap.objs.size) S.ks S.kc hat rfl (kin _ _ hf) rfl hp rfl (kin _ _ hcode) rfl hvs hfile S.top ?_
  refine ks_loadName_global kf S.ks (Calls.loadGlobal_builtin (env := envF G f s0.heap.objs.size) (I.mod.glob.keeps I.bk) hm (hb1.keeps I.bk) ((hb2 _ (by decide)).trans (show bootBuiltins "super" = some (.type "super") from ?_)) ⟨rfl, ?_⟩)
  · exact PyProof.Rows.Boot.«super»
  refine wpAny_loadName_free kf S.kc (c := cc) (by show G.cl.lookup _ = _; rw [S.cl]; rfl) ⟨_, kin _ _ hcell, rfl⟩ ?_
  rw [har]
  refine wpAny_loadName_local kf S.ka hn hlook ?_
  refine ks_wpAny_isType_cls (h := s.heap) (g := s.gens) hD1 hD2 ⟨rfl, ?_⟩
  refine ks_wpAny_call_super (h := s.heap) hD1 hD2 ha hcl hnc (looks_mroIn kin hsub) fun h' e k => ?_
  exact h _ _ (ClX.pin_new I k (Nat.le_refl _) e fun v z => nomatch z)
end
end SX
set_option Elab.async false
set_option linter.all false
set_option maxRecDepth 100000
set_option maxHeartbeats 4000000
/-! An own error over ValueError by its __init__, raised where nothing is handled. -/
namespace SX
open PySem PySem.Spec PyProof.Rows L2 PySem.W NdefX
section
variable {CX : CXT} {P : Program} {w : World} {K : PySem.W.Frag} {mg : Str → Option Value} {base : Heap} {N ps : List Str} {G : NF} {f cc D : Addr} {k : Nat} {sf : Str} {dV kV doc pm ctv oc : Value} {od an : Option Addr} {osl : Array (Option Value)} {sp : Sp}
/-- a method that says super(), by its body; the body runs where its own frame is known -/
theorem fn_sup (S : SupF P K G f cc D sf) (lk : K.lookup f = some ⟨oc, od, .func (fnX G.name G.qual G.params G.body G.scope G.cl dV kV doc pm an (.ref G.c) ctv), osl⟩) (hcd : codeIn K (.ref G.c) G.qual = true) (Sc : NScope N ps [("__class__" : Str)] G.scope) (len : ∀ vs H Q E, sp vs H Q E → vs.length = ps.length)
    (hb : ∀ (A : Around) (outer : List Env) (s : Shared) (H : Hp) (vs : List V) (Q : VK) (E : XK), Room k (A.deeper (envF G f s.heap.objs.size)) → sp vs H Q E → ∀ s1, Inv (ncx CX P w K mg base N G f A outer s H E) [] (startF N vs [none]) H s1 →
      _root_.PySem.wpAt (model P w) (A.deeper (envF G f s.heap.objs.size)) (.func G.body (envF G f s.heap.objs.size)) (execs G.body (envF G f s.heap.objs.size)) (SP (ncx CX P w K mg base N G f A outer s H E) [] { nx := fun _ H' => Q .non H', rt := Q }) (ncx CX P w K mg base N G f A outer s H E).xe s1) :
    FnOk P w K mg base CX (k + 1) f (fnX G.name G.qual G.params G.body G.scope G.cl dV kV doc pm an (.ref G.c) ctv) ps sp := by
  refine ⟨len, fun A outer s H args us vs Q E hr e0 hbd r hsp => ?_⟩
  have hl := len _ _ _ _ hsp
  have kin : K.In s.heap := e0.mod.kin.keeps fun b o e => (e0.bs b o e).1
  have lim : s.heap.NoLimit := e0.mod.nolimit.keeps fun b o e => (e0.bs b o e).1
  refine codeAny_call_function hr.depth (kin _ _ lk) rfl Sc.co Sc.gen rfl (codeRec_of kin hcd) (hbd _ _ _ _ ?_)
  refine wpAny_newFunctionEnv Sc.nocell (fun ⟨n, _⟩ hy => Sc.par n (List.of_mem_zip hy).1) (fun h₁ hns hsb => ⟨lim.fresh _ hsb, ?_⟩) Sc.kind
  show codeAny _ _ (.func G.body (envF G f s.heap.objs.size)) _ _
  have kp : ∀ b o, s.heap.get? b = some o → h₁.get? b = some o := fun b o e => hsb.extBut b o (Nat.ne_of_lt (Heap.lt_size e)) (Heap.get?_push_of_some _ e)
  obtain ⟨c1, d1, s1, hcell⟩ := S.cell
  have C : CellsAt G.cl [("__class__" : Str)] [none] s.heap H := by
    have key : ∀ y c, G.cl.lookup y = some c → y = "__class__" ∧ c = cc := fun y c e => by
      rw [S.cl] at e
      by_cases h : y = "__class__"
      · subst h
        have e' : some cc = some c := e
        exact ⟨rfl, (Option.some.inj e').symm⟩
      · have h' : (y == ("__class__" : Str)) = false := by simpa using h
        simp [List.lookup, h'] at e
    have hbase := e0.mod.kin _ _ hcell
    refine ⟨rfl, fun y c e => ?_, fun x y c e1 e2 => ?_, fun i y e => ?_⟩
    · obtain ⟨_, rfl⟩ := key y c e
      exact ⟨(e0.bs _ _ hbase).2, _, _, (e0.bs _ _ hbase).1, rfl⟩
    · exact (key x c e1).1.trans (key y c e2).1.symm
    · have hi : i = 0 := by
        have := (List.getElem?_eq_some_iff.mp e).1
        simpa using this
      subst hi
      have hy : y = "__class__" := by simpa using e.symm
      subst hy
      exact ⟨cc, by rw [S.cl]; rfl, fun v z => by cases z⟩
  have I := inv_startN (CX := CX) (f := f) (E := E) (tk := s.toks + (ps.zip us).length) Sc hr.hd e0 hl r C hns kp
  refine ks_codeAny_funcAt (ks_wpAt_mono (hb A outer s H vs Q E (hr.deeper _) hsp _ I) (fun fl s' hs => ?_) fun e s' hs => hs)
  have fin : ∀ {σ' : L2.St} {H' : Hp} {v : V} {u : Value}, Inv (ncx CX P w K mg base N G f A outer s H E) [] σ' H' s' → RelV v u → Q v H' → CE outer P w H s Q u s' :=
    fun {σ' H' v u} J rv q => ⟨v, H', J.os, J.bare, J.base, J.hok, rv, q⟩
  cases fl with
  | ret u =>
    obtain ⟨v, σ', H', J, rv, q⟩ := hs
    exact fin J rv q
  | next =>
    obtain ⟨σ', H', J, q⟩ := hs
    exact fin (v := V.non) (u := Value.none) J rfl q
  | brk =>
    obtain ⟨_, _, _, q⟩ := hs
    exact False.elim q
  | cont =>
    obtain ⟨_, _, _, q⟩ := hs
    exact False.elim q
end
end SX
set_option Elab.async false
set_option linter.all false
set_option maxRecDepth 100000
set_option maxHeartbeats 4000000
/-! Own errors of one field: made, raised. -/
namespace DL
open PySem L2 PyProof.Rows NdefX
section
variable {c : RC} {M : Addr → Prop} {ρ : List Addr} {H H' : Hp} {a C : Addr} {dx : Option Addr}
theorem exo_lst {e C : Addr} {d : Option Addr} {xs : List V} : exo e C d ≠ .lst xs := fun z => by
  have z' : HO.ext _ = HO.lst xs := z
  cases z'
/-- a heap of records of the name q -/
theorem exo_code {e C : Addr} {d : Option Addr} {b : Addr} {q : Str} : exo e C d ≠ LamX.CodeO b q := fun z => by
  unfold exo LamX.CodeO at z
  injection z with z
  have h := congrFun z ⟨Array.replicate (b + 1) { cls := .none, data := .fields #[.none, .str q 0] }, {}⟩
  have g : ∀ k o, (⟨Array.replicate (b + 1) { cls := .none, data := .fields #[.none, .str q 0] }, {}⟩ : Heap).get? k = some o → o = { cls := .none, data := .fields #[.none, .str q 0] } := fun k o hk => by
    have := ((Heap.get?_eq_some _ _ _).mp hk).1
    rw [Array.getElem?_replicate] at this
    split at this
    · exact (Option.some.inj this).symm
    · cases this
  obtain ⟨t1, w⟩ : ∃ t1 : Addr, (⟨Array.replicate (b + 1) { cls := .none, data := .fields #[.none, .str q 0] }, {}⟩ : Heap).get? e = some ({ cls := .ref C, dict := d, data := .fields #[.ref t1, .none, .none, .none, .bool false, .none] } : Obj) := by
    rw [h]
    exact ⟨_, _, 0, (Heap.get?_eq_some _ _ _).mpr ⟨by rw [Array.getElem?_replicate, if_pos (Nat.lt_succ_self b)], rfl⟩, rfl, rfl⟩
  have := congrArg Obj.cls (g _ _ w)
  cases this
theorem exo_ins {e C k : Addr} {d : Option Addr} {y : Addr} {gs : List (Str × V)} : exo e C d ≠ .ins k y gs := fun z => by
  have z' : HO.ext _ = HO.ins k y gs := z
  cases z'
/-- all that is read stands, but what is at a -/
structure Off (a : Addr) (H H' : Hp) : Prop where
  at_ : ∃ e C d, H a = some (exo e C d)
  keep : ∀ b o, b ≠ a → H b = some o → H' b = some o
theorem Off.rd {u : HO} {b : Addr} (f : Off a H H') (hu : ∀ e C d, exo e C d ≠ u) (r : Rd H b u) : Rd H' b u := by
  obtain ⟨e, C, d, z⟩ := f.at_
  have ne : b ≠ a := fun q => by
    rw [q] at r
    rcases r with r | ⟨o, r⟩
    · rw [z] at r; exact hu _ _ _ (Option.some.inj r)
    · rw [z] at r; exact exo_frz (Option.some.inj r)
  rcases r with r | ⟨o, r⟩
  · exact .inl (f.keep _ _ ne r)
  · exact .inr ⟨o, f.keep _ _ ne r⟩
theorem RepN.off (f : Off a H H') : ∀ {n : Nat} {d : D} {v : V}, RepN c M ρ H n d v → RepN c M ρ H' n d v := by
  intro n
  induction n with
  | zero => intro d v h; cases d <;> exact h
  | succ n ih =>
    intro d v h
    cases d with
    | tup xs => obtain ⟨b, vs, e, z, r⟩ := h; exact ⟨b, vs, e, z.imp (fun q => ⟨q.1, f.rd (fun _ _ _ => exo_tup) q.2⟩) id, r.imp fun _ _ q => ih q⟩
    | lst xs => obtain ⟨b, vs, e, z, r⟩ := h; exact ⟨b, vs, e, z.imp (fun q => ⟨q.1, f.rd (fun _ _ _ => exo_lst) q.2⟩) id, r.imp fun _ _ q => ih q⟩
    | ins k fs =>
      obtain ⟨b, dx, gs, e, z, e2, nm, r⟩ := h
      refine ⟨b, dx, gs, e, z, f.keep _ _ (fun q => ?_) e2, nm, r.imp fun _ _ q => ih q⟩
      obtain ⟨_, _, _, z⟩ := f.at_
      rw [q, z] at e2; exact exo_ins (Option.some.inj e2)
    | _ => exact h
theorem Rep.off (f : Off a H H') {d : D} {v : V} (h : Rep c M ρ H d v) : Rep c M ρ H' d v := let ⟨n, q⟩ := h; ⟨n, q.off f⟩
theorem RepE.off (f : Off a H H') {d : EV} {v : V} (h : RepE c M ρ H d v) : RepE c M ρ H' d v := by
  cases d with
  | d x => exact Rep.off f h
  | o i => exact h
theorem SR.off {G : GS} (f : Off a H H') (s : SR c M ρ G H) (na : ¬ M a) (nb : ¬ c.B a) : SR c M ρ G H' := by
  have ne : ∀ b, b ≠ a → H b ≠ none → H' b ≠ none := fun b hb h => by
    cases e : H b with
    | none => exact absurd e h
    | some o => rw [f.keep _ _ hb e]; simp
  refine ⟨s.len, s.nd, s.sep, fun i xs e => ?_, fun b m => ne b (fun q => na (q ▸ m)) (s.mt b m), fun b m => ne b (fun q => nb (q ▸ m)) (s.bt b m), fun i k e => ?tb⟩
  case tb =>
    obtain ⟨p, t⟩ := s.tb i k e
    obtain ⟨x1, x2, x3, y⟩ := f.at_
    exact ⟨p, tabs_keep t (fun ps z => f.keep _ _ (fun w => by rw [w, y] at z; unfold exo at z; cases z) z) fun b z => f.keep _ _ (fun w => exo_code (Option.some.inj (y.symm.trans ((congrArg H w).symm.trans z)))) z⟩
  obtain ⟨b, vs, p, q, r⟩ := s.at_ i xs e
  refine ⟨b, vs, p, f.keep _ _ (fun z => ?_) q, r.imp fun _ _ h => h.off f⟩
  obtain ⟨_, _, _, y⟩ := f.at_
  rw [z, y] at q; exact exo_lst (Option.some.inj q)
end
/-- raise C(e), of one field -/
def sEr (cl : String) (ok : D → Bool) (m : EM) : SM := fun env G => ofE (m env G) env fun e G1 => match e with
  | .d x => if ok x = true then .er cl [x] env G1 else .st
  | _ => .st
end DL
set_option Elab.async false
set_option linter.all false
set_option maxRecDepth 100000
set_option maxHeartbeats 4000000
/-! try .. except C as e; e.f; calls within an except suite. -/
namespace DL
open PySem L2 PyProof.Rows
/-- e.f of the error that slot i holds -/
def eXf (i : Nat) (cl : String) (j : Nat) : EM := fun env G => match env[i]? with
  | some (.exn k fs) => if k = cl then (match fs[j]? with
    | some x => .ok (.d x) G
    | none => .st) else .st
  | _ => .st
/-- holds no object of the frame's own -/
def plainS : Sl → Bool
  | .no => true
  | .ev _ => true
  | _ => false
def afterO (i : Nat) (o : OutS) : OutS := match o with
  | .nx env G => if (env.set i .no).all plainS = true then .nx (env.set i .no) G else .st
  | .bk env G => if (env.set i .no).all plainS = true then .bk (env.set i .no) G else .st
  | .ct env G => if (env.set i .no).all plainS = true then .ct (env.set i .no) G else .st
  | .rt e G => .rt e G
  | _ => .st
/-- try: mb, except as slot i: ms, where only the error cl comes -/
def sTryAs (i : Nat) (cl : String) (mb ms : SM) : SM := fun env G => match mb env G with
  | .er k fs env1 G1 => if k = cl ∧ fs.isEmpty = false ∧ env1.all plainS = true ∧ i < env1.length then afterO i (ms (env1.set i (.exn cl fs)) G1) else .st
  | o => o
section
variable {c : RC} {M M' : Addr → Prop} {ρ ρ' : List Addr} {G : GS} {env : En} {σ : L2.St} {H H' : Hp}
/-- out of it: the name goes -/
theorem rl_out {a dd : Addr} {i : Nat} (R : Rl ⟨c.K, c.C, c.N, c.B, a, dd⟩ M ρ G env σ H) (h : (env.set i .no).all plainS = true) : Rl c M ρ G (env.set i .no) (σ.set i none) H := by
  have v : Cv ⟨c.K, c.C, c.N, c.B, a, dd⟩ M c M ρ := ⟨rfl, rfl, rfl, fun b z => z⟩
  have s : SR c M ρ G H := R.s.cv v R.s.sep R.s.mt R.s.bt
  obtain ⟨oa, h1, _⟩ := R.e
  refine ⟨s, by simpa using R.len, oa, fun j sl e => ?_, fun j k o u e => ?_⟩
  · have hp := List.all_eq_true.mp h sl (List.mem_of_getElem? e)
    by_cases hj : j = i
    · subst hj
      have hl : j < env.length := by simpa using (List.getElem?_eq_some_iff.mp e).1
      rw [List.getElem?_set_self hl] at e; cases e
      trivial
    · rw [List.getElem?_set_ne (Ne.symm hj)] at e
      have sg : (σ.set i none)[j]? = σ[j]? := List.getElem?_set_ne (Ne.symm hj)
      match sl, hp, h1 j sl e with
      | .no, _, _ => trivial
      | .ev x, _, ⟨u, p, q⟩ => exact ⟨u, by rw [sg]; exact p, q.cv v⟩
  · have hp := List.all_eq_true.mp h _ (List.mem_of_getElem? e)
    cases hp
end
section
variable {X : Cx} {c : RC} {W : WX}
theorem SQ.after {c' : RC} {a dd : Addr} {i : Nat} {M : Addr → Prop} {ρ : List Addr} {H : Hp} {o : OutS} {Dn : Ends} (h : SQ c W M ρ H (afterO i o) Dn) :
    SQ ⟨c.K, c.C, c.N, c.B, a, dd⟩ W0 nM ρ H o { nx := fun σ' H' => Dn.nx (σ'.set i none) H', rt := Dn.rt, bk := fun σ' H' => Dn.bk (σ'.set i none) H', ct := fun σ' H' => Dn.ct (σ'.set i none) H' } := by
  have gr : ∀ {M' : Addr → Prop} {ρ' : List Addr} {H' : Hp}, Gr nM ρ H M' ρ' H' → Gr M ρ H M' ρ' H' := fun g => ⟨fun a o e n _ => g.keep a o e n fun z => z, g.there, g.grow, fun a z => (g.mine a z).elim (fun y => y.elim) .inr⟩
  cases o with
  | nx env G =>
    have h' : SQ c W M ρ H (if (env.set i .no).all plainS = true then .nx (env.set i .no) G else .st) Dn := h
    split at h'
    · rename_i hp
      exact fun M' ρ' σ' H' g R => h' M' ρ' _ H' (gr g) (rl_out R hp)
    · exact h'.elim
  | bk env G =>
    have h' : SQ c W M ρ H (if (env.set i .no).all plainS = true then .bk (env.set i .no) G else .st) Dn := h
    split at h'
    · rename_i hp
      exact fun M' ρ' σ' H' g R => h' M' ρ' _ H' (gr g) (rl_out R hp)
    · exact h'.elim
  | ct env G =>
    have h' : SQ c W M ρ H (if (env.set i .no).all plainS = true then .ct (env.set i .no) G else .st) Dn := h
    split at h'
    · rename_i hp
      exact fun M' ρ' σ' H' g R => h' M' ρ' _ H' (gr g) (rl_out R hp)
    · exact h'.elim
  | rt e G => exact fun M' ρ' v H' g s r => h M' ρ' v H' (gr g) (SR.cv (c := ⟨c.K, c.C, c.N, c.B, a, dd⟩) (M := M') ⟨rfl, rfl, rfl, fun b z => z⟩ s s.sep s.mt s.bt) (RepE.cv (c := ⟨c.K, c.C, c.N, c.B, a, dd⟩) (M := M') (c' := c) (M' := M') ⟨rfl, rfl, rfl, fun b z => z⟩ r)
  | er cl fs e G => exact h.elim
  | st => exact h
end
/-! ### defs called where an error is handled -/
end DL
set_option Elab.async false
set_option linter.all false
set_option maxRecDepth 100000
set_option maxHeartbeats 4000000
/-! what a printed text says of an own error of one field. -/
namespace DL
open PySem L2 PyProof.Rows NdefX
abbrev nfo (st : Stmt) (nm qual : Str) (cc c : Addr) : NF := ⟨nm, qual, defArgs st, defBody st, defScope st, [(("__class__" : Str), cc)], c⟩
section
open ClX
variable {X : Cx} {c : RC} {W : WX} {pos apos : Pos} {m : Str} {lv : Nat} {pl : Sem Bool}
theorem de_cmeth0 {x : Str} {p' : Pos} {cl : String} {mc : Value} {pr gf : Addr} {A : Ar} {g : FM} (hK : c.K = X.K) (hg : Gl X x) (hm : X.mg x = some (.ref (c.C cl))) (r : CRead X.K (c.C cl) mc) (cm : CMet X.K (c.C cl) mc m pr gf) (F : FnG X.prog X.w X.K X.mg X.base c.C c.N lv gf A g) (hr : Room lv X.A) (tk : L2N.Takes X W)
    (hdb : (x == ("__debug__" : Str)) = false := by decide) (ht : MRow X (.Name x p') m apos [] pos pl := by rfl) :
    DE X c W (.Call (.Attribute (.Name x p') m apos) [] [] pos) (eCMeth cl A g aNil) := by
  refine ⟨fun pins s σ H Q I q => ?_⟩
  refine PySem.W.methodCall_KW (pl := pl) (ld_glob I hg hm ?_ hdb) ht
  refine getmethcm_ok I r cm fun s2 I2 => ?_
  obtain ⟨M, ρ, G, env, R, q⟩ := q
  have q2 : Spd c.K c.C c.N A g [.ref (c.C cl)] H Q (WE W σ) := spd_of (es1 := [.d (.cls cl)]) R.s (.cons Rep.cls .nil) q
  refine PySem.W.callWith_M0 (K := X.K) ⟨pin_at I2, I2.kIn⟩ cm.fi ?_
  rw [hK] at q2
  exact run_cmA F hr (L2N.passAt tk σ) I2 .nil q2
end
theorem roomH_units {k : Nat} {A : Around} (r : L2H.RoomH k A) : A.units + 64 < cLine := by have := r.un; omega
end DL
namespace L2H
theorem RoomH.units {k : Nat} {A : PySem.Around} (r : RoomH k A) : A.units + 64 < PySem.cLine := DL.roomH_units r
end L2H
set_option Elab.async false
set_option linter.all false
set_option maxRecDepth 100000
set_option maxHeartbeats 4000000
/-! isinstance(e, C) of the error that a suite handles. -/
namespace DL
open PySem L2 PyProof.Rows
end DL
set_option Elab.async false
set_option linter.all false
set_option maxRecDepth 100000
set_option maxHeartbeats 4000000
/-! names in a chain, pairs unpacked, instances called, a class in a variable called. -/
namespace DL
open PySem L2 PyProof.Rows StX ClX
/-! ### x = y = e -/
def sSet2 (i j : Nat) (m : EM) : SM := fun env G => ofE (m env G) env fun e G1 => .nx ((env.set i (.ev e)).set j (.ev e)) G1
/-- (x, y, ..) = e: one slot after another -/
def setAll : List Nat → List D → En → Option En
  | [], [], env => some env
  | i :: is, x :: xs, env => setAll is xs (env.set i (.ev (.d x)))
  | _, _, _ => none
def sUnp (is : List Nat) (m : EM) : SM := fun env G => ofE (m env G) env fun e G1 => match e with
  | .d (.tup xs) => (match setAll is xs env with
    | some env' => .nx env' G1
    | none => .st)
  | _ => .st
section
variable {X : Cx} {c : RC} {W : WX} {e t1 t2 : Expr} {es : List Expr} {me : EM} {pos : Pos}
theorem ds_set2 {i j : Nat} (he : DE X c W e me) (h1 : PG X t1 (gName i)) (h2 : PG X t2 (gName j)) (ha : (assignEach [t1, t2] X.env).map (·.2) = [assign t1 X.env, assign t2 X.env] := by rfl) (hw : swappedStores [t1, t2] e X.env = pure none := by rfl) :
    DS X c W (.Assign [t1, t2] e pos) (sSet2 i j me) := by
  refine ps_imp (ps_asg2 he h1 h2 ha hw) fun Dn σ H q => ?_
  obtain ⟨M, ρ, G, env, R, q⟩ := q
  refine ⟨M, ρ, G, env, R, (SQ.ofE (R := RE c) R q).imp fun v H1 ⟨ρ1, G1, e1, g1, R1, r1, q1⟩ => ?_⟩
  exact q1 M ρ1 _ H1 Gr.refl ((R1.set r1).set r1)
end
/-! ### instances called -/
def eCallO (ms : List (String × (Ar × FM))) (mo : EM) (r : AM) : EM := eMeth ms mo r
section
variable {X : Cx} {c : RC} {W : WX} {e fe : Expr} {es : List Expr} {me mf : EM} {mr : AM} {pos p : Pos} {lv : Nat} {ms : List (String × (Ar × FM))}
/-- cls(..), the class in slot i -/
def eMakeV (i : Nat) (cl : String) (A : Ar) (g : IM) (r : AM) : EM := fun env G => match env[i]? with
  | some (.ev (.d (.cls k))) => if k = cl then eMake cl A g r env G else .st
  | _ => .st
theorem de_makeV {i k : Nat} {x : Str} {cl : String} {A : Ar} {g : IM} {f : Addr} (Mc : Mk X.K (c.C cl) f) (F : FnI X.prog X.w X.K X.mg X.base c.C c.N k f cl A g) (hK : c.K = X.K) (hr : Room (k + 1) X.A) (tk : L2N.Takes X W) (hv : PE X (.Name x p) (tVar i)) (ha : DA X c W (e :: es) mr)
    (ht : eval (.Call (.Name x p) (e :: es) [] pos) X.env = (do callWith pos (← eval (.Name x p) X.env) [] (backTo pos (starEach (e :: es) X.env)) (backToKw pos (keywordEach [] X.env))) := by rfl)
    (he : starEach (e :: es) X.env = (false, eval e X.env) :: starEach es X.env := by rfl) (hpl : (backTo pos (starEach es X.env)).any (·.1) = false := by rfl) :
    DE X c W (.Call (.Name x p) (e :: es) [] pos) (eMakeV i cl A g mr) := by
  refine ⟨fun pins s σ H Q I h => ?_⟩
  obtain ⟨M, ρ, G, env, R, q⟩ := h
  unfold eMakeV at q
  obtain ⟨oa, h1, _⟩ := R.e
  split at q
  · rename_i k' hk
    split at q
    · rename_i hcl
      subst hcl
      obtain ⟨v, hs, r⟩ := h1 i _ hk
      obtain rfl := Rep.of_cls r
      have t0 : tVar i σ H fun y H1 => y = .ref (c.C k') ∧ tD c W (eMake k' A g mr) σ H1 Q := ⟨_, hs, rfl, M, ρ, G, env, R, q⟩
      refine Call_ (thn (hv.run pins s σ H _ I t0) fun u s1 ⟨y, H1, I1, ry, ey, q1⟩ => ?_) ht
      subst ey
      obtain rfl : u = Value.ref (c.C k') := ry
      refine PySem.W.callWith_K (h₀ := X.base) I.ok.mod.kin Mc.kp (thn (PA.run ha pos pins s1 σ H1 _ I1 (tda_make q1)) fun us s2 ⟨vs, H2, I2, r2, q2⟩ => ⟨I2.kIn, ?_⟩) he hpl
      rw [hK] at q2
      exact run_makeA Mc F hr (L2N.passAt tk σ) I2 r2 q2
    · exact q.elim
  · exact q.elim
end
end DL
set_option Elab.async false
set_option linter.all false
set_option maxRecDepth 100000
set_option maxHeartbeats 4000000
/-! keywords; super().__init__(..) of a plain class. -/
namespace DL
open PySem L2 PyProof.Rows StX ClX NdefX
/-- n written values, then k keywords' values -/
def aApp (n k : Nat) (a b : AM) : AM := fun env G => (a env G).bind fun xs G1 => (b env G1).bind fun ys G2 => if xs.length = n ∧ ys.length = k then .ok (xs ++ ys) G2 else .st
def DK (X : Cx) (c : RC) (W : WX) (kws : List Keyword) (m : AM) : Prop := PK X kws (tDA c W m)
theorem pk_imp {X : Cx} {kws : List Keyword} {t t' : TA} (h : PK X kws t) (k : ∀ σ H Q, t' σ H Q → t σ H Q) : PK X kws t' := ⟨fun pos pins s σ H Q I q => h.run pos pins s σ H Q I (k σ H Q q)⟩
section
variable {X : Cx} {c : RC} {W : WX} {e : Expr} {es : List Expr} {kws : List Keyword} {me : EM} {mr mk : AM} {pos p kpos : Pos} {nm : Option Str} {M : Addr → Prop} {ρ : List Addr} {σ : L2.St} {H : Hp}
theorem dk_nil : DK X c W [] aNil := pk_imp pk_nil fun σ H Q ⟨M, ρ, G, env, R, q⟩ => q.ok R.s .nil
theorem dk_cons (he : DE X c W e me) (hr : DK X c W kws mr) : DK X c W (⟨nm, e, kpos⟩ :: kws) (aCons me mr) := by
  refine pk_imp (pk_cons he hr) fun σ H Q q => ?_
  obtain ⟨M, ρ, G, env, R, q⟩ := q
  refine ⟨M, ρ, G, env, R, (TQ.bind (R := RE c) q).imp fun v H1 ⟨ρ1, G1, e1, g1, s1, r1, q1⟩ => ?_⟩
  refine ⟨M, ρ1, G1, env, R.ge g1 s1, (TQ.bind (R := RA c) q1).imp fun u H2 ⟨ρ2, G2, e2, g2, s2, r2, q2⟩ => ?_⟩
  exact q2.ok s2 (.cons (r1.grow g2.gr) r2)
theorem app_split2 {n k : Nat} {Q' : List V → Hp → Prop} {env : En} {G : GS} (R : Rl c M ρ G env σ H) (q : TQ (RA c) c W M ρ σ H (aApp n k mr mk env G) Q') :
    tDA c W mr σ H fun vs H1 => tDA c W mk σ H1 fun zs H2 => vs.length = n ∧ zs.length = k ∧ Q' (vs ++ zs) H2 := by
  unfold aApp at q
  refine ⟨M, ρ, G, env, R, (TQ.bind (R := RA c) q).imp fun vs H1 ⟨ρ1, G1, e1, g1, s1, r1, q1⟩ => ?_⟩
  refine ⟨M, ρ1, G1, env, R.ge g1 s1, (TQ.bind (R := RA c) q1).imp fun zs H2 ⟨ρ2, G2, e2, g2, s2, r2, q2⟩ => ?_⟩
  split at q2
  · rename_i hl
    exact ⟨by rw [← r1.length]; exact hl.1, by rw [← r2.length]; exact hl.2, q2.ok s2 (All2.append (repEs_grow r1 g2.gr) r2)⟩
  · exact q2.elim
end
/-! ### super().m(.., k = v) -/
section
open PySem.W
variable {CX : CXT} {P : Program} {w : World} {K : PySem.W.Frag} {mg : Str → Option Value} {base : Heap} {N : List Str} {G : NF} {f f2 cc D C a : Addr} {A : Around} {outer : List Env} {s0 s : Shared} {H0 H : Hp} {E : XK} {sf : Str} {pins : List (Addr × Obj)} {σ : L2.St}
theorem sup_meth {body : List Stmt} {p0 p1 ap pos : Pos} {m : Str} {args : List Expr} {kws : List Keyword} {Q : Value → Shared → Prop} {EE : Value → Shared → Prop} {dx : Addr} {gs : List (Str × V)} (S : SX.SupF P K G f cc D sf) (I : Inv (ncx CX P w K mg base N G f A outer s0 H0 E) pins σ H s)
    (h0 : N[0]? = some sf) (hs : σ[0]? = some (some (.ref a))) (ea : H a = some (.ins C dx gs)) (hcl : ∃ cd, clsIn K C = some cd) (hsub : mroIn K C (.ref D) = some true) (hst : nsIn K cStatics "thirdparty.any" = some none) (hsi : ks_superIn K C D m = some (some (.ref f2))) (ht2 : typeIn K (.ref f2) = some (.type "function")) (hm : mg "super" = none)
    (hat : (m == ("__class__" : Str)) = false) {pl : Sem Bool}
    (hev : eval (.Call (.Attribute (.Call (.Name "super" p0) [] [] p1) m ap) args kws pos) (envF G f s0.heap.objs.size) = (do
      let ov ← attributeBase (.Call (.Name "super" p0) [] [] p1) m (envF G f s0.heap.objs.size) (eval (.Call (.Name "super" p0) [] [] p1) (envF G f s0.heap.objs.size))
      standAt ap.atName
      let (f', first) ← holding [ov] (getMethod ov m pl)
      callWith pos f' first (backTo pos (starEach args (envF G f s0.heap.objs.size))) (backToKw pos (keywordEach kws (envF G f s0.heap.objs.size)))))
    (k : ∀ so q s', Inv (ncx CX P w K mg base N G f A outer s0 H0 E) ((q, methodObj (.ref f2) (.ref a)) :: (so, ks_superObj D a C) :: pins) σ H s' → PySem.wpAny (model P w) (A.deeper (envF G f s0.heap.objs.size)) (callWith pos (.ref q) [] (backTo pos (starEach args (envF G f s0.heap.objs.size))) (backToKw pos (keywordEach kws (envF G f s0.heap.objs.size)))) Q EE s') :
    _root_.PySem.wpAt (model P w) (A.deeper (envF G f s0.heap.objs.size)) (.func body (envF G f s0.heap.objs.size)) (eval (.Call (.Attribute (.Call (.Name "super" p0) [] [] p1) m ap) args kws pos) (envF G f s0.heap.objs.size)) Q EE s := by
  obtain ⟨mA, O, _⟩ := ins_get I.hok ea
  obtain ⟨od, J, _⟩ := O.look
  rw [hev]
  refine _root_.PySem.wpAt_bind (_root_.PySem.wpAt_mono (Q := fun ov s1 => PySem.wpAny (model P w) (A.deeper (envF G f s0.heap.objs.size)) (getMethod ov m pl) (fun fx s2 => PySem.wpAny (model P w) (A.deeper (envF G f s0.heap.objs.size)) (callWith pos fx.1 fx.2 (backTo pos (starEach args (envF G f s0.heap.objs.size))) (backToKw pos (keywordEach kws (envF G f s0.heap.objs.size)))) Q EE s2) EE s1)
    (SX.sup_base S I h0 hs J.at_ J.cls (fun z y => nomatch y) hsub hat hm fun so s1 I1 => ?_) (fun ov s1 h1 => _root_.PySem.wpAt_of_wpAny (wpAny_bind (wpAny_standAt (wpAny_bind (wpAny_holding (wpAny_mono h1 (fun fx s2 h2 => ?_) fun _ _ z => z)))))) fun _ _ z => z)
  · have kin : K.In s1.heap := I1.kIn
    obtain ⟨mA2, O2, _⟩ := ins_get I1.hok ea
    obtain ⟨od2, J2, _⟩ := O2.look
    obtain ⟨cd, hcd⟩ := hcl
    have hne : a ≠ C := ks_ne kin J2 hcd
    have hso : s1.heap.get? so = some (ks_superObj D a C) := ClX.pin_at I1
    unfold ks_superIn at hsi
    rw [hcd] at hsi
    obtain ⟨of, hof, hofc⟩ : ∃ of, s1.heap.get? f2 = some of ∧ of.cls = .type "function" := by
      have ht' : (K.lookup f2).map (·.cls) = some (.type "function") := ht2
      cases z : K.lookup f2 with
      | none => rw [z] at ht'; cases ht'
      | some of => rw [z] at ht'; exact ⟨of, kin _ _ z, Option.some.inj ht'⟩
    obtain ⟨hh, gg, dd, tk, os⟩ := s1
    refine ks_wpAny_getMethod_super hso (looks_opaque kin hst) (l₀ := cd.mro) ?_ rfl kin hsi hof hofc hne hat ?_
    · exact fun A Q E s k q => wpAny_bind ((looks_clsIn kin hcd) A _ E s k (wpAny_pure q))
    · exact k so hh.objs.size _ (ClX.pin_new (s := ⟨hh, gg, dd, tk, os⟩) I1 (fun _ _ z => Heap.get?_push_of_some _ z) (Nat.le_refl _) (Heap.get?_push_size hh rfl) (fun v z => nomatch z))
  · exact h2
end
/-! ### super().__init__(.., k = v) -/
/-- the arguments, then the __init__ above -/
def runS (n : Nat) (cl : String) (mr : AM) (A : Ar) (g : IM) : IM := fun es G => match mr (envI n cl es) G with
  | .ok xs G1 => if A xs.length = true then g xs G1 else .st
  | .er c fs G1 => .er c fs G1
  | .st => .st
section
variable {P : Program} {w : World} {K : PySem.W.Frag} {mg : Str → Option Value} {base : Heap} {Cf : String → Addr} {Nf : String → List Str} {N ps ks : List Str} {F : NF} {f f2 cc D : Addr} {k k2 n : Nat} {sf : Str} {cl : String} {dV kV doc pm ctv oc : Value} {od an : Option Addr} {osl : Array (Option Value)}
theorem fn_supI {p0 p1 ap pos pos2 : Pos} {e : Expr} {es : List Expr} {kws : List Keyword} {mr mk : AM} {A2 : Ar} {g2 : IM} {fd2 : FuncData} {ps2 : List Str} (S : SX.SupF P K F f cc D sf) (lk : K.lookup f = some ⟨oc, od, .func (PySem.W.fnX F.name F.qual F.params F.body F.scope F.cl dV kV doc pm an (.ref F.c) ctv), osl⟩) (hcd : PySem.W.codeIn K (.ref F.c) F.qual = true)
    (Sc : NScope N (sf :: ps) [("__class__" : Str)] F.scope) (hst : PySem.W.nsIn K cStatics "thirdparty.any" = some none) (hsi : PySem.W.ks_superIn K (Cf cl) D "__init__" = some (some (.ref f2))) (hsub : PySem.W.mroIn K (Cf cl) (.ref D) = some true) (hm : mg "super" = none) (ht2 : PySem.W.typeIn K (.ref f2) = some (.type "function")) (hf2 : PySem.W.fnIn K f2 = true)
    (hcls : ∃ cd, PySem.W.clsIn K (Cf cl) = some cd) (F2 : FnOk P w K mg base (L2N.CX P w) k2 f2 fd2 ps2 (SpI K Cf Nf cl A2 g2)) (hb2 : KBn K fd2 ps2 (n + 1) ks (· ++ ·) (· ++ ·)) (hk : k2 ≤ k)
    (hbody : F.body = [.Expr (.Call (.Attribute (.Call (.Name "super" p0) [] [] p1) "__init__" ap) (e :: es) kws pos) pos2])
    (he : ∀ (A : Around) (outer : List Env) (s : Shared) (H : Hp) (E : XK) (B : Addr → Prop) (x : Addr), Room k (A.deeper (envF F f s.heap.objs.size)) → DA (ncx (L2N.CX P w) P w K mg base N F f A outer s H E) ⟨K, Cf, Nf, B, x, 0⟩ (fun cls d _ H => E cls d H) (e :: es) mr ∧ DK (ncx (L2N.CX P w) P w K mg base N F f A outer s H E) ⟨K, Cf, Nf, B, x, 0⟩ (fun cls d _ H => E cls d H) kws mk)
    (hall : ∀ env, (backToKw pos (keywordEach kws env)).all (·.1.isSome) = true := by intro _; rfl) (hks : ∀ env, (backToKw pos (keywordEach kws env)).filterMap (·.1) = ks := by intro _; rfl)
    (hstar : ∀ env, starEach (e :: es) env = (false, eval e env) :: starEach es env := by intro _; rfl) (hpl : ∀ env, ((backTo pos (starEach (e :: es) env)).any (·.1) || (backToKw pos (keywordEach kws env)).any (·.1.isNone)) = false := by intro _; rfl) {pl : Env → Sem Bool}
    (hev : ∀ env, eval (.Call (.Attribute (.Call (.Name "super" p0) [] [] p1) "__init__" ap) (e :: es) kws pos) env = (do
      let ov ← attributeBase (.Call (.Name "super" p0) [] [] p1) "__init__" env (eval (.Call (.Name "super" p0) [] [] p1) env)
      standAt ap.atName
      let (f', first) ← holding [ov] (getMethod ov "__init__" (pl env))
      callWith pos f' first (backTo pos (starEach (e :: es) env)) (backToKw pos (keywordEach kws env))) := by intro _; rfl)
    (hsw : ∀ env, swapsWith (.Call (.Attribute (.Call (.Name "super" p0) [] [] p1) "__init__" ap) (e :: es) kws pos) none pos2.line env = pure false := by intro _; rfl) :
    FnOk P w K mg base (L2N.CX P w) (k + 1) f (PySem.W.fnX F.name F.qual F.params F.body F.scope F.cl dV kV doc pm an (.ref F.c) ctv) (sf :: ps) (SpI K Cf Nf cl (arN ps.length) (runS N.length cl (aApp n ks.length mr mk) A2 g2)) := by
  have hpre : N.take (ps.length + 2) = sf :: ps ++ [("__class__" : Str)] := Sc.pre
  have hlen : ps.length + 2 ≤ N.length := by have := congrArg List.length hpre; rw [List.length_take] at this; simp at this; omega
  have g0 : N[0]? = some sf := by rw [← List.getElem?_take_of_lt (j := ps.length + 2) (by omega), hpre]; rfl
  refine SX.fn_sup S lk hcd Sc (fun vs H Q E ⟨x, rest, h, hl, _⟩ => by rw [h]; simpa [arN] using hl) fun A outer s H vs Q E hr hsp s1 I => ?_
  obtain ⟨x, rest, rfl, hl, B, ρ, G, es0, dx, s0, r, hx, hB, q⟩ := hsp
  have hl' : rest.length = ps.length := by simpa [arN] using hl
  have hstart : startF N (V.ref x :: rest) [none] = L2.start N (V.ref x :: rest) := by
    unfold startF L2.start
    congr 1
    have : N.length - (V.ref x :: rest).length = (N.length - (V.ref x :: rest).length - 1) + 1 := by simp; omega
    rw [this, List.replicate_succ]
    rfl
  rw [hstart] at I
  have R := rl_init (c := ⟨K, Cf, Nf, B, x, 0⟩) (Nm := N) s0 r hx (by rw [hl']; omega)
  have hs0 : (L2.start N (V.ref x :: rest))[0]? = some (some (.ref x)) := rfl
  rw [hbody]
  refine ks_wpAt_execs_cons (ks_wpAt_Expr_any (sup_meth S I g0 hs0 hx hcls hsub hst hsi ht2 hm (by decide) (hev _) fun so qa s2 I2 => ?_) (by unfold interactive; simp [Sc.kind]) (hsw _))
  obtain ⟨ha, hkw⟩ := he A outer s H E B x hr
  have xρ : x ∉ ρ := fun z => (s0.sep x z).2 rfl
  have t0 : TQ (RA (⟨K, Cf, Nf, B, x, 0⟩ : RC)) (⟨K, Cf, Nf, B, x, 0⟩ : RC) (fun cls d _ H => E cls d H) (· = x) ρ (L2.start N (V.ref x :: rest)) H (aApp n ks.length mr mk (envI N.length cl es0) G) (fun vs H2 => ∃ ρ2 G2 es2, Ge (· = x) ρ H ρ2 H2 ∧ SR (⟨K, Cf, Nf, B, x, 0⟩ : RC) (· = x) ρ2 G2 H2 ∧ All2 (RepE (⟨K, Cf, Nf, B, x, 0⟩ : RC) (· = x) ρ2 H2) es2 vs ∧
      (match (if A2 es2.length = true then g2 es2 G2 else .st) with
      | .ok fs G' => ∀ dy gs ρ' H', Gr (· = x) ρ H nM ρ' H' → SR (⟨K, Cf, Nf, B, x, 0⟩ : RC) nM ρ' G' H' → H' x = some (.ins (Cf cl) dy gs) → Flds (⟨K, Cf, Nf, B, x, 0⟩ : RC) nM ρ' H' cl fs gs → Q .non H'
      | .er c2 fs G' => ∀ dd gs ρ' H', Gr (· = x) ρ H nM ρ' H' → SR (⟨K, Cf, Nf, B, x, 0⟩ : RC) nM ρ' G' H' → XA H' dd gs → Flds (⟨K, Cf, Nf, B, x, 0⟩ : RC) nM ρ' H' c2 fs gs → E (.ref (Cf c2)) dd H'
      | .st => False)) := by
    unfold runS at q
    cases hm1 : aApp n ks.length mr mk (envI N.length cl es0) G with
    | st => rw [hm1] at q; exact q.elim
    | er c2 fs G1 =>
      rw [hm1] at q
      exact fun dd gs ρ' H' g s e' f => q dd gs ρ' H' g.gr.nm s.drop e' (flds_cv cv_drop f)
    | ok xs G1 =>
      rw [hm1] at q
      exact fun v ρ' H' g s rv => ⟨ρ', G1, xs, g, s, rv, q⟩
  have t1 := app_split2 (W := fun cls d _ H => E cls d H) (σ := L2.start N (V.ref x :: rest)) R t0
  refine PySem.W.callWith_of (P := PySem.W.MethP K qa f2 (.ref x)) (hpl _) (PySem.W.keeps_M hf2) (PyProof.Rows.evalArgs_kw2 (hall _) (thn (PA.run ha pos _ s2 _ H _ I2 t1) fun us s3 ⟨vs, H1, I3, r1, q1⟩ => thn (PK.run hkw pos _ s3 _ H1 _ I3 q1) fun ws s4 ⟨zs, H2, I4, rz, l1, l2, ρ2, G2, es2, ge, s2', r2, q2⟩ => ⟨⟨ClX.pin_at I4, I4.kIn⟩, ?_⟩) (hstar _))
  rw [hks (envF F f s.heap.objs.size)]
  have hA2 : A2 es2.length = true := by
    cases hA : A2 es2.length with
    | true => rfl
    | false => rw [hA] at q2; exact q2.elim
  rw [if_pos hA2] at q2
  have n1 : (Value.ref x :: us).length = n + 1 := by rw [List.length_cons, ← r1.length, l1]
  have n2 : ws.length = ks.length := rz.length.symm.trans l2
  have rv : Vals (V.ref x :: vs) (Value.ref x :: us) := .cons rfl r1
  have hx2 : H2 x = some (.ins (Cf cl) dx []) := ge.keep _ _ hx xρ
  have g0' : Gr (· = x) ρ H (· = x) ρ2 H2 := ge.gr
  have sp : SpI K Cf Nf cl A2 g2 (V.ref x :: vs ++ zs) H2 (fun v H3 => v = .non ∧ Q .non H3) E := by
    refine ⟨x, vs ++ zs, rfl, by rw [← r2.length]; exact hA2, B, ρ2, G2, es2, dx, s2', r2, hx2, hB, ?_⟩
    cases hg : g2 es2 G2 with
    | ok fs G' => rw [hg] at q2; exact fun dy gs ρ' H' g s h1 h2 => ⟨rfl, q2 dy gs ρ' H' (g0'.trans g) s h1 h2⟩
    | er c2 fs G' => rw [hg] at q2; exact fun dd gs ρ' H' g s h1 h2 => q2 dd gs ρ' H' (g0'.trans g) s h1 h2
    | st => rw [hg] at q2; exact q2
  have tk : L2N.Takes (ncx (L2N.CX P w) P w K mg base N F f A outer s H E) (fun cls d _ H => E cls d H) := takesF rfl rfl rfl rfl
  have room : Room k2 (ncx (L2N.CX P w) P w K mg base N F f A outer s H E).A := hr.mono hk
  refine wpAny_call (PySem.W.method_call (ClX.pin_at I4) (codeAny_mono (F2.run _ (ncx (L2N.CX P w) P w K mg base N F f A outer s H E).stack s4 H2 ⟨Value.ref x :: us, ks.zip ws⟩ _ _ _ E room I4.env0 (hb2.to s4 (Value.ref x :: us) ws I4.kIn n1 n2) (hb2.rel rv rz) sp) fun res s5 y => ?_))
  match res, y with
  | .error er, y => exact L2N.passAt tk (L2.start N (V.ref x :: rest)) _ _ _ er s5 I4 y
  | .ok .next, y => exact y.elim
  | .ok .brk, y => exact y.elim
  | .ok .cont, y => exact y.elim
  | .ok (.ret u), y =>
    obtain ⟨v, H3, I5, rv', hv, q3⟩ := I4.after y
    subst hv
    exact _root_.PySem.wpAt_of_wpAny (wpAny_execs_nil ⟨_, H3, ClX.unpin (ClX.unpin I5), q3⟩)
end
end DL
set_option Elab.async false
set_option linter.all false
set_option maxRecDepth 100000
set_option maxHeartbeats 4000000
/-! own truth in a test; texts in a tuple of texts. -/
namespace DL
open PySem PySem.Calls PySem.Spec L2 PyProof.Rows StX ClX
def truO (cl : String) (A : Ar) (g : FM) : EV → GS → Option (Bool × GS) := fun e G => match e with
  | .d (.ins k fs) => if k = cl ∧ A 1 = true then (match g [.d (.ins k fs)] G with
    | .ok (.d (.bl b)) G' => some (b, G')
    | _ => none) else none
  | _ => none
section
variable {X : Cx} {c : RC} {W : WX} {e : Expr} {me : EM} {cl : String} {A : Ar} {g : FM} {f : Addr} {lv : Nat} {M : Addr → Prop} {ρ : List Addr} {σ : L2.St} {H : Hp}
theorem db_truO (hK : c.K = X.K) (hr : Room lv X.A) (tk : L2N.Takes X W) (hs : PySem.W.findIn X.K (.ref (c.C cl)) "__bool__" = some (some (.ref f))) (hf : PySem.W.isFn X.K (.ref f) = true) (F : FnG X.prog X.w X.K X.mg X.base c.C c.N lv f A g) (he : DE X c W e me)
    (hp : ∀ whole, isTrue e X.env whole = (do let v ← whole; standAt e.pos; holding [v] (truthy v)) := by intro _; rfl) : DB X c W e (bOf (truO cl A g) me) := by
  refine ⟨fun pins s σ H Q I q => ?_⟩
  obtain ⟨M, ρ, G, env, R, q⟩ := q
  have h' : tD c W me σ H fun x H1 => ∃ fs ρ1 G1, SR c M ρ1 G1 H1 ∧ RepE c M ρ1 H1 (.d (.ins cl fs)) x ∧ A 1 = true ∧ TQ (RE c) c W M ρ1 σ H1 (match g [.d (.ins cl fs)] G1 with | .ok (.d (.bl b)) G' => .ok (.d (.bl b)) G' | _ => .st) (fun v H2 => ∃ b, v = .bl b ∧ Q b H2) := by
    refine ⟨M, ρ, G, env, R, (TQ.bind (R := RE c) q).imp fun v H1 ⟨ρ1, G1, e1, g1, s1, r1, q1⟩ => ?_⟩
    unfold truO at q1
    split at q1
    · rename_i k fs
      split at q1
      · rename_i hk
        obtain ⟨rfl, hA⟩ := hk
        refine ⟨fs, ρ1, G1, s1, r1, hA, ?_⟩
        split at q1
        · rename_i b G' hg
          exact fun v ρ' H' g s r => ⟨b, Rep.of_bl r, q1 b ρ' H' g s rfl⟩
        · exact q1.elim
      · exact q1.elim
    · exact q1.elim
  refine isTrue_plain (thn (PE.run he pins s σ H _ I h') fun u s1 ⟨x, H1, I1, rx, fs, ρ1, G1, s1', r1, hA, q1⟩ => ?_) (hp _)
  obtain ⟨a, dx, gs, rfl, z, ea, fl⟩ := Rep.of_ins r1
  obtain rfl : u = Value.ref a := rx
  obtain ⟨ox, od, J⟩ := inst_at I1 ea
  obtain ⟨m, hF⟩ := I1.fr
  have q2 : TQ (RE c) c W M ρ1 σ H1 (if A [EV.d (.ins cl fs)].length = true then g [.d (.ins cl fs)] G1 else .st) (fun v H2 => ∃ b, v = .bl b ∧ Q b H2) := by
    rw [if_pos (show A [EV.d (.ins cl fs)].length = true from hA)]
    split at q1
    · rename_i b G' hg
      first
      | (rw [hg]; exact q1)
      | exact q1
    · exact q1.elim
  have sp := spd_of (es1 := [.d (.ins cl fs)]) s1' (.cons r1 .nil) q2
  rw [hK] at sp
  refine PySem.W.truthy_K hF I1.ok.mod.kin J hs hf (wpAny_mono (wpAny_call (run_fnA (us := [.ref a]) (vs := [.ref a]) F hr (L2N.passAt tk σ) I1 (.cons rfl .nil) sp)) (fun w s' hw => ?_) fun _ _ x => x)
  obtain ⟨z', H', I', rz, b, e, qz⟩ := hw
  subst e
  cases rz
  exact ⟨H', I', qz⟩
end
def texts : List DL.D → Option (List Str)
  | [] => some []
  | .str x :: r => (texts r).map (x :: ·)
  | _ => none
section
variable {X : Cx} {c : RC} {M : Addr → Prop} {ρ : List Addr} {H : Hp}
theorem texts_of : ∀ {xs : List DL.D} {zs : List Str} {vs : List V}, texts xs = some zs → All2 (Rep c M ρ H) xs vs → vs = zs.map V.str
  | [], _, _, h, .nil => by cases h; rfl
  | .str x :: r, zs, _, h, .cons r1 t => by
    unfold texts at h
    cases hr : texts r with
    | none => rw [hr] at h; cases h
    | some ys =>
      rw [hr] at h
      cases h
      rw [r1.of_str, texts_of hr t]
      rfl
  | .non :: _, _, _, h, _ => by cases h
  | .bl _ :: _, _, _, h, _ => by cases h
  | .int _ :: _, _, _, h, _ => by cases h
  | .tup _ :: _, _, _, h, _ => by cases h
  | .lst _ :: _, _, _, h, _ => by cases h
  | .ins _ _ :: _, _, _, h, _ => by cases h
  | .cls _ :: _, _, _, h, _ => by cases h
  | .ty _ :: _, _, _, h, _ => by cases h
theorem any_str {x : Str} : ∀ zs : List Str, inV (.str x) (zs.map V.str) = zs.any (· == x)
  | [] => rfl
  | z :: zs => by
    have h := any_str (x := x) zs
    unfold inV at h ⊢
    rw [List.map_cons, List.any_cons, List.any_cons, h]
    rfl
theorem flat_str : ∀ zs : List Str, (zs.map V.str).all flatV = true
  | [] => rfl
  | z :: zs => by rw [List.map_cons, List.all_cons, flat_str zs]; rfl
def gInS (neg : Bool) : DL.D → DL.D → Option DL.D
  | .str x, .lst xs => (texts xs).map fun zs => .bl (zs.any (· == x) != neg)
  | .str x, .tup xs => (texts xs).map fun zs => .bl (zs.any (· == x) != neg)
  | _, _ => none
theorem ins_core {neg : Bool} {a b z : DL.D} {x y : V} {G : GS} {Q : VK} (hK : c.K = X.K) (s : SR c M ρ G H) (ra : Rep c M ρ H a x) (rb : Rep c M ρ H b y) (hz : gInS neg a b = some z) (q : ∀ (v : V) (H' : Hp), Same H H' → Rep c M ρ H' z v → Q v H') : rIn X.K neg x y H Q := by
  unfold gInS at hz
  split at hz
  · rename_i t xs
    cases hi : texts xs with
    | none => rw [hi] at hz; cases hz
    | some zs =>
      rw [hi] at hz
      cases hz
      obtain ⟨p, vs, rfl, z, rr⟩ := Rep.of_lst rb
      have ev := texts_of hi rr
      subst ev
      refine ⟨p, _, rfl, .inl (by rw [← hK]; exact z.sq), by rw [ra.of_str]; rfl, flat_str _, ?_⟩
      rw [ra.of_str, any_str]
      cases neg with
      | true => rw [if_pos rfl, show (!zs.any (· == t)) = (zs.any (· == t) != true) by cases zs.any (· == t) <;> rfl]; exact q _ _ same_refl .bl
      | false => rw [if_neg Bool.false_ne_true]; rw [show zs.any (· == t) = (zs.any (· == t) != false) by cases zs.any (· == t) <;> rfl]; exact q _ _ same_refl .bl
  · rename_i t xs
    cases hi : texts xs with
    | none => rw [hi] at hz; cases hz
    | some zs =>
      rw [hi] at hz
      cases hz
      obtain ⟨p, vs, rfl, z, rr⟩ := Rep.of_tup rb
      have ev := texts_of hi rr
      subst ev
      refine ⟨p, _, rfl, .inr (by rw [← hK]; exact z.sq), by rw [ra.of_str]; rfl, flat_str _, ?_⟩
      rw [ra.of_str, any_str]
      cases neg with
      | true => rw [if_pos rfl, show (!zs.any (· == t)) = (zs.any (· == t) != true) by cases zs.any (· == t) <;> rfl]; exact q _ _ same_refl .bl
      | false => rw [if_neg Bool.false_ne_true]; rw [show zs.any (· == t) = (zs.any (· == t) != false) by cases zs.any (· == t) <;> rfl]; exact q _ _ same_refl .bl
  · cases hz
def fNotInS : F2 := pure2 (gInS true)
theorem dop_notinS (hK : c.K = X.K) : OpR X (compareOp .NotIn) (V2 c fNotInS) := opr_imp op_notIn_seq fun x y H Q q0 => by
  obtain ⟨M, ρ, G, a, b, z, s, ra, rb, hz, q⟩ := v2_pure q0
  exact ins_core hK s ra rb hz q
end
end DL
set_option Elab.async false
set_option linter.all false
set_option maxRecDepth 100000
set_option maxHeartbeats 4000000
/-! what a printed text says of defs with keyword-only parameters, of an __init__ that says super(). -/
namespace DL
open PySem L2 PyProof.Rows StX ClX NdefX
section
variable {P : Program} {w : World} {K : PySem.W.Frag} {mg : Str → Option Value} {base : Heap} {C : String → Addr} {N : String → List Str}
/-- an __init__, every parameter bound -/
theorem fnoi_of {x qual s1 : Str} {st : Stmt} {f : Addr} {fd : FuncData} {Nm ps : List Str} {k : Nat} {cl : String} {m : SM} (F : Fun K x qual st f fd) (S : FnScope Nm (s1 :: ps) (defScope st))
    (hb : ∀ (cdv : Value) (A : Around) (outer : List Env) (s : Shared) (H : Hp) (E : XK) (B : Addr → Prop) (x : Addr), Room k (A.deeper (envOfC qual (defScope st) s.heap.objs.size f cdv)) →
      DSs (cxOf (L2N.CX P w) P w K mg base Nm qual (defScope st) f cdv A outer s H E) ⟨K, C, N, B, x, 0⟩ (fun cls d _ H => E cls d H) (defBody st) m) : FnOk P w K mg base (L2N.CX P w) (k + 1) f fd (s1 :: ps) (SpI K C N cl (arN ps.length) (runI Nm.length cl m)) := by
  have hlN : (s1 :: ps).length ≤ Nm.length := by have := congrArg List.length S.pre; rw [List.length_take] at this; omega
  obtain ⟨oc, od, kV, doc, pm, an, cdv, ct, osl, rfl, lk, hcd⟩ := F.ex
  refine fn_of lk hcd S (fun vs H Q E ⟨x, rest, e, hl, _⟩ => by rw [e]; simpa [arN] using hl) fun A outer s H vs Q E hr hsp => ?_
  obtain ⟨x, rest, rfl, hl, B, ρ, G, es, dx, s0, r, hx, hB, q⟩ := hsp
  have hl' : rest.length = ps.length := by simpa [arN] using hl
  refine ⟨_, hb cdv A outer s H E B x hr, (· = x), ρ, G, envI Nm.length cl es, rl_init (c := ⟨K, C, N, B, x, 0⟩) (Nm := Nm) s0 r hx (by rw [hl']; exact hlN), ?_⟩
  refine sq_init (c := ⟨K, C, N, B, x, 0⟩) (k := cl) ?_
  unfold IQ
  unfold runI at q
  cases ho : retI cl (m (envI Nm.length cl es) G) with
  | ok fs G' => rw [ho] at q; exact q
  | er c2 fs G' => rw [ho] at q; exact q
  | st => rw [ho] at q; exact q
theorem _root_.L2.Fun.kbn {x qual : Str} {st : Stmt} {f : Addr} {fd : FuncData} {ps ks : List Str} {n : Nat} (F : Fun K x qual st f fd)
    (h : ∀ (kV doc pm : Value) (an : Option Addr) (cdv ct : Value) (us ws : List Value), us.length = n → ws.length = ks.length → bindArgs (PySem.W.fnOf x qual (defArgs st) (defBody st) (defScope st) .none kV doc pm an cdv ct) ⟨us, ks.zip ws⟩ = pure (ps.zip (us ++ ws))) : KBn K fd ps n ks (· ++ ·) (· ++ ·) := by
  obtain ⟨oc, od, kV, doc, pm, an, cdv, ct, osl, rfl, lk, hcd⟩ := F.ex
  exact ⟨fun s us ws _ l1 l2 => .of_eq (h kV doc pm an cdv ct us ws l1 l2), fun r1 r2 => r1.append r2⟩
/-- an __init__ of the class at D that says super().__init__ -/
structure SupI (P : Program) (K : PySem.W.Frag) (mg : Str → Option Value) (D f : Addr) (fd : FuncData) (st : Stmt) (qual sf : Str) (f2 : Addr) : Prop where
  ex : ∃ (cc c : Addr) (oc dV kV doc pm ctv : Value) (od an : Option Addr) (osl : Array (Option Value)), fd = PySem.W.fnX (nfo st "__init__" qual cc c).name (nfo st "__init__" qual cc c).qual (nfo st "__init__" qual cc c).params (nfo st "__init__" qual cc c).body (nfo st "__init__" qual cc c).scope (nfo st "__init__" qual cc c).cl dV kV doc pm an (.ref (nfo st "__init__" qual cc c).c) ctv ∧
    K.lookup f = some ⟨oc, od, .func fd, osl⟩ ∧ PySem.W.codeIn K (.ref c) qual = true ∧ SX.SupF P K (nfo st "__init__" qual cc c) f cc D sf
  hst : PySem.W.nsIn K cStatics "thirdparty.any" = some none
  hsi : PySem.W.ks_superIn K D D "__init__" = some (some (.ref f2))
  hsub : PySem.W.mroIn K D (.ref D) = some true
  hm : mg "super" = none
  ht2 : PySem.W.typeIn K (.ref f2) = some (.type "function")
  hf2 : PySem.W.fnIn K f2 = true
  hcls : PySem.W.isClsIn K D = true
theorem supi_ok {p0 p1 ap pos pos2 : Pos} {e : Expr} {es : List Expr} {kws : List Keyword} {mr mk : AM} {A2 : Ar} {g2 : IM} {fd fd2 : FuncData} {ps ps2 ks Nm : List Str} {f f2 : Addr} {st : Stmt} {qual sf : Str} {cl : String} {k k2 n m : Nat} (T : SupI P K mg (C cl) f fd st qual sf f2) (Sc : NScope Nm (sf :: ps) [("__class__" : Str)] (defScope st))
    (F2 : FnOk P w K mg base (L2N.CX P w) k2 f2 fd2 ps2 (SpI K C N cl A2 g2)) (hb2 : KBn K fd2 ps2 (n + 1) ks (· ++ ·) (· ++ ·)) (hk : k2 ≤ k) (hl : ks.length = m)
    (hbody : defBody st = [.Expr (.Call (.Attribute (.Call (.Name "super" p0) [] [] p1) "__init__" ap) (e :: es) kws pos) pos2])
    (he : ∀ (cc c : Addr) (A : Around) (outer : List Env) (s : Shared) (H : Hp) (E : XK) (B : Addr → Prop) (x : Addr), Room k (A.deeper (envF (nfo st "__init__" qual cc c) f s.heap.objs.size)) → DA (ncx (L2N.CX P w) P w K mg base Nm (nfo st "__init__" qual cc c) f A outer s H E) ⟨K, C, N, B, x, 0⟩ (fun cls d _ H => E cls d H) (e :: es) mr ∧ DK (ncx (L2N.CX P w) P w K mg base Nm (nfo st "__init__" qual cc c) f A outer s H E) ⟨K, C, N, B, x, 0⟩ (fun cls d _ H => E cls d H) kws mk)
    (hall : ∀ env, (backToKw pos (keywordEach kws env)).all (·.1.isSome) = true := by intro _; rfl) (hks : ∀ env, (backToKw pos (keywordEach kws env)).filterMap (·.1) = ks := by intro _; rfl)
    (hstar : ∀ env, starEach (e :: es) env = (false, eval e env) :: starEach es env := by intro _; rfl) (hpl : ∀ env, ((backTo pos (starEach (e :: es) env)).any (·.1) || (backToKw pos (keywordEach kws env)).any (·.1.isNone)) = false := by intro _; rfl) {pl : Env → Sem Bool}
    (hev : ∀ env, eval (.Call (.Attribute (.Call (.Name "super" p0) [] [] p1) "__init__" ap) (e :: es) kws pos) env = (do
      let ov ← attributeBase (.Call (.Name "super" p0) [] [] p1) "__init__" env (eval (.Call (.Name "super" p0) [] [] p1) env)
      standAt ap.atName
      let (f', first) ← holding [ov] (getMethod ov "__init__" (pl env))
      callWith pos f' first (backTo pos (starEach (e :: es) env)) (backToKw pos (keywordEach kws env))) := by intro _; rfl)
    (hsw : ∀ env, swapsWith (.Call (.Attribute (.Call (.Name "super" p0) [] [] p1) "__init__" ap) (e :: es) kws pos) none pos2.line env = pure false := by intro _; rfl) :
    FnOk P w K mg base (L2N.CX P w) (k + 1) f fd (sf :: ps) (SpI K C N cl (arN ps.length) (runS Nm.length cl (aApp n m mr mk) A2 g2)) := by
  subst hl
  obtain ⟨cc, c, oc, dV, kV, doc, pm, ctv, od, an, osl, rfl, lk, hcd, S⟩ := T.ex
  exact fn_supI S lk hcd Sc T.hst T.hsi T.hsub T.hm T.ht2 T.hf2 (Option.isSome_iff_exists.mp T.hcls) F2 hb2 hk hbody (he cc c) hall hks hstar hpl hev hsw
/-- a constant of a class that is a tuple of texts -/
structure TupC (K : PySem.W.Frag) (C : Addr) (nm : Str) (ts : List Str) : Prop where
  ex : ∃ a : Addr, ClX.CVal K C (.type "type") nm (.ref a) (.ref a) ∧ KT K a (ts.map V.str)
theorem rep_texts {c : RC} {M : Addr → Prop} {ρ : List Addr} {H : Hp} : ∀ ts : List Str, All2 (Rep c M ρ H) (ts.map DL.D.str) (ts.map V.str)
  | [] => .nil
  | t :: ts => .cons .str (rep_texts ts)
theorem de_ctup {X : Cx} {c : RC} {W : WX} {x fn : Str} {p' pos : Pos} {cl : String} {ts : List Str} (hK : c.K = X.K) (hg : Gl X x) (hm : X.mg x = some (.ref (c.C cl))) (r : CRead X.K (c.C cl) (.type "type")) (k : TupC X.K (c.C cl) fn ts) (hdb : (x == ("__debug__" : Str)) = false := by decide)
    (hb : attributeBase (.Name x p') fn X.env (eval (.Name x p') X.env) = eval (.Name x p') X.env := by rfl) : DE X c W (.Attribute (.Name x p') fn pos) (eC (.tup (ts.map .str))) := by
  obtain ⟨a, cv, kt⟩ := k.ex
  exact de_cval hg hm r cv (fun M ρ H => Rep.tup (.inr (by rw [hK]; exact kt)) (rep_texts ts)) hdb hb
end
end DL
set_option Elab.async false
set_option linter.all false
set_option maxRecDepth 100000
set_option maxHeartbeats 4000000
namespace DL
open PySem L2 PyProof.Rows StX ClX NdefX
end DL
set_option Elab.async false
set_option linter.all false
set_option maxRecDepth 100000
set_option maxHeartbeats 4000000
/-! tuples cut and joined; == of own classes that share their __eq__, with a plain value at the right -/
namespace DL
open PySem L2 PyProof.Rows StX ClX NdefX
section
variable {X : Cx} {c : RC} {W : WX} {e : Expr} {me : EM} {pos p2 : Pos} {M : Addr → Prop} {ρ : List Addr} {σ : L2.St} {H : Hp} {G : GS} {lv : Nat} {A : Ar} {g : FM} {f : Addr}
def eSlT (m : EM) (lo hi : OM) : EM := fun env G => (m env G).bind fun x G1 => (lo env G1).bind fun l G2 => (hi env G2).bind fun h G3 => match x with
  | .d (.tup xs) => .ok (.d (.tup (cutL xs l h))) G3
  | _ => .st
end
end DL
set_option Elab.async false
set_option linter.all false
set_option maxRecDepth 100000
set_option maxHeartbeats 4000000
/-! == of tuples that hold own instances -/
namespace DL
open PySem PySem.Calls PySem.Spec L2 PyProof.Rows StX ClX NdefX
/-- pair by pair, until two differ -/
def EqL (prog : Program) (w : World) (A : Around) (E : Value → Shared → Prop) : List (Value × Value) → (Bool → Shared → Prop) → Shared → Prop
  | [], Q, s => Q true s
  | (x, y) :: r, Q, s => wpAny (model prog w) A (eqBool x y) (fun k s' => if k = true then EqL prog w A E r Q s' else Q false s') E s
theorem tup_eq_in {prog : Program} {w : World} (l b : Addr) (its its2 : Array Value) : MeetsIn prog w (Builtin.«tuple.__eq__» ⟨[.ref l, .ref b], []⟩) (fun A R s => IsTup s.heap l its ∧ IsTup s.heap b its2 ∧
    EqL prog w A.in1 (fun e s' => R (.error e) s') (its.toList.zip its2.toList) (fun k s' => R (.ok (.ret (.bool (k && (its.size == its2.size))))) s') s) :=
  .of_wp fun A R s ⟨t1, t2, h⟩ => by
    unfold Builtin.«tuple.__eq__»
    refine wpAny_bind (wpAny_pure ?_)
    refine wpAny_bind (wpAny_isInstance (T := "tuple") (U := "tuple") (by obtain ⟨o, h1, h2, _⟩ := t2; exact ⟨o, h1, h2⟩) F.isi_sub_tuple ?_)
    rw [if_neg (show ¬ ((!true) = true) by decide)]
    refine wpAny_bind (tupleItemsOf_ t1 ?_)
    refine wpAny_bind (tupleItemsOf_ t2 ?_)
    refine wpAny_bind ?_
    refine wpAny_forIn_list _ (fun rest st s => st = (none, ()) ∧ EqL prog w A.in1 (fun e s' => R (.error e) s') rest (fun k s' => R (.ok (.ret (.bool (k && (its.size == its2.size))))) s') s) _ ?step ?nil _ _ ⟨rfl, h⟩
    case nil =>
      rintro _ s ⟨rfl, q⟩
      refine wpAny_pure ⟨_, rfl, ?_⟩
      exact q
    case step =>
      rintro ⟨x, y⟩ rest _ s ⟨rfl, q⟩
      refine wpAny_bind (wpAny_mono q (fun k s' q => ?_) fun _ _ y => y)
      cases k with
      | true =>
        rw [if_neg (show ¬ ((!true) = true) by decide)]
        exact wpAny_pure ⟨rfl, q⟩
      | false =>
        rw [if_pos (show ((!false) = true) by decide)]
        refine wpAny_bind (wpAny_pure (wpAny_pure ?_))
        exact wpAny_pure ⟨_, rfl, q⟩
/-- a scalar field in which two instances differ: they are two objects -/
def df : List D → List D → Bool
  | .int a :: xs, .int b :: ys => decide (a ≠ b) || df xs ys
  | _ :: xs, _ :: ys => df xs ys
  | _, _ => false
open Classical in
/-- two items: bools, or two of an own class with its own __eq__ that leaves the store -/
noncomputable def elE (cl : String) (A : Ar) (g : FM) : D → D → GS → Option Bool
  | .bl a, .bl b, _ => some (a == b)
  | .ins k fs, .ins k' fs', G => if h : k = cl ∧ k' = cl ∧ A 2 = true ∧ ∃ b, g [.d (.ins cl fs), .d (.ins cl fs')] G = .ok (.d (.bl b)) G ∧ (b = true ∨ df fs fs' = true) then some (choose h.2.2.2) else none
  | _, _, _ => none
open Classical in
theorem elE_ins {cl : String} {A : Ar} {g : FM} {fs fs' : List D} {G : GS} {b : Bool} (hA : A 2 = true) (h : g [.d (.ins cl fs), .d (.ins cl fs')] G = .ok (.d (.bl b)) G) (hd : b = true ∨ df fs fs' = true) : elE cl A g (.ins cl fs) (.ins cl fs') G = some b := by
  have e : ∃ b, g [.d (.ins cl fs), .d (.ins cl fs')] G = .ok (.d (.bl b)) G ∧ (b = true ∨ df fs fs' = true) := ⟨b, h, hd⟩
  show (if h : cl = cl ∧ cl = cl ∧ A 2 = true ∧ ∃ b, g [.d (.ins cl fs), .d (.ins cl fs')] G = .ok (.d (.bl b)) G ∧ (b = true ∨ df fs fs' = true) then some (choose h.2.2.2) else none) = some b
  rw [dif_pos ⟨rfl, rfl, hA, e⟩]
  have z := (Classical.choose_spec e).1
  have z := h.symm.trans z
  injection z with z
  injection z with z
  injection z with z
  rw [← z]
noncomputable def elL (cl : String) (A : Ar) (g : FM) : List D → List D → GS → Option Bool
  | x :: xs, y :: ys, G => (elE cl A g x y G).bind fun b => if b = true then elL cl A g xs ys G else some false
  | _, _, _ => some true
/-- tuple == tuple -/
noncomputable def fEqT (cl : String) (A : Ar) (g : FM) : F2 := fun x y G => match x, y with
  | .d (.tup xs), .d (.tup ys) => (elL cl A g xs ys G).map fun b => (.d (.bl (b && (xs.length == ys.length))), G)
  | _, _ => none
section
variable {X : Cx} {c : RC} {M : Addr → Prop} {ρ : List Addr} {σ : L2.St} {H : Hp} {G : GS} {lv : Nat} {cl : String} {A : Ar} {g : FM} {f : Addr} {Y : Around}
theorem df_ne {p p' dx dx' : Addr} {C C' : Addr} {gs gs' : List (Str × V)} : ∀ {fs fs' : List D} {vs vs' : List V}, All2 (Rep c M ρ H) fs vs → All2 (Rep c M ρ H) fs' vs' → df fs fs' = true → vs ≠ vs'
  | [], _, _, _, _, _, h => by cases h
  | x :: xs, [], _, _, _, _, h => by cases x <;> cases h
  | x :: xs, y :: ys, _, _, .cons r t, .cons r' t', h => by
    intro e
    injection e with e1 e2
    subst e1
    have ih := df_ne (p := p) (p' := p') (dx := dx) (dx' := dx') (C := C) (C' := C') (gs := gs) (gs' := gs') t t'
    unfold df at h
    split at h
    · rename_i a _ b _ h1 h2
      injection h1 with h1 h3
      injection h2 with h2 h4
      subst h1 h2 h3 h4
      have z : V.int a = V.int b := r.of_int.symm.trans r'.of_int
      injection z with z
      subst z
      simp only [ne_eq, not_true_eq_false, decide_false, Bool.false_or] at h
      exact ih h e2
    · rename_i h1 h2
      injection h1 with h1 h3
      injection h2 with h2 h4
      subst h3 h4
      exact ih h e2
    · cases h
theorem all2_snd : ∀ {fs : List D} {gs : List (Str × V)}, All2 (fun p q => Rep c M ρ H p q.2) fs gs → All2 (Rep c M ρ H) fs (gs.map Prod.snd)
  | _, _, .nil => .nil
  | _, _, .cons h t => .cons h (all2_snd t)
theorem fl_vals {k : String} {fs : List D} {gs : List (Str × V)} (fl : Flds c M ρ H k fs gs) : All2 (Rep c M ρ H) fs (gs.map Prod.snd) := by
  obtain ⟨_, r⟩ := fl
  exact all2_snd r
/-- one pair -/
theorem elE_run {pins : List (Addr × Obj)} {s : Shared} {x y : D} {v v' : V} {u u' : Value} {b : Bool} (hK : c.K = X.K) (fr : Y.frames = X.A.frames) (hr : Room lv Y) (hs : PySem.W.findIn X.K (.ref (c.C cl)) "__eq__" = some (some (.ref f))) (hf : PySem.W.isFn X.K (.ref f) = true) (F : FnG X.prog X.w X.K X.mg X.base c.C c.N lv f A g)
    (I : Inv X pins σ H s) (sr : SR c M ρ G H) (rx : Rep c M ρ H x v) (ry : Rep c M ρ H y v') (ux : RelV v u) (uy : RelV v' u') (h : elE cl A g x y G = some b) :
    wpAny (model X.prog X.w) Y (eqBool u u') (fun k s' => k = b ∧ ∃ H' ρ', Inv X pins σ H' s' ∧ Ge M ρ H ρ' H' ∧ SR c M ρ' G H') X.xe s := by
  unfold elE at h
  split at h
  · rename_i _ a b'
    injection h with h
    cases rx.of_bl
    cases ry.of_bl
    cases ux
    cases uy
    exact SeqAt.EqAt.inModel (SeqAt.EqAt.bool_bool a b') X.prog X.w _ _ ⟨h, H, ρ, I, Ge.refl, sr⟩
  · rename_i _ k fs k' fs'
    split at h
    · rename_i hh
      injection h with h
      obtain ⟨rfl, rfl, hA, hex⟩ := hh
      have hb := Classical.choose_spec hex
      rw [h] at hb
      obtain ⟨hg, hd⟩ := hb
      obtain ⟨p, dx, gs, rfl, z, ea, fl⟩ := Rep.of_ins rx
      obtain ⟨p', dx', gs', rfl, z', ea', fl'⟩ := Rep.of_ins ry
      cases (show u = Value.ref p from ux)
      cases (show u' = Value.ref p' from uy)
      unfold eqBool
      refine wpAny_holding ?_
      by_cases hp : p = p'
      · subst hp
        rw [if_pos (beq_self_eq_true _)]
        refine wpAny_bind (wpAny_rule (wpAny_pure ⟨?_, H, ρ, I, Ge.refl, sr⟩))
        rcases hd with hd | hd
        · exact hd.symm
        · rw [ea] at ea'
          injection ea' with e
          injection e with _ _ e
          subst e
          exact absurd rfl (df_ne (p := p) (p' := p) (dx := dx) (dx' := dx) (C := p) (C' := p) (gs := gs) (gs' := gs) (fl_vals fl) (fl_vals fl') hd)
      · rw [if_neg (show ¬ (Value.ref p == Value.ref p') = true from fun e => hp (by have := eq_of_beq e; injection this))]
        obtain ⟨ox, od, J⟩ := inst_at I ea
        obtain ⟨ox', od', J'⟩ := inst_at I ea'
        obtain ⟨m, hF⟩ := I.fr
        have sp := spd_opt (A := A) (g := g) (es := [.d (.ins k' fs), .d (.ins k' fs')]) (Q := fun v H' => v = .bl b ∧ ∃ ρ', Ge M ρ H ρ' H' ∧ SR c M ρ' G H') sr (.cons rx (.cons ry .nil)) hA (by
          rw [hg]
          intro v ρ' H' ge s r
          exact ⟨Rep.of_bl r, ρ', ge, s⟩)
        refine wpAny_bind (PySem.W.cmp_K (op := .Eq) hr.units0 hF I.ok.mod.kin J J'.type (by unfold PySem.W.notFirst; rw [beq_self_eq_true]; rfl) hs hf ?_)
        rw [hK] at sp
        refine wpAny_mono (wpAny_call (run_fnB (us := [.ref p, .ref p']) (vs := [.ref p, .ref p']) fr F hr pass0' I (.cons rfl (.cons rfl .nil)) sp)) (fun w s' hw => ?_) fun _ _ x => x
        obtain ⟨z', H', I', rz, e, ρ', ge, sr'⟩ := hw
        subst e
        cases rz
        exact wpAny_truthy_bool ⟨rfl, H', ρ', I', ge, sr'⟩
    · cases h
  · cases h
theorem elL_nil {ys : List D} : elL cl A g [] ys G = some true := by cases ys <;> rfl
theorem elL_nil2 {x : D} {xs : List D} : elL cl A g (x :: xs) [] G = some true := rfl
theorem elL_cons {x y : D} {xs ys : List D} : elL cl A g (x :: xs) (y :: ys) G = (elE cl A g x y G).bind fun b => if b = true then elL cl A g xs ys G else some false := rfl
theorem eqL_nil {prog : Program} {w : World} {B : Around} {E : Value → Shared → Prop} {Q : Bool → Shared → Prop} {s : Shared} : EqL prog w B E [] Q s = Q true s := rfl
theorem eqL_cons {prog : Program} {w : World} {B : Around} {E : Value → Shared → Prop} {Q : Bool → Shared → Prop} {s : Shared} {x y : Value} {r : List (Value × Value)} : EqL prog w B E ((x, y) :: r) Q s = wpAny (model prog w) B (eqBool x y) (fun k s' => if k = true then EqL prog w B E r Q s' else Q false s') E s := rfl
theorem elL_run {pins : List (Addr × Obj)} {b : Bool} {Q : Bool → Shared → Prop} (hK : c.K = X.K) (fr : Y.frames = X.A.frames) (hr : Room lv Y) (hs : PySem.W.findIn X.K (.ref (c.C cl)) "__eq__" = some (some (.ref f))) (hf : PySem.W.isFn X.K (.ref f) = true) (F : FnG X.prog X.w X.K X.mg X.base c.C c.N lv f A g)
    (xs : List D) : ∀ {ys : List D} {vs ws : List V} {us zs : List Value} {s : Shared} {H : Hp} {ρ : List Addr}, Inv X pins σ H s → SR c M ρ G H → All2 (Rep c M ρ H) xs vs → All2 (Rep c M ρ H) ys ws → Vals vs us → Vals ws zs → elL cl A g xs ys G = some b →
      (∀ s' H' ρ', Inv X pins σ H' s' → Ge M ρ H ρ' H' → SR c M ρ' G H' → Q b s') → EqL X.prog X.w Y X.xe (us.zip zs) Q s := by
  induction xs with
  | nil =>
    intro ys vs ws us zs s H ρ I sr r1 r2 u1 u2 h q
    rw [elL_nil] at h
    cases r1
    cases u1
    rw [List.zip_nil_left, eqL_nil, show true = b by injection h]
    exact q s H ρ I Ge.refl sr
  | cons x xs ih =>
    intro ys vs ws us zs s H ρ I sr r1 r2 u1 u2 h q
    cases r2 with
    | nil =>
      rw [elL_nil2] at h
      cases u2
      rw [List.zip_nil_right, eqL_nil, show true = b by injection h]
      exact q s H ρ I Ge.refl sr
    | cons ry ty =>
      cases r1 with
      | cons rx tx =>
        cases u1 with
        | cons ux tu =>
          cases u2 with
          | cons uy tv =>
            rw [elL_cons] at h
            rw [List.zip_cons_cons, eqL_cons]
            obtain ⟨k, e, h⟩ := Option.bind_eq_some_iff.mp h
            refine wpAny_mono (elE_run hK fr hr hs hf F I sr rx ry ux uy e) (fun k' s' hk => ?_) fun _ _ x => x
            obtain ⟨rfl, H', ρ', I', ge, sr'⟩ := hk
            cases k' with
            | true =>
              rw [if_pos rfl] at h
              rw [if_pos rfl]
              exact ih I' sr' (reps_grow tx ge.gr) (reps_grow ty ge.gr) tu tv h fun s2 H2 ρ2 I2 g2 sr2 => q s2 H2 ρ2 I2 (ge.trans g2) sr2
            | false =>
              rw [if_neg (by decide)] at h
              rw [if_neg (by decide)]
              rw [show false = b by injection h]
              exact q s' H' ρ' I' ge sr'
theorem dop_eqT (hK : c.K = X.K) (hr : Room (lv + 1) X.A) (hs : PySem.W.findIn X.K (.ref (c.C cl)) "__eq__" = some (some (.ref f))) (hf : PySem.W.isFn X.K (.ref f) = true)
    (F : FnG X.prog X.w X.K X.mg X.base c.C c.N lv f A g) : OpR X (compareOp .Eq) (V2 c (fEqT cl A g)) := by
  intro pins s σ H x y v u Q I rx ry ⟨M, ρ, G, a, b, sr, ra, rb, q⟩
  unfold fEqT at q
  split at q
  · rename_i xs ys
    cases e : elL cl A g xs ys G with
    | none => rw [e] at q; exact q.elim
    | some k =>
      rw [e] at q
      obtain ⟨p, vs, rfl, z, rr⟩ := Rep.of_tup ra
      obtain ⟨p', ws, rfl, z', rr'⟩ := Rep.of_tup rb
      cases (show v = Value.ref p from rx)
      cases (show u = Value.ref p' from ry)
      obtain ⟨its, r, pl, _⟩ := I.tuple (show SqT X.K H p vs by rw [← hK]; exact z.sq)
      obtain ⟨its', r', pl', _⟩ := I.tuple (show SqT X.K H p' ws by rw [← hK]; exact z'.sq)
      show wpAny (model X.prog X.w) X.A (richCompare .Eq (.ref p) (.ref p')) (EP X pins σ Q) X.xe s
      have t1 : s.TypeIs (.ref p) "tuple" := by obtain ⟨o, h1, h2, _⟩ := pl; exact ⟨o, h1, h2⟩
      have t2 : s.TypeIs (.ref p') "tuple" := by obtain ⟨o, h1, h2, _⟩ := pl'; exact ⟨o, h1, h2⟩
      refine wpAny_richCompare_same_room t1 t2 PySem.F.slot_tuple_eq ?_ hr.units0
      refine call_meetsIn PySem.F.slot_tuple_eq t1 PySem.F.entry_tuple_eq (PySem.F.args_tuple_eq_2 _ _) (tup_eq_in p p' its.toArray its'.toArray) ⟨pl, pl', ?_⟩
      refine elL_run (Y := X.A.in1) hK rfl hr.in1 hs hf F _ I sr rr rr' r r' e fun s' H' ρ' I' ge sr' => ?_
      have l1 : its.toArray.size = xs.length := by rw [List.size_toArray, ← r.length, rr.length]
      have l2 : its'.toArray.size = ys.length := by rw [List.size_toArray, ← r'.length, rr'.length]
      refine ⟨fun h => (by cases h), .bl (k && (xs.length == ys.length)), H', I', ?_, q _ ρ' H' ge sr' Rep.bl⟩
      rw [l1, l2]
      rfl
  · exact q.elim
end
end DL
set_option Elab.async false
set_option linter.all false
set_option maxRecDepth 100000
set_option maxHeartbeats 4000000
namespace DL
open PySem L2 PyProof.Rows StX ClX
/-! ### the frame's own lists -/
section
variable {X : Cx} {c : RC} {W : WX} {e o a : Expr} {es : List Expr} {sts : List Stmt} {me mi : EM} {mr : AM} {mb : SM} {pos p p2 apos : Pos} {M : Addr → Prop} {ρ : List Addr} {σ : L2.St} {H : Hp} {G : GS} {env : En}
/-- from here on the list is read alone -/
def frzE (i : Nat) (env : En) : En := match (env[i]? : Option Sl) with
  | some (.own (.lst xs)) => env.set i (.ev (.d (.lst xs)))
  | _ => env
theorem rl_frz (i : Nat) (R : Rl c M ρ G env σ H) : ∃ M', (∀ a, M' a → M a) ∧ Rl c M' ρ G (frzE i env) σ H := by
  unfold frzE
  split
  rotate_left
  · exact ⟨M, fun _ h => h, R⟩
  rename_i xs hi
  obtain ⟨oa, h1, h2⟩ := R.e
  obtain ⟨hσ, ⟨hm, hB⟩, vs, hH, rr⟩ := h1 i _ hi
  have hr : oa i ∉ ρ := fun z => (R.s.sep _ z).2 hm
  have cv : Cv c M c (fun a => M a ∧ a ≠ oa i) ρ := ⟨rfl, rfl, rfl, fun a h => ⟨h.1, fun z => h.2.1 z.1, h.2.2⟩⟩
  have gr : Gr M ρ H (fun a => M a ∧ a ≠ oa i) ρ H := ⟨fun _ _ e _ _ => e, fun _ o e => ⟨o, e⟩, ⟨[], by simp, by simp⟩, fun _ h => .inl h.1⟩
  refine ⟨fun a => M a ∧ a ≠ oa i, fun _ h => h.1, R.s.cv cv (fun a h => ⟨(R.s.sep a h).1, fun z => (R.s.sep a h).2 z.1⟩) (fun a z => R.s.mt a z.1) R.s.bt, by simpa using R.len, oa, fun j sl e => ?_, fun j k o u e1 e2 e3 => ?_⟩
  · rcases env_set e with ⟨rfl, rfl⟩ | ⟨hj, e⟩
    · exact ⟨_, hσ, Rep.lst (.inl ⟨⟨hB, fun z => z.2 rfl, hr⟩, .inl hH⟩) (reps_grow rr gr)⟩
    · have h := h1 j sl e
      match sl, h with
      | .no, _ => trivial
      | .ev e, ⟨v, a, b⟩ => exact ⟨v, a, b.grow gr⟩
      | .own (.lst ys), ⟨a, b, vs, d, f⟩ => exact ⟨a, ⟨⟨b.1, fun z => hj (h2 j i _ _ e hi z)⟩, b.2⟩, vs, d, reps_grow f gr⟩
      | .own (.ins k fs), ⟨a, o2, b, dx, gs, d, f⟩ => exact ⟨a, o2, ⟨b, fun z => hj (h2 j i _ _ e hi (o2.trans z))⟩, dx, gs, d, flds_grow f gr⟩
      | .exn k fs, ⟨a, b⟩ => exact ⟨a, b.grow gr⟩
  · rcases env_set e1 with ⟨_, z⟩ | ⟨_, e1⟩
    · cases z
    · rcases env_set e2 with ⟨_, z⟩ | ⟨_, e2⟩
      · cases z
      · exact h2 j k _ _ e1 e2 e3
def sFrz (i : Nat) (m : SM) : SM := fun env G => m (frzE i env) G
theorem dss_frz {m : SM} {i : Nat} (h : DSs X c W sts m) : DSs X c W sts (sFrz i m) := by
  refine pss_imp h fun Dn σ H q => ?_
  obtain ⟨M, ρ, G, env, R, q⟩ := q
  obtain ⟨M', hM, R'⟩ := rl_frz i R
  exact ⟨M', ρ, G, _, R', SQ.grow q ⟨fun _ _ e _ _ => e, fun _ o e => ⟨o, e⟩, ⟨[], by simp, by simp⟩, fun _ h => .inl (hM _ h)⟩⟩
/-- the value is a new list, that nobody else has -/
def RF (c : RC) (ρ0 : List Addr) (H0 : Hp) : (Addr → Prop) → List Addr → Hp → List D × GS → V → Prop := fun M ρ' H' p v => ∃ a vs, v = .ref a ∧ ¬ c.B a ∧ H0 a = none ∧ Ge M ρ0 H0 ρ' H' ∧ H' a = some (.lst vs) ∧ All2 (Rep c (fun b => M b ∨ b = a) ρ' H') p.1 vs ∧ SR c (fun b => M b ∨ b = a) ρ' p.2 H'
abbrev FM' := En → GS → Out (List D × GS)
def tF (c : RC) (W : WX) (m : FM') : TE := fun σ H Q => ∃ M ρ G env, Rl c M ρ G env σ H ∧ TQ (RF c ρ H) c W M ρ σ H (m env G) Q
def DF (X : Cx) (c : RC) (W : WX) (e : Expr) (m : FM') : Prop := PE X e (tF c W m)
/-- the frame has it as its own -/
theorem rl_own {i : Nat} {M : Addr → Prop} {ρ' : List Addr} {H' : Hp} {G' : GS} {a : Addr} {xs : List D} {vs : List V} (R : Rl c M ρ G env σ H) (g : Ge M ρ H ρ' H') (hB : ¬ c.B a) (h0 : H a = none) (hH : H' a = some (.lst vs)) (rr : All2 (Rep c (fun b => M b ∨ b = a) ρ' H') xs vs) (s : SR c (fun b => M b ∨ b = a) ρ' G' H') :
    Gr M ρ H (fun b => M b ∨ b = a) ρ' H' ∧ Rl c (fun b => M b ∨ b = a) ρ' G' (env.set i (.own (.lst xs))) (σ.set i (some (.ref a))) H' := by
  have gr : Gr M ρ H (fun b => M b ∨ b = a) ρ' H' := ⟨fun b o e n _ => g.keep b o e n, g.there, g.grow, fun b z => z.elim .inl fun e => .inr (by rw [e]; exact h0)⟩
  have nr : ∀ b, M b → b ∉ ρ := fun b hm hr => (R.s.sep b hr).2 hm
  have na : ∀ b, M b → b ≠ a := fun b hm e => R.s.mt b hm (by rw [e]; exact h0)
  obtain ⟨oa, h1, h2⟩ := R.e
  have mo : ∀ j o, env[j]? = some (.own o) → M (oa j) := fun j o e => by
    have h := h1 j _ e
    match o, h with
    | .lst ys, ⟨_, b, _⟩ => exact b.1
    | .ins k fs, ⟨_, o2, b, _⟩ => rw [o2]; exact b
  obtain ⟨ob, hb1, hb2⟩ : ∃ ob : Nat → Addr, ob i = a ∧ ∀ j, j ≠ i → ob j = oa j := ⟨fun j => if j = i then a else oa j, if_pos rfl, fun j h => if_neg h⟩
  refine ⟨gr, s, by simpa using R.len, ob, fun j sl e => ?_, fun j k o u e1 e2 e3 => ?_⟩
  · rcases env_set e with ⟨rfl, rfl⟩ | ⟨hj, e⟩
    · have hl : j < env.length := by
        have := (List.getElem?_eq_some_iff.mp e).1
        rwa [List.length_set] at this
      refine ⟨?_, ?_, vs, ?_, rr⟩
      · rw [List.getElem?_set_self (Nat.lt_of_lt_of_le hl R.len), hb1]
      · rw [hb1]; exact ⟨.inr rfl, hB⟩
      · rw [hb1]; exact hH
    · have h := h1 j sl e
      have sg : (σ.set i (some (.ref a)))[j]? = σ[j]? := List.getElem?_set_ne (Ne.symm hj)
      match sl, h with
      | .no, _ => trivial
      | .ev e, ⟨v, x, b⟩ => exact ⟨v, by rw [sg]; exact x, b.grow gr⟩
      | .own (.lst ys), ⟨x, b, vs, d, f⟩ => exact ⟨by rw [sg, hb2 j hj]; exact x, by rw [hb2 j hj]; exact ⟨.inl b.1, b.2⟩, vs, by rw [hb2 j hj]; exact g.keep _ _ d (nr _ b.1), reps_grow f gr⟩
      | .own (.ins k fs), ⟨x, o2, b, dx, gs, d, f⟩ => exact ⟨by rw [sg]; exact x, by rw [hb2 j hj]; exact o2, .inl b, dx, gs, g.keep _ _ d (nr _ b), flds_grow f gr⟩
      | .exn k fs, ⟨x, b⟩ => exact ⟨by rw [sg]; exact x, b.grow gr⟩
  · rcases env_set e1 with ⟨hj, _⟩ | ⟨hj, e1⟩
    · rcases env_set e2 with ⟨hk, _⟩ | ⟨hk, e2⟩
      · rw [hj, hk]
      · rw [hj, hb1, hb2 k hk] at e3
        exact absurd e3.symm (na _ (mo k _ e2))
    · rcases env_set e2 with ⟨hk, _⟩ | ⟨hk, e2⟩
      · rw [hk, hb1, hb2 j hj] at e3
        exact absurd e3 (na _ (mo j _ e1))
      · rw [hb2 j hj, hb2 k hk] at e3
        exact h2 j k _ _ e1 e2 e3
def sOwn (i : Nat) (m : FM') : SM := fun env G => ofE (m env G) env fun p _ => .nx (env.set i (.own (.lst p.1))) p.2
/-- an expression ahead of the rest of a statement, its value new -/
theorem SQ.ofF {m : Out (List D × GS)} {k : List D × GS → GS → OutS} {Dn : Ends} (Rr : Rl c M ρ G env σ H) (h : SQ c W M ρ H (DL.ofE m env k) Dn) :
    TQ (RF c ρ H) c W M ρ σ H m (fun v H1 => ∃ ρ1 G1 e, Ge M ρ H ρ1 H1 ∧ RF c ρ H M ρ1 H1 e v ∧ SQ c W M ρ H (k e G1) Dn) := by
  cases m with
  | ok e G => exact fun v ρ1 H1 g s r => ⟨ρ1, G, e, g, r, h⟩
  | er cl fs G => exact fun dd gs ρ1 H1 g s e f => h M ρ1 σ H1 dd gs g.gr (Rr.ge g s) e f
  | st => exact h
theorem ds_own {m : FM'} {i : Nat} {x : Str} {pos' : Pos} (hN : X.N.Nodup) (hi : X.N[i]? = some x) (hx : Loc X.env.scope x) (he : DF X c W e m) (hs : swapsWith e (some (.Name x pos')) pos.line X.env = pure false := by rfl)
    (hf : X.fn x = true ∨ X.env.scope.names.lookup x = some .local := by first | exact .inl rfl | exact .inr rfl | assumption) : DS X c W (.Assign [.Name x pos'] e pos) (sOwn i m) := by
  refine ps_imp (ps_set hN hi hx he hs hf) fun Dn σ H q => ?_
  obtain ⟨M, ρ, G, env, R, q⟩ := q
  refine ⟨M, ρ, G, env, R, (SQ.ofF R q).imp fun v H1 ⟨ρ1, G1, e1, g1, r1, q1⟩ => ?_⟩
  obtain ⟨a, vs, rfl, hB, h0, g, hH, rr, s⟩ := r1
  obtain ⟨gr, R1⟩ := rl_own (i := i) R g hB h0 hH rr s
  exact q1 _ ρ1 _ H1 gr R1
/-- a new list at a free address -/
theorem rf_new {ρ1 : List Addr} {H1 : Hp} {G1 : GS} {ds : List D} {vs : List V} {a : Addr} (g : Ge M ρ H ρ1 H1) (s : SR c M ρ1 G1 H1) (rr : All2 (Rep c M ρ1 H1) ds vs) (ha : H1 a = none) : SR c M ρ1 G1 (upd H1 a (.lst vs)) ∧ Ge M ρ H ρ1 (upd H1 a (.lst vs)) ∧ RF c ρ H M ρ1 (upd H1 a (.lst vs)) (ds, G1) (.ref a) := by
  have sm : Same H1 (upd H1 a (.lst vs)) := same_upd ha
  have fx := s.fresh ha
  have h0 : H a = none := by
    cases e : H a with
    | none => rfl
    | some o => obtain ⟨o', q⟩ := g.there a o e; rw [ha] at q; cases q
  have g1 : Gr M ρ1 H1 (fun b => M b ∨ b = a) ρ1 (upd H1 a (.lst vs)) := ⟨fun b o q _ _ => sm b o q, fun b o q => ⟨o, sm b o q⟩, ⟨[], by simp, by simp⟩, fun b z => z.elim .inl fun e => .inr (by rw [e]; exact ha)⟩
  refine ⟨s.same sm, g.trans (Ge.same sm), a, vs, rfl, fx.1, h0, g.trans (Ge.same sm), upd_same, reps_grow rr g1, s.len, s.nd, fun b hb => ⟨(s.sep b hb).1, fun z => z.elim (s.sep b hb).2 fun e => fx.2.2 (by rw [← e]; exact hb)⟩, fun i xs e => ?_, fun b z => z.elim (fun z => same_ne sm (s.mt b z)) fun e => by rw [e, upd_same]; simp, fun b z => same_ne sm (s.bt b z), fun i k e => let ⟨p, t⟩ := s.tb i k e; ⟨p, t.ext sm⟩⟩
  obtain ⟨b, us, p, q, r⟩ := s.at_ i xs e
  exact ⟨b, us, p, sm _ _ q, repEs_grow r g1⟩
def nLst (r : AM) : FM' := fun env G => (r env G).bind fun xs G1 => match datas xs with
  | some ds => if ds.length ≤ lstMax then .ok (ds, G1) G1 else .st
  | none => .st
theorem df_lst (ha : DA X c W es mr) : DF X c W (.List es pos) (nLst mr) := by
  refine pe_imp (pe_lst ha) fun σ H Q q => ?_
  obtain ⟨M, ρ, G, env, R, q⟩ := q
  refine ⟨M, ρ, G, env, R, ?_⟩
  unfold nLst at q
  cases hm : mr env G with
  | st => rw [hm] at q; exact q
  | er cl fs G1 => rw [hm] at q; exact q
  | ok xs G1 =>
    rw [hm] at q
    intro v ρ1 H1 g1 s1 r1
    have q1 : TQ (RF c ρ H) c W M ρ σ H (match datas xs with
      | some ds => if ds.length ≤ lstMax then .ok (ds, G1) G1 else .st
      | none => .st) Q := q
    split at q1
    · rename_i ds hd
      split at q1
      · rename_i hl
        have rr := datas_rep hd r1
        refine ⟨by rw [← rr.length]; exact lst_ok hl, fun p hp => ?_⟩
        obtain ⟨s2, g2, rf⟩ := rf_new g1 s1 rr hp
        exact q1 (.ref p) ρ1 _ g2 s2 rf
      · exact q1.elim
    · exact q1.elim
def nLc (k : Nat) (vs : List Nat) (mr : LM) (mt : BM) (me : EM) : FM' := eLcG (fun ys G => .ok (ys, G) G) k vs mr mt me
end
end DL
set_option Elab.async false
set_option linter.all false
set_option maxRecDepth 100000
set_option maxHeartbeats 4000000
namespace DL
open PySem L2 PyProof.Rows StX ClX
def oL (i : Nat) (env : En) : Option (List D) := match (env[i]? : Option Sl) with
  | some (.own (.lst xs)) => some xs
  | _ => none
theorem oL_at {i : Nat} {env : En} {xs : List D} (h : oL i env = some xs) : env[i]? = some (.own (.lst xs)) := by
  unfold oL at h
  split at h
  · rename_i ys e; cases h; exact e
  · cases h
section
variable {X : Cx} {c : RC} {W : WX} {e o a : Expr} {es : List Expr} {sts : List Stmt} {me mi : EM} {mr : AM} {mb : SM} {pos p p2 apos : Pos} {M : Addr → Prop} {ρ : List Addr} {σ : L2.St} {H : Hp} {G : GS} {env : En}
/-- the frame's own list, and how it is written -/
theorem rl_put {i : Nat} {xs : List D} (R : Rl c M ρ G env σ H) (hi : oL i env = some xs) : ∃ l vs, σ[i]? = some (some (V.ref l)) ∧ M l ∧ l ∉ ρ ∧ H l = some (.lst vs) ∧ All2 (Rep c M ρ H) xs vs ∧
    ∀ (ρ1 : List Addr) (G1 : GS) (H1 : Hp) (ys : List D) (us ws : List V), Rl c M ρ1 G1 env σ H1 → H1 l = some (.lst ws) → All2 (Rep c M ρ1 H1) ys us → Gr M ρ1 H1 M ρ1 (upd H1 l (.lst us)) ∧ Rl c M ρ1 G1 (env.set i (.own (.lst ys))) σ (upd H1 l (.lst us)) := by
  have hi := oL_at hi
  obtain ⟨oa, h1, h2⟩ := R.e
  obtain ⟨hσ, ⟨hm, hB⟩, vs, hH, rr⟩ := h1 i _ hi
  refine ⟨oa i, vs, hσ, hm, fun z => (R.s.sep _ z).2 hm, hH, rr, fun ρ1 G1 H1 ys us ws R1 hw ry => ?_⟩
  have gw := gr_own (ρ := ρ1) (o := .lst us) hm hw
  obtain ⟨ob, k1, k2⟩ := R1.e
  have eo : ob i = oa i := by
    obtain ⟨hσ', _⟩ := k1 i _ hi
    rw [hσ] at hσ'
    injection hσ' with z
    injection z with z
    injection z with z
    exact z.symm
  refine ⟨gw, R1.s.own hm hw (fun _ _ => lst_code), by simpa using R1.len, ob, fun j sl e => ?_, fun j k o u e1 e2 e3 => ?_⟩
  · rcases env_set e with ⟨rfl, rfl⟩ | ⟨hj, e⟩
    · obtain ⟨hσ', hmB, _⟩ := k1 j _ hi
      exact ⟨hσ', hmB, us, by rw [eo]; exact upd_same, reps_grow ry gw⟩
    · have h := k1 j sl e
      match sl, h with
      | .no, _ => trivial
      | .ev e, ⟨v, x, b⟩ => exact ⟨v, x, b.grow gw⟩
      | .own (.lst zs), ⟨x, b, vs, d, f⟩ => exact ⟨x, b, vs, by rw [upd_ne (fun z => hj (k2 j i _ _ e hi (z.trans eo.symm)))]; exact d, reps_grow f gw⟩
      | .own (.ins k fs), ⟨x, o2, b, dx, gs, d, f⟩ => exact ⟨x, o2, b, dx, gs, by rw [upd_ne (fun z => hj (k2 j i _ _ e hi ((o2.trans z).trans eo.symm)))]; exact d, flds_grow f gw⟩
      | .exn k fs, ⟨x, b⟩ => exact ⟨x, b.grow gw⟩
  · rcases env_set e1 with ⟨hj, _⟩ | ⟨hj, e1⟩
    · rcases env_set e2 with ⟨hk, _⟩ | ⟨hk, e2⟩
      · rw [hj, hk]
      · rw [hj] at e3 ⊢; exact k2 i k _ _ hi e2 e3
    · rcases env_set e2 with ⟨hk, _⟩ | ⟨hk, e2⟩
      · rw [hk] at e3 ⊢; exact k2 j i _ _ e1 hi e3
      · exact k2 j k _ _ e1 e2 e3
/-- one value handed in -/
theorem tq_one {Q : List V → Hp → Prop} (h : TQ (RE c) c W M ρ σ H (me env G) fun v H1 => Q [v] H1) : TQ (RA c) c W M ρ σ H (aCons me aNil env G) Q := by
  unfold aCons
  cases hm : me env G with
  | st => rw [hm] at h; exact h
  | er cl fs G1 => rw [hm] at h; exact h
  | ok x G1 =>
    rw [hm] at h
    intro vs ρ1 H1 g s r
    cases r with
    | cons r t => cases t; exact h _ ρ1 H1 g s r
/-- x.append(e) -/
def sApp (i : Nat) (m : EM) : SM := fun env G => match oL i env with
  | some xs => ofE (m env G) env fun e G1 => (match e with
    | .d x => if xs.length < lstMax then .nx (env.set i (.own (.lst (xs ++ [x])))) G1 else .st
    | _ => .st)
  | none => .st
theorem ds_app {i : Nat} {x : Str} (hv : PE X (.Name x p) (tVar i)) (he : DE X c W e me)
    (hbase : attributeBase (.Name x p) "append" X.env (eval (.Name x p) X.env) = eval (.Name x p) X.env := by rfl)
    (hfew : ((backTo p2 (starEach [e] X.env)).all (fun x => !x.1) && (backToKw p2 (keywordEach [] X.env)).all (fun x => x.1.isSome)
      && decide ([e].length + ([] : List Keyword).length + (if ([] : List Keyword).isEmpty then 0 else 1) < 30)) = true := by rfl)
    (hline : (apos.endLine == p2.line) = true := by rfl) (hs : starEach [e] X.env = (false, eval e X.env) :: starEach [] X.env := by rfl) (hplain : (backTo p2 (starEach [] X.env)).any (·.1) = false := by rfl)
    (hsw : swapsWith (.Call (.Attribute (.Name x p) "append" apos) [e] [] p2) none pos.line X.env = pure false := by rfl) :
    DS X c W (.Expr (.Call (.Attribute (.Name x p) "append" apos) [e] [] p2) pos) (sApp i me) := by
  refine ps_imp (ps_expr (pe_bm PySem.F.plainAttrs_list PySem.F.slot_list_append PySem.F.type_list_append mt_append hv (da_cons he da_nil hs) hbase hfew hline hs hplain) hsw) fun Dn σ H q => ?_
  obtain ⟨M, ρ, G, env, R, q⟩ := q
  unfold sApp at q
  split at q
  rotate_left
  · exact q.elim
  rename_i xs ho
  obtain ⟨l, vs, hσ, hm, hr, hH, rr, put⟩ := rl_put R ho
  refine ⟨.ref l, hσ, .inl ⟨rfl, vs, SqL.of hH⟩, M, ρ, G, env, R, tq_one ((SQ.ofE (R := RE c) R q).imp fun v H1 ⟨ρ1, G1, e1, g1, R1, r1, q1⟩ => ?_)⟩
  split at q1
  · rename_i z
    split at q1
    · rename_i hl
      have h1 := g1.keep _ _ hH hr
      have rr1 := reps_grow rr g1.gr
      obtain ⟨gw, R2⟩ := put ρ1 G1 H1 (xs ++ [z]) (vs ++ [v]) vs R1 h1 (rr1.append (.cons r1 .nil))
      exact ⟨l, vs, v, rfl, rfl, h1, by rw [← rr.length]; exact Nat.lt_of_lt_of_le hl (by decide), q1 M ρ1 σ _ gw R2⟩
    · exact q1.elim
  · exact q1.elim
/-- x[i] = e -/
def sOSub (i : Nat) (mi me : EM) : SM := fun env G => match oL i env with
  | some xs => ofE (me env G) env fun x G1 => ofE (mi env G1) env fun j G2 => (match x, j with
    | .d x, .d (.int j) => (match ixN xs.length j with
      | some j => .nx (env.set i (.own (.lst (xs.set j x)))) G2
      | none => .st)
    | _, _ => .st)
  | none => .st
/-- x[e] -/
def eOIx (i : Nat) (mi : EM) : EM := fun env G => match oL i env with
  | some xs => (mi env G).bind fun j G1 => (match j with
    | .d (.int j) => (match atI xs j with
      | some x => .ok (.d x) G1
      | none => .st)
    | _ => .st)
  | none => .st
/-- len(x) -/
def eOLen (i : Nat) : EM := fun env G => match oL i env with
  | some xs => .ok (.d (.int xs.length)) G
  | none => .st
/-- list(e), its value new -/
def lOf : List EV → Option (List D)
  | [.d (.lst ds)] => some ds
  | [.d (.tup ds)] => some ds
  | _ => none
def nList (r : AM) : FM' := fun env G => (r env G).bind fun xs G1 => match lOf xs with
  | some ds => .ok (ds, G1) G1
  | none => .st
end
end DL
set_option Elab.async false
set_option linter.all false
set_option maxRecDepth 100000
set_option maxHeartbeats 4000000
/-! texts: {x!r}, {x} of an own class -/
namespace DL
open PySem PySem.Calls PySem.Spec L2 PyProof.Rows StX ClX
section
variable {P : Program} {w : World} {K : PySem.W.Frag} {mg : Str → Option Value} {base : Heap} {C : String → Addr} {N : String → List Str} {j k : Nat} {f : Addr} {sp : Sp} {CX : CXT} {m : Str} {cl : String} {A : Ar} {g : FM}
theorem fnr_up (F : FnR P w K mg base CX j f sp) (h : j ≤ k) : FnR P w K mg base CX k f sp := fun A outer s H us vs Q E hr => F A outer s H us vs Q E (hr.mono h)
theorem HasM.up (h : HasM P w K mg base C N j m cl A g) (hk : j ≤ k) : HasM P w K mg base C N k m cl A g := ⟨h.cl, h.no, let ⟨f, a, b⟩ := h.fn; ⟨f, a, fnr_up b hk⟩⟩
end
end DL
set_option Elab.async false
set_option linter.all false
set_option maxRecDepth 100000
set_option maxHeartbeats 4000000
/-! keyword-only defaults left out, methods and defs called with keywords, properties -/
namespace DL
open PySem L2 PyProof.Rows StX ClX
/-- constants -/
abbrev CstR : D → V → Prop := fun d v => ∀ (c : RC) (M : Addr → Prop) (ρ : List Addr) (H : Hp), Rep c M ρ H d v
theorem cst_str {s : Str} : CstR (.str s) (.str s) := fun _ _ _ _ => .str
def dflF (ds : List D) (g : FM) : FM := fun es G => g (es ++ ds.map EV.d) G
def dflI (ds : List D) (g : IM) : IM := fun es G => g (es ++ ds.map EV.d) G
theorem cst_all {c : RC} {M : Addr → Prop} {ρ : List Addr} {H : Hp} : ∀ {ds : List D} {vs : List V}, All2 CstR ds vs → All2 (RepE c M ρ H) (ds.map EV.d) vs
  | _, _, .nil => .nil
  | _, _, .cons r t => .cons (r c M ρ H) (cst_all t)
/-- the defaults of keyword-only parameters, when none of these is given -/
theorem binds_kw {K : PySem.W.Frag} {fd : FuncData} {ps : List Str} {kws : List (Str × V)} {D : Addr} (hq : ∀ q ∈ kws, ∃ u, PySem.W.nsIn K D q.1 = some (some u) ∧ RelV q.2 u) (n : Nat) (hn : n + kws.length = ps.length)
    (h : ∀ (us ks : List Value), us.length = n → ks.length = kws.length → KwChain D ((kws.map (·.1)).zip ks) (bindArgs fd ⟨us, []⟩) (ps.zip (us ++ ks))) : ∃ ds, Vals (kws.map (·.2)) ds ∧ Binds K fd ps ds := by
  obtain ⟨ks, hl, rk, hks⟩ := kwd_vals hq
  refine ⟨ks, rk, fun s us X hlen => ?_⟩
  have l2 : us.length = n := by
    rw [List.length_append, hl] at hlen
    omega
  exact BindsTo.of_looks fun M => KwChain.looks X hks (h us ks l2 hl)
section
variable {P : Program} {w : World} {K : PySem.W.Frag} {mg : Str → Option Value} {base : Heap} {C : String → Addr} {N : String → List Str} {k n m : Nat} {f : Addr} {fd : FuncData} {ps : List Str} {g : FM} {gi : IM} {dds : List D} {dvs : List V} {cl : String}
theorem fni_dfl (F : FnOk P w K mg base (L2N.CX P w) k f fd ps (SpI K C N cl (arN m) gi)) (b : ∃ ds, Vals dvs ds ∧ Binds K fd ps ds) (hd : All2 CstR dds dvs) (hm : n + dds.length = m) : FnI P w K mg base C N k f cl (arN n) (dflI dds gi) := by
  obtain ⟨ds, rd, bd⟩ := b
  refine FnR.imp (F.raw bd rd) fun vs H Q E ⟨x, rest, hv, hl, B, ρ, G, es, dx, s0, r, hx, hB, q⟩ => ?_
  have hl' : rest.length = n := by simpa [arN] using hl
  subst hv
  refine ⟨x, rest ++ dvs, rfl, ?_, B, ρ, G, es ++ dds.map EV.d, dx, s0, All2.append r (cst_all hd), hx, hB, q⟩
  have := hd.length
  simp [arN]
  omega
end
section
variable {X : Cx} {c : RC} {W : WX} {e o : Expr} {es : List Expr} {kws : List Keyword} {me mo : EM} {mr mk : AM} {pos p apos : Pos} {M : Addr → Prop} {ρ : List Addr} {σ : L2.St} {H : Hp} {G : GS} {env : En} {pl : Sem Bool} {lv : Nat} {m : Str}
/-- o.m(e, .., k = v, ..) -/
def eMethK (cl : String) (A : Ar) (g : FM) (mo : EM) (r : AM) : EM := fun env G => (mo env G).bind fun x G1 => match x with
  | .d (.ins k fs) => if k = cl then (r env G1).bind fun xs G2 => if A (xs.length + 1) = true then g (.d (.ins k fs) :: xs) G2 else .st else .st
  | _ => .st
/-- o.p, a property -/
def eProp (cl : String) (A : Ar) (g : FM) (mo : EM) : EM := fun env G => (mo env G).bind fun x G1 => match x with
  | .d (.ins k fs) => if k = cl ∧ A 1 = true then lift (toOpt (g [.d (.ins k fs)] G1)) else .st
  | _ => .st
end
end DL
set_option Elab.async false
set_option linter.all false
set_option maxRecDepth 100000
set_option maxHeartbeats 4000000
/-! try with several clauses `except C as e`: each error that can come is told with the clause that takes it -/
namespace DL
open PySem L2 PyProof.Rows
abbrev TEnt := String × Nat × SM
/-- try: mb, the errors that can come with slot and suite -/
def sTryN (T : List TEnt) (mb : SM) : SM := fun env G => match mb env G with
  | .er k fs env1 G1 => match T.find? fun t => t.1 == k with
    | some t => if fs.isEmpty = false ∧ env1.all plainS = true ∧ t.2.1 < env1.length then afterO t.2.1 (t.2.2 (env1.set t.2.1 (.exn k fs)) G1) else .st
    | none => .st
  | o => o
end DL
set_option Elab.async false
set_option linter.all false
set_option maxRecDepth 100000
set_option maxHeartbeats 4000000
/-! list + list; `not x` of an own class as a value -/
namespace DL
open PySem L2 PyProof.Rows StX ClX
section
variable {X : Cx} {c : RC} {W : WX} {e : Expr} {me : EM} {cl : String} {A : Ar} {g : FM} {f : Addr} {lv : Nat} {pos : Pos}
/-- not x, x of an own class with its own truth -/
def eNotO (cl : String) (A : Ar) (g : FM) (me : EM) : EM := fun env G => (me env G).bind fun x G1 => match truO cl A g x G1 with
  | some (b, G2) => .ok (.d (.bl (!b))) G2
  | none => .st
end
end DL
set_option Elab.async false
set_option linter.all false
set_option maxRecDepth 100000
set_option maxHeartbeats 4000000
/-! texts by signs: iterated, asked for a sign, sliced, indexed; an own list asked for a text -/
namespace DL
open PySem L2 PyProof.Rows StX ClX
section
variable {X : Cx} {c : RC} {W : WX} {e a b tg : Expr} {me ma mb : EM} {pos p2 : Pos} {M : Addr → Prop} {ρ : List Addr} {σ : L2.St} {H : Hp} {G : GS}
/-- s[i] -/
def fIxT : F2 := fun x y G => match x, y with
  | .d (.str z), .d (.int i) => if z.length ≤ lstMax then (match atI z.cps.toList i with
    | some c => some (.d (.str ⟨#[c]⟩), G)
    | none => none) else none
  | _, _ => none
theorem dixT : IxR X (V2 c fIxT) := by
  intro value slice pins s σ H x y v u Q I rx ry ⟨M, ρ, G, a, b, sr, ra, rb, q⟩ hs
  unfold fIxT at q
  split at q
  · rename_i z i
    cases Rep.of_str ra
    cases Rep.of_int rb
    split at q
    · rename_i hl
      cases hz : atI z.cps.toList i with
      | none => rw [hz] at q; exact q.elim
      | some c0 =>
        rw [hz] at q
        exact ix_str value slice pins s σ H _ _ v u Q I rx ry ⟨z, i, c0, rfl, rfl, lst_ok hl, hz, q _ ρ H Ge.refl sr Rep.str⟩ hs
    · exact q.elim
  · exact q.elim
/-- e in x, x an own list of texts -/
def eOIn (neg : Bool) (i : Nat) (m : EM) : EM := fun env G => (m env G).bind fun e G1 => match e, oL i env with
  | .d (.str t), some xs => (match texts xs with
    | some zs => .ok (.d (.bl (zs.any (· == t) != neg))) G1
    | none => .st)
  | _, _ => .st
theorem oin_core {neg : Bool} {t : Str} {xs : List D} {zs : List Str} {vs : List V} {l : Addr} {Q : VK} (hi : texts xs = some zs) (hH : SqL X.K H l vs) (rr : All2 (Rep c M ρ H) xs vs) (q : ∀ v H', Same H H' → Rep c M ρ H' (.bl (zs.any (· == t) != neg)) v → Q v H') : rIn X.K neg (.str t) (.ref l) H Q := by
  have ev := texts_of hi rr
  subst ev
  refine ⟨l, _, rfl, .inl hH, rfl, flat_str _, ?_⟩
  rw [any_str]
  cases neg with
  | true => rw [if_pos rfl, show (!zs.any (· == t)) = (zs.any (· == t) != true) by cases zs.any (· == t) <;> rfl]; exact q _ _ same_refl .bl
  | false => rw [if_neg Bool.false_ne_true]; rw [show zs.any (· == t) = (zs.any (· == t) != false) by cases zs.any (· == t) <;> rfl]; exact q _ _ same_refl .bl
theorem oin_tq {neg : Bool} {i : Nat} {σ : L2.St} {H : Hp} {Q : VK} (q : tD c W (eOIn neg i ma) σ H Q) : tOp (rIn X.K neg) (tD c W ma) (tVar i) σ H Q := by
  obtain ⟨M, ρ, G, env, R, q⟩ := q
  refine ⟨M, ρ, G, env, R, (TQ.bind (R := RE c) q).imp fun v H1 ⟨ρ1, G1, e1, g1, s1, r1, q1⟩ => ?_⟩
  split at q1
  · rename_i t xs ho
    split at q1
    · rename_i zs hz
      obtain ⟨l, vs, hσ, hm, hr, hH, rr, put⟩ := rl_put R ho
      refine ⟨.ref l, hσ, ?_⟩
      rw [Rep.of_str r1]
      refine oin_core hz (SqL.of (g1.keep _ _ hH hr)) (reps_grow rr g1.gr) fun w H' sm rw' => ?_
      have e : Same H1 H' := sm
      exact q1.okS s1 sm rw'
    · exact q1.elim
  · exact q1.elim
theorem db_oin {i : Nat} {x : Str} (ha : DE X c W a ma) (hv : PE X (.Name x p2) (tVar i)) (hm : behindInMarks .In (.Name x p2) = false := by rfl) : DB X c W (.Compare a [.In] [.Name x p2] pos) (bOf isB (eOIn false i ma)) :=
  pt_imp (pt_cmpR op_in_seq ha hv hm) fun σ H Q q => by
    obtain ⟨M, ρ, G, env, R, q⟩ := q
    exact oin_tq ⟨M, ρ, G, env, R, (TQ.bind (R := RE c) q).imp fun v H1 ⟨ρ1, G1, e1, g1, s1, r1, q1⟩ => bl_of s1 r1 q1⟩
theorem db_onin {i : Nat} {x : Str} (ha : DE X c W a ma) (hv : PE X (.Name x p2) (tVar i)) (hm : behindInMarks .NotIn (.Name x p2) = false := by rfl) : DB X c W (.Compare a [.NotIn] [.Name x p2] pos) (bOf isB (eOIn true i ma)) :=
  pt_imp (pt_cmpR op_notIn_seq ha hv hm) fun σ H Q q => by
    obtain ⟨M, ρ, G, env, R, q⟩ := q
    exact oin_tq ⟨M, ρ, G, env, R, (TQ.bind (R := RE c) q).imp fun v H1 ⟨ρ1, G1, e1, g1, s1, r1, q1⟩ => bl_of s1 r1 q1⟩
end
end DL
set_option Elab.async false
set_option linter.all false
set_option maxRecDepth 100000
set_option maxHeartbeats 4000000
/-! cls(*xs) -/
namespace DL
open PySem L2 PyProof.Rows StX ClX
end DL
set_option Elab.async false
set_option linter.all false
set_option maxRecDepth 100000
set_option maxHeartbeats 4000000
/-! sorted of texts -/
namespace DL
open PySem PySem.Spec L2 PyProof.Rows StX ClX
def leS (a b : Str) : Bool := decide (a.cps.toList ≤ b.cps.toList)
def srtS (l : List Str) : List Str := l.mergeSort leS
theorem leS_trans (a b c : Str) (h : leS a b = true) (k : leS b c = true) : leS a c = true :=
  decide_eq_true (List.le_trans (of_decide_eq_true h) (of_decide_eq_true k))
theorem leS_total (a b : Str) : (leS a b || leS b a) = true := by
  rcases List.le_total a.cps.toList b.cps.toList with h | h
  · rw [leS, decide_eq_true h, Bool.true_or]
  · rw [show leS b a = true from decide_eq_true h, Bool.or_true]
theorem leS_anti (a b : Str) (h : leS a b = true) (k : leS b a = true) : a = b := by
  have e := List.le_antisymm (of_decide_eq_true h) (of_decide_eq_true k)
  cases a; cases b
  exact congrArg Str.mk (Array.toList_inj.mp e)
theorem srtS_perm (l : List Str) : (srtS l).Perm l := List.mergeSort_perm l leS
theorem srtS_pw (l : List Str) : (srtS l).Pairwise fun a b => leS a b = true := List.pairwise_mergeSort leS_trans leS_total l
theorem le_of_cps {a b : Str} (h : ltCps b.cps.toList a.cps.toList = false) : leS a b = true := by
  rw [ltCps_eq] at h
  exact decide_eq_true (List.not_lt.mp (of_decide_eq_false h))
theorem pw_rising : ∀ (l : List Str) (p : Str), risingS p l = true → (p :: l).Pairwise fun a b => leS a b = true
  | [], p, _ => List.pairwise_singleton _ _
  | x :: r, p, h => by
    have h' : (!ltCps x.cps.toList p.cps.toList && risingS x r) = true := h
    rw [Bool.and_eq_true] at h'
    have px : leS p x = true := le_of_cps (by simpa using h'.1)
    have ih := pw_rising r x h'.2
    refine List.pairwise_cons.mpr ⟨fun y hy => ?_, ih⟩
    rcases List.mem_cons.mp hy with rfl | hy
    · exact px
    · exact leS_trans _ _ _ px ((List.pairwise_cons.mp ih).1 y hy)
theorem srt_eq {xs ys : List Str} (h : ys.Perm xs) (s : sortedS ys = true) : ys = srtS xs := by
  have pw : ys.Pairwise fun a b => leS a b = true := by
    cases ys with
    | nil => exact List.Pairwise.nil
    | cons y r => exact pw_rising r y s
  exact List.Perm.eq_of_pairwise (fun a b _ _ => leS_anti a b) pw (srtS_pw xs) (h.trans (srtS_perm xs).symm)
section
variable {X : Cx} {c : RC}
def rSortedA (K : PySem.W.Frag) : List V → Hp → VK → Prop := fun vs H Q => ∃ (a : Addr) (xs : List Str), vs = [V.ref a] ∧ SqL K H a (xs.map V.str) ∧ xs.length ≤ sizeLine ∧ ∀ p : Addr, H p = none → Q (.ref p) (upd H p (.lst ((srtS xs).map V.str)))
theorem cr_sortedA : CallR X (.builtin "sorted") (rSortedA X.K) := by
  intro pins s σ H vs us Q I r h
  obtain ⟨a, xs, rfl, hs, hz, q⟩ := h
  obtain ⟨its, rv, hl, _⟩ := I.list hs
  rw [Vals.ref1 r]
  have len := rv.length
  rw [List.length_map] at len
  refine PyProof.Rows.sorted_strsAny hl.isList rv.strs (by rw [← len]; exact hz) fun out ys h1 h2 h3 => ?_
  obtain ⟨ep, he'⟩ := PyProof.Rows.sortedAll_at s.heap its out
  obtain rfl := srt_eq h2 h3
  have len2 : ((srtS xs).map V.str).length ≤ sizeLine := by rw [List.length_map, (srtS_perm xs).length_eq]; exact hz
  exact ⟨.ref _, upd H (s.heap.objs.size + 1) (.lst ((srtS xs).map V.str)), I.laid (t' := s.toks) (fun _ _ => PyProof.Rows.sortedAll_old) (Nat.le_succ _) ⟨len2, out.toList, ep, vals_of_strs h1, he'⟩, rfl, q _ (I.hok.fresh (Nat.le_succ _))⟩
theorem reps_str {M : Addr → Prop} {ρ : List Addr} {H : Hp} : ∀ l : List Str, All2 (Rep c M ρ H) (l.map DL.D.str) (l.map V.str)
  | [] => .nil
  | x :: l => .cons Rep.str (reps_str l)
def gSortS : List D → Option D
  | [.lst ds] => (txts ds).bind fun ss => if ss.length ≤ lstMax then some (.lst ((srtS ss).map .str)) else none
  | _ => none
def fSortS : FN := pureN gSortS
theorem dcall_sortS (hK : c.K = X.K) : CallR X (.builtin "sorted") (VN c fSortS) := callr_imp cr_sortedA fun vs H Q q0 => by
  obtain ⟨M, ρ, G, ds, z, s, r, hz, q⟩ := vn_pure q0
  clear q0
  unfold gSortS at hz
  split at hz
  · rename_i es
    cases r with
    | cons r t =>
      cases t
      cases ht : txts es with
      | none => rw [ht] at hz; cases hz
      | some ss =>
        rw [ht] at hz
        have hz' : (if ss.length ≤ lstMax then some (DL.D.lst ((srtS ss).map .str)) else none) = some z := hz
        split at hz'
        · rename_i hl
          cases hz'
          obtain ⟨p, us, rfl, zz, rr⟩ := r.of_lst
          have eu := txts_rep ht rr
          subst eu
          refine ⟨p, ss, rfl, by rw [← hK]; exact zz.sq, lst_ok hl, fun w hw => ?_⟩
          have sm : Same H (upd H w (.lst ((srtS ss).map V.str))) := same_upd hw
          exact q _ _ sm (Rep.lst (.inl ⟨s.fresh hw, .inl upd_same⟩) (reps_grow (reps_str (srtS ss)) (Gr.same sm)))
        · cases hz'
  · cases hz
end
end DL
set_option Elab.async false
set_option linter.all false
set_option maxRecDepth 100000
set_option maxHeartbeats 4000000
/-! sets of keys that can be walked: any kind of key -/
namespace DL
open PySem PySem.Spec L2 PyProof.Rows StX ClX
/-- one more key -/
def putL {K : Type} [DecidableEq K] (l : List K) (k : K) : List K := if k ∈ l then l else l ++ [k]
def ddp {K : Type} [DecidableEq K] (l : List K) : List K := l.foldl putL []
section
variable {P : Program} {w : World} {K : Type} [DecidableEq K] {knd : PySem.KeyKind P w K}
structure Ent (knd : PySem.KeyKind P w K) (k : K) (e : Int × Value) : Prop where
  is : knd.is k e.2 = true
  hash : e.1 = knd.hash k
  scan : e.2.scannable = true
/-- entries and a table for the keys l -/
structure KTab (knd : PySem.KeyKind P w K) (l : List K) (es : Array (Int × Value)) (t : SetTable) : Prop where
  ents : ∃ l0 : List K, l0.Perm l ∧ All2 (Ent knd) l0 es.toList
  nd : l.Nodup
  few : l.length < scanBound
  fits : t.fits es.size = true
  up : Ris t.place.toList
  led : w.params.followText "set-order" = true ∨ t.led = true
/-- the set at a -/
def KSet (knd : PySem.KeyKind P w K) (h : Heap) (a : Addr) (l : List K) : Prop := ∃ o es ep t, h.get? a = some o ∧ o.ExactSet ∧ o.data = .set es ep t ∧ KTab knd l es t
variable {l : List K} {es : Array (Int × Value)} {t : SetTable}
theorem KTab.size (T : KTab knd l es t) : es.size = l.length := by
  obtain ⟨l0, p, h⟩ := T.ents
  rw [← Array.length_toList, ← h.length, p.length_eq]
variable {A : Around} {E : Value → Shared → Prop} {s : Shared} {a : Addr}
end
end DL
set_option Elab.async false
set_option linter.all false
set_option maxRecDepth 100000
set_option maxHeartbeats 4000000
/-! set comprehensions of ints and texts, sorted of such a set -/
namespace DL
open PySem PySem.Spec L2 PyProof.Rows StX ClX PpSet
/-- the set of the keys l at a, as a tracked thing -/
def KSO (P : Program) (w : World) (a : Addr) (l : List Key) : HO := .ext fun h => KSet (mixKind P w) h a l
end DL
set_option Elab.async false
set_option linter.all false
set_option maxRecDepth 100000
set_option maxHeartbeats 4000000
/-! sorted of a set of texts; a set comprehension inside sorted -/
namespace DL
open PySem PySem.Spec L2 PyProof.Rows StX ClX PpSet
end DL
set_option Elab.async false
set_option linter.all false
set_option maxRecDepth 100000
set_option maxHeartbeats 4000000
/-! sorted({text for x in xs if ..}) -/
namespace DL
open PySem L2 PyProof.Rows StX ClX
section
variable {X : Cx} {c : RC} {W : WX} {elt e tg : Expr} {ifs : List Expr} {mr : LM} {mt : BM} {me : EM} {pos p : Pos} {M : Addr → Prop} {ρ : List Addr} {σ : L2.St} {H : Hp} {G : GS} {scope : Scope} {own : List (Str × Nat)} {k : Nat} {P : Program} {w : World}
/-- while the new set at D grows -/
structure KcI (P : Program) (w : World) (c : RC) (M : Addr → Prop) (ρ1 : List Addr) (H1 : Hp) (D : Addr) (ρ' : List Addr) (G' : GS) (envw : En) (σw : L2.St) (H : Hp) (done : List Str) : Prop where
  g : Ge M ρ1 H1 ρ' H
  nd : D ∉ ρ'
  s : SR c (fun a => M a ∨ a = D) ρ' G' H
  len : envw.length ≤ σw.length
  e : ∃ oa : Nat → Addr, (∀ (i : Nat) (sl : Sl), envw[i]? = some sl → SlR c (fun a => M a ∨ a = D) ρ' H oa σw i sl) ∧ (∀ (i j : Nat) (o u : OW), envw[i]? = some (.own o) → envw[j]? = some (.own u) → oa i = oa j → i = j) ∧ ∀ (i : Nat) (o : OW), envw[i]? = some (.own o) → oa i ≠ D
  at_ : H D = some (KSO P w D ((ddp done).map Sum.inr))
theorem KcI.r {ρ1 : List Addr} {H1 : Hp} {D : Addr} {ρ' : List Addr} {G' : GS} {envw : En} {σw : L2.St} {done : List Str} (L : KcI P w c M ρ1 H1 D ρ' G' envw σw H done) : Rl c (fun a => M a ∨ a = D) ρ' G' envw σw H :=
  let ⟨oa, h1, h2, _⟩ := L.e; ⟨L.s, L.len, oa, h1, h2⟩
end
end DL
set_option Elab.async false
set_option linter.all false
set_option maxRecDepth 100000
set_option maxHeartbeats 4000000
/-! sorted({text for x in xs if ..}): the rule -/
namespace DL
open PySem L2 PyProof.Rows StX ClX
end DL
set_option Elab.async false
set_option linter.all false
set_option maxRecDepth 100000
set_option maxHeartbeats 4000000
/-! set(xs) of a list or a tuple of keys; sorted(set(xs)) -/
namespace DL
open PySem PySem.Spec L2 PyProof.Rows StX ClX PpSet
end DL
set_option Elab.async false
set_option linter.all false
set_option maxRecDepth 100000
set_option maxHeartbeats 4000000
/-! sorted(set(xs)) of texts -/
namespace DL
open PySem PySem.Spec L2 PyProof.Rows StX ClX PpSet
end DL
set_option Elab.async false
set_option linter.all false
set_option maxRecDepth 100000
set_option maxHeartbeats 4000000
/-! starred arguments anywhere, of lists of the store too; makes with them -/
namespace DL
open PySem L2 PyProof.Rows StX ClX
def aStX (m : EM) (r : AM) : AM := fun env G => (m env G).bind fun x G1 => match x with
  | .d (.tup xs) => (r env G1).bind fun ys G2 => .ok (xs.map .d ++ ys) G2
  | .d (.lst xs) => (r env G1).bind fun ys G2 => .ok (xs.map .d ++ ys) G2
  | .o k => (match (G1[k]? : Option GO) with
    | some (GO.lst xs) => (r env G1).bind fun ys G2 => .ok (xs ++ ys) G2
    | _ => .st)
  | _ => .st
section
variable {X : Cx} {c : RC} {W : WX} {e e2 : Expr} {es : List Expr} {me : EM} {mr : AM} {pos p sp_ : Pos}
variable {x : Str} {cl : String} {A : Ar} {g : IM} {k i : Nat} {f : Addr}
/-- what a make with all of a list or a tuple needs -/
theorem star_tdX {M : Addr → Prop} {ρ : List Addr} {G : GS} {env : En} {σ : L2.St} {H : Hp} {Q : VK} (hK : c.K = X.K) (R : Rl c M ρ G env σ H) (q : TQ (RE c) c W M ρ σ H (eMake cl A g (aStX me aNil) env G) Q) :
    tD c W me σ H fun y H1 => ∃ a xs, y = V.ref a ∧ (SqT X.K H1 a xs ∨ SqL X.K H1 a xs) ∧ ∀ x dx, H1 x = Option.none → H1 dx = Option.none → dx ≠ x → SpI c.K c.C c.N cl A g (V.ref x :: xs) (upd (upd H1 dx (.own x)) x (.ins (c.C cl) dx [])) (fun v H2 => v = .non ∧ Q (.ref x) H2) (WE W σ) := by
  refine ⟨M, ρ, G, env, R, ?_⟩
  have q' := TQ.bind (R := RA c) q
  refine (TQ.bind (R := RE c) q').imp fun v H1 ⟨ρ1, G1, e1, g1, s1, r1, q1⟩ => ?_
  rw [← hK]
  have go : ∀ {xs : List EV} {vs : List V}, All2 (RepE c M ρ1 H1) xs vs → TQ (RA c) c W M ρ1 σ H1 ((aNil env G1).bind fun ys G2 => .ok (xs ++ ys) G2) (fun vs H2 => ∃ ρ2 G2 e2, Ge M ρ H ρ2 H2 ∧ SR c M ρ2 G2 H2 ∧ RA c M ρ2 H2 e2 vs ∧ TQ (RE c) c W M ρ2 σ H2 (if A e2.length = true then mkO cl (g e2 G2) else .st) Q) →
      ∀ x dx, H1 x = Option.none → H1 dx = Option.none → dx ≠ x → SpI c.K c.C c.N cl A g (V.ref x :: vs) (upd (upd H1 dx (.own x)) x (.ins (c.C cl) dx [])) (fun v H2 => v = .non ∧ Q (.ref x) H2) (WE W σ) := fun {xs vs} rr q1 x dx hx hd hne => by
    obtain ⟨ρ2, G2, e2, g2, s2, r2, q2⟩ := q1 vs ρ1 H1 Ge.refl s1 (by rw [List.append_nil]; exact rr)
    exact spi_of s2 r2 q2 hx hd hne
  split at q1
  · rename_i xs
    obtain ⟨a, vs, rfl, z, rr⟩ := Rep.of_tup r1
    exact ⟨a, vs, rfl, .inl z.sq, go (map_d rr) q1⟩
  · rename_i xs
    obtain ⟨a, vs, rfl, z, rr⟩ := Rep.of_lst r1
    exact ⟨a, vs, rfl, .inr z.sq, go (map_d rr) q1⟩
  · rename_i k
    split at q1
    · rename_i xs hk
      obtain ⟨a, ha, rfl⟩ := r1
      obtain ⟨b, vs, hb, hL, rr⟩ := s1.at_ k xs hk
      rw [ha] at hb
      cases hb
      exact ⟨a, vs, rfl, .inr (.inl (.inl hL)), go rr q1⟩
    · exact q1.elim
  · exact q1.elim
theorem de_makeSX {sp_ : Pos} (Mc : Mk X.K (c.C cl) f) (F : FnI X.prog X.w X.K X.mg X.base c.C c.N k f cl A g) (hK : c.K = X.K) (hr : Room (k + 1) X.A) (hg : Gl X x) (hm : X.mg x = some (.ref (c.C cl))) (tk : L2N.Takes X W) (he : DE X c W e me) (hdb : (x == ("__debug__" : Str)) = false := by decide)
    (hst : starEach [.Starred e sp_] X.env = [(true, eval e X.env)] := by rfl) : DE X c W (.Call (.Name x p) [.Starred e sp_] [] pos) (eMake cl A g (aStX me aNil)) := by
  refine ⟨fun pins s σ H Q I h => ?_⟩
  refine wpAny_Call_Name_kw (ld_glob I hg hm ?_ hdb)
  obtain ⟨M, ρ, G, env, R, q⟩ := h
  refine PySem.W.callWith_S (h₀ := X.base) I.ok.mod.kin Mc.kp (thn (PE.run he pins s σ H _ I (star_tdX hK R q)) fun v s1 ⟨y, H1, I1, ry, a, xs, ey, hxs, q⟩ => ?_) hst
  subst ey
  obtain rfl : v = Value.ref a := ry
  refine star_any I1 hxs fun us s2 I2 rv => ⟨I2.kIn, ?_⟩
  rw [hK] at q
  exact run_makeA Mc F hr (L2N.passAt tk σ) I2 rv q
end
end DL
set_option Elab.async false
set_option linter.all false
set_option maxRecDepth 100000
set_option maxHeartbeats 4000000
/-! append to a list of the store -/
namespace DL
open PySem L2 PyProof.Rows StX ClX
end DL
set_option Elab.async false
set_option linter.all false
set_option maxRecDepth 100000
set_option maxHeartbeats 4000000
/-! x[i], x of an own class -/
namespace DL
open PySem L2 PyProof.Rows StX ClX
def eGetO (cl : String) (A : Ar) (g : FM) (mo mi : EM) : EM := fun env G => (mo env G).bind fun x G1 => (mi env G1).bind fun y G2 => match x with
  | .d (.ins k fs) => if k = cl ∧ A 2 = true then g [.d (.ins k fs), y] G2 else .st
  | _ => .st
end DL
set_option Elab.async false
set_option linter.all false
set_option maxRecDepth 100000
set_option maxHeartbeats 4000000
/-! slices of lists, tuples, texts in one rule -/
namespace DL
open PySem L2 PyProof.Rows StX ClX
def slD : DL.D → Option Int → Option Int → Option DL.D
  | .lst xs, l, h => some (.lst (cutL xs l h))
  | .tup xs, l, h => some (.tup (cutL xs l h))
  | .str z, l, h => if z.length ≤ lstMax then some (.str (cutS z l h)) else none
  | _, _, _ => none
def eSlA (m : EM) (lo hi : OM) : EM := fun env G => (m env G).bind fun x G1 => (lo env G1).bind fun l G2 => (hi env G2).bind fun h G3 => match x with
  | .d x => (match slD x l h with
    | some y => .ok (.d y) G3
    | none => .st)
  | _ => .st
end DL
set_option Elab.async false
set_option linter.all false
set_option maxRecDepth 100000
set_option maxHeartbeats 4000000
/-! tuple == tuple of own instances whose data differ at any depth -/
namespace DL
open PySem PySem.Spec L2 PyProof.Rows StX ClX
end DL
set_option Elab.async false
set_option linter.all false
set_option maxRecDepth 100000
set_option maxHeartbeats 4000000
/-! enumerate of a list or a tuple; pairs as targets of for and of a comprehension -/
namespace DL
open PySem PySem.Spec L2 PyProof.Rows StX ClX
/-! ### what is walked, pair by pair -/
end DL
set_option Elab.async false
set_option linter.all false
set_option maxRecDepth 100000
set_option maxHeartbeats 4000000
/-! for x, y in ..; [.. for x, y in ..] -/
namespace DL
open PySem L2 PyProof.Rows StX ClX
end DL
set_option Elab.async false
set_option linter.all false
set_option maxRecDepth 100000
set_option maxHeartbeats 4000000
/-! own errors of two fields -/
namespace DL
open PySem L2 PyProof.Rows NdefX
end DL
set_option Elab.async false
set_option linter.all false
set_option maxRecDepth 100000
set_option maxHeartbeats 4000000
/-! tuple * int, list * int -/
namespace DL
open PySem PySem.Spec L2 PyProof.Rows StX ClX
end DL
set_option Elab.async false
set_option linter.all false
set_option maxRecDepth 100000
set_option maxHeartbeats 4000000
/-! texts: count, times a number, turned about -/
namespace DL
open PySem PySem.Spec L2 PyProof.Rows StX ClX
end DL
set_option Elab.async false
set_option linter.all false
set_option maxRecDepth 100000
set_option maxHeartbeats 4000000
/-! classmethods called with keywords -/
namespace DL
open PySem L2 PyProof.Rows StX ClX
end DL
set_option Elab.async false
set_option linter.all false
set_option maxRecDepth 100000
set_option maxHeartbeats 4000000
/-! lists of the store: copied, compared, sorted(set(..)) -/
namespace DL
open PySem PySem.Spec L2 PyProof.Rows StX ClX PpSet
end DL
set_option Elab.async false
set_option linter.all false
set_option maxRecDepth 100000
set_option maxHeartbeats 4000000
/-! zip of two tuples, of two texts; pairs as targets -/
namespace DL
open PySem PySem.Spec L2 PyProof.Rows StX ClX
/-! ### over D -/
end DL
set_option Elab.async false
set_option linter.all false
set_option maxRecDepth 100000
set_option maxHeartbeats 4000000
/-! own signs that may raise -/
namespace DL
open PySem L2 PyProof.Rows StX ClX
end DL
set_option Elab.async false
set_option linter.all false
set_option maxRecDepth 100000
set_option maxHeartbeats 4000000
/-! a chain of two comparisons; tuple(x) of a list of the store -/
namespace DL
open PySem L2 PyProof.Rows StX ClX
end DL
set_option Elab.async false
set_option linter.all false
set_option maxRecDepth 100000
set_option maxHeartbeats 4000000
/-! sorted(xs, key=f) over the layer's states: f may lay new objects and calls what it likes, but raises nothing -/
namespace DL
open PySem PySem.Spec L2 PyProof.Rows StX ClX
/-! ### in the layer's states -/
end DL
set_option Elab.async false
set_option linter.all false
set_option maxRecDepth 100000
set_option maxHeartbeats 4000000
/-! sorted(xs, key=f): f a def of the module, or a lambda of one parameter that captures nothing -/
namespace DL
open PySem PySem.Spec L2 PyProof.Rows StX ClX
end DL
set_option Elab.async false
set_option linter.all false
set_option maxRecDepth 100000
set_option maxHeartbeats 4000000
/-! sorted(xs, key=lambda x: ..) -/
namespace DL
open PySem PySem.Spec L2 PyProof.Rows StX ClX LamX
end DL
set_option Elab.async false
set_option linter.all false
set_option maxRecDepth 100000
set_option maxHeartbeats 4000000
/-! the law's end where the store begins with tables of lambdas; a def's rule with its code object told -/
namespace DL
open PySem PySem.Spec L2 PyProof.Rows StX ClX LamX
end DL
set_option Elab.async false
set_option linter.all false
set_option maxRecDepth 100000
set_option maxHeartbeats 4000000
/-! a tuple of the module's top, by its name -/
namespace DL
open PySem PySem.Spec L2 PyProof.Rows StX ClX LamX
end DL
set_option Elab.async false
set_option linter.all false
set_option maxRecDepth 100000
set_option maxHeartbeats 4000000
/-! list(reversed(x)), x a list -/
namespace DL
open PySem PySem.Spec L2 PyProof.Rows StX ClX
end DL
set_option Elab.async false
set_option linter.all false
set_option maxRecDepth 100000
set_option maxHeartbeats 4000000
/-! x.split(y), x and y texts, y not empty -/
namespace DL
open PySem PySem.Spec L2 PyProof.Rows StX ClX
end DL
set_option Elab.async false
set_option linter.all false
set_option maxRecDepth 100000
set_option maxHeartbeats 4000000
/-! Own errors of no field: made, raised; except clauses without a name. -/
namespace DL
open PySem L2 PyProof.Rows NdefX
/-! ### except clauses without a name -/
end DL
set_option Elab.async false
set_option linter.all false
set_option maxRecDepth 100000
set_option maxHeartbeats 4000000
/-! sorted of numbers (a list, a tuple); list(range(n)) -/
namespace DL
open PySem PySem.Spec L2 PyProof.Rows StX ClX
/-! ### list(range(n)) -/
/-! ### walked: a list or a tuple -/
/-! ### == of two lists -/
/-! ### sorted of numbers -/
end DL
set_option Elab.async false
set_option linter.all false
set_option maxRecDepth 100000
set_option maxHeartbeats 4000000
/-! staticmethods of a class; the order of texts; a def that calls itself -/
namespace DL
open PySem PySem.Spec L2 PyProof.Rows StX ClX
/-- C.m is a staticmethod: its record at p, its def at g -/
structure SMet (K : PySem.W.Frag) (C : Addr) (m : Str) (p g : Addr) : Prop where
  at_ : PySem.W.findCls K (.ref C) (.type "type") m = some (.get (.builtin "staticmethod.__get__") (.ref p) .none (.ref C))
  rc : ∃ rest, PySem.W.recIn K p "staticmethod" = some (.ref g :: rest)
  hd : PySem.W.handedIn (.ref g) = true
  kp : PySem.W.keepIn K (.ref g) = true
section
variable {X : Cx} {c : RC} {W : WX} {e : Expr} {es : List Expr} {mr : AM} {p p' apos pos : Pos} {m : Str} {lv : Nat} {pl : Sem Bool}
theorem de_smeth {x : Str} {cl : String} {pr gf : Addr} {A : Ar} {g : FM} (hK : c.K = X.K) (hg : Gl X x) (hm : X.mg x = some (.ref (c.C cl))) (r : CRead X.K (c.C cl) (.type "type")) (sm : SMet X.K (c.C cl) m pr gf) (F : FnG X.prog X.w X.K X.mg X.base c.C c.N lv gf A g) (hr : Room lv X.A) (tk : L2N.Takes X W) (ha : DA X c W (e :: es) mr)
    (hdb : (x == ("__debug__" : Str)) = false := by decide) (hst : starEach (e :: es) X.env = (false, eval e X.env) :: starEach es X.env := by rfl) (hpl : (backTo pos (starEach es X.env)).any (·.1) = false := by rfl)
    (ht : MRow X (.Name x p') m apos (e :: es) pos pl := by rfl) :
    DE X c W (.Call (.Attribute (.Name x p') m apos) (e :: es) [] pos) (eCall A g mr) := by
  refine ⟨fun pins s σ H Q I q => ?_⟩
  refine PySem.W.methodCall_KW (pl := pl) (ld_glob I hg hm ?_ hdb) ht
  obtain ⟨rest, hp⟩ := sm.rc
  refine PySem.W.method_cls I.kIn r.ga (PySem.W.cls_bind I.kIn r.rd sm.at_ (wpAny_call (PySem.W.sm_get (s := { s with toks := s.toks + 1 }) I.kIn hp (PySem.W.handed_on sm.hd ?_))))
  have I2 : Inv X pins σ H { s with toks := s.toks + 1 } := I.tok _
  obtain ⟨M, ρ, G, env, R, q⟩ := q
  have h' : tDA c W mr σ H fun vs H1 => Spd c.K c.C c.N A g vs H1 Q (WE W σ) := ⟨M, ρ, G, env, R, (TQ.bind (R := RA c) q).imp fun v H1 ⟨ρ1, G1, e1, g1, s1, r1, q1⟩ => spd_of s1 r1 q1⟩
  refine PySem.W.callWith_K (h₀ := X.base) I2.ok.mod.kin sm.kp (thn (PA.run ha pos pins _ σ H _ I2 h') fun us s1 ⟨vs, H1, I1, r, q⟩ => ⟨I1.kIn, ?_⟩) hst hpl
  rw [hK] at q
  exact wpAny_call (run_fnA F hr (L2N.passAt tk σ) I1 r q)
end
def gLeS : D → D → Option D
  | .str i, .str j => some (.bl (!decide (j.cps.toList < i.cps.toList)))
  | _, _ => none
def fLeS : F2 := pure2 gLeS
section
variable {c : RC} {X : Cx}
theorem dop_leS : OpR X (compareOp .LtE) (V2 c fLeS) := opr_imp op_le_str fun x y H Q q => by
  obtain ⟨M, ρ, G, a, b, z, s, ra, rb, hz, q⟩ := v2_pure q
  cases a <;> cases b <;> first | (cases hz; done) | skip
  injection hz with hz
  cases hz
  exact ⟨_, _, ra.of_str, rb.of_str, q _ _ same_refl .bl⟩
/-- a body that is never reached -/
theorem dss_st {W : WX} {b : List Stmt} : DSs X c W b (fun _ _ => .st) := ⟨fun pins s σ H D I h => by
  obtain ⟨M, ρ, G, env, R, q⟩ := h
  exact q.elim⟩
end
end DL
set_option Elab.async false
set_option linter.all false
set_option maxRecDepth 100000
set_option maxHeartbeats 4000000
namespace K29
open PySem L2 PyProof.Rows StX ClX DL
/-! printed by gen.py from the linked text -/
def top (i : Nat) : Stmt := PySem.Challenge.pw_laidink_k29_plain_charts.main.body.getD i (.Pass ⟨0, 0, 0, 0⟩)
def NN : String → List Str := fun k => if k = "Light" then ["bands", "number"] else if k = "Film" then ["bare", "inked"] else if k = "Ink" then ["off", "on", "takes"] else if k = "Filter" then ["off", "on", "takes"] else if k = "Bleach" then ["off", "on", "takes"] else if k = "Chart" then ["mask", "leaf", "when_shut", "when_open"] else []
theorem boot_bool : bootBuiltins "bool" = some (.type "bool") := by decide +kernel
theorem boot_int : bootBuiltins "int" = some (.type "int") := by decide +kernel
theorem boot_isinstance : bootBuiltins "isinstance" = some (.builtin "isinstance") := by decide +kernel
theorem boot_len : bootBuiltins "len" = some (.builtin "len") := by decide +kernel
theorem boot_sorted : bootBuiltins "sorted" = some (.builtin "sorted") := by decide +kernel
theorem boot_tuple : bootBuiltins "tuple" = some (.type "tuple") := by decide +kernel
abbrev s__law_box : Stmt := top 25
abbrev s__law_draw : Stmt := top 24
abbrev s__law_name : Stmt := top 26
abbrev s__law_names : Stmt := top 27
abbrev s__law_tree : Stmt := top 29
abbrev s_Chart___eq__ : Stmt := inClass (top 17) 7
abbrev s_Light___eq__ : Stmt := inClass (top 8) 11
abbrev s_Film___eq__ : Stmt := inClass (top 13) 6
abbrev s__law_made : Stmt := top 30
abbrev s_Chart___init__ : Stmt := inClass (top 17) 0
abbrev s_Chart_end : Stmt := inClass (top 17) 1
abbrev s_check_band : Stmt := top 9
abbrev s__bands_of : Stmt := top 10
abbrev s_Light___init__ : Stmt := inClass (top 8) 1
abbrev s_Film___init__ : Stmt := inClass (top 13) 0
abbrev s_Film_nothing : Stmt := inClass (top 13) 1
abbrev s_Ink_film : Stmt := inClass (top 20) 3
abbrev s__light : Stmt := top 11
abbrev s_Light___and__ : Stmt := inClass (top 8) 6
abbrev s_Light___bool__ : Stmt := inClass (top 8) 13
abbrev s_Ink___init__ : Stmt := inClass (top 20) 1
abbrev s_Chart_fork : Stmt := inClass (top 17) 2
abbrev s__law_is : Stmt := top 28
abbrev s__law_plain : Stmt := top 31
abbrev s__is_plain_behind : Stmt := top 18
abbrev s_Chart_is_plain : Stmt := inClass (top 17) 6
abbrev s_law : Stmt := top 32
abbrev s_Bleach___init__ : Stmt := inClass (top 22) 0
abbrev s_Filter___init__ : Stmt := inClass (top 21) 0
noncomputable section
structure Tx (P : Program) (K : PySem.W.Frag) (mg : Str → Option Value) (C A : String → Addr) (FD : String → FuncData) : Prop where
  F__law_box : Fun K "_law_box" "_law_box" s__law_box (A "_law_box") (FD "_law_box")
  M__law_box : mg "_law_box" = some (.ref (A "_law_box"))
  F__law_draw : Fun K "_law_draw" "_law_draw" s__law_draw (A "_law_draw") (FD "_law_draw")
  M__law_draw : mg "_law_draw" = some (.ref (A "_law_draw"))
  F__law_name : Fun K "_law_name" "_law_name" s__law_name (A "_law_name") (FD "_law_name")
  M__law_name : mg "_law_name" = some (.ref (A "_law_name"))
  F__law_names : Fun K "_law_names" "_law_names" s__law_names (A "_law_names") (FD "_law_names")
  M__law_names : mg "_law_names" = some (.ref (A "_law_names"))
  F__law_tree : Fun K "_law_tree" "_law_tree" s__law_tree (A "_law_tree") (FD "_law_tree")
  M__law_tree : mg "_law_tree" = some (.ref (A "_law_tree"))
  F_Chart___eq__ : Fun K "__eq__" "Chart.__eq__" s_Chart___eq__ (A "Chart.__eq__") (FD "Chart.__eq__")
  F_Light___eq__ : Fun K "__eq__" "Light.__eq__" s_Light___eq__ (A "Light.__eq__") (FD "Light.__eq__")
  F_Film___eq__ : Fun K "__eq__" "Film.__eq__" s_Film___eq__ (A "Film.__eq__") (FD "Film.__eq__")
  F__law_made : Fun K "_law_made" "_law_made" s__law_made (A "_law_made") (FD "_law_made")
  M__law_made : mg "_law_made" = some (.ref (A "_law_made"))
  F_Chart___init__ : Fun K "__init__" "Chart.__init__" s_Chart___init__ (A "Chart.__init__") (FD "Chart.__init__")
  F_Chart_end : Fun K "end" "Chart.end" s_Chart_end (A "Chart.end") (FD "Chart.end")
  F_check_band : Fun K "check_band" "check_band" s_check_band (A "check_band") (FD "check_band")
  M_check_band : mg "check_band" = some (.ref (A "check_band"))
  F__bands_of : Fun K "_bands_of" "_bands_of" s__bands_of (A "_bands_of") (FD "_bands_of")
  M__bands_of : mg "_bands_of" = some (.ref (A "_bands_of"))
  F_Light___init__ : Fun K "__init__" "Light.__init__" s_Light___init__ (A "Light.__init__") (FD "Light.__init__")
  b_Light___init__ : BindS (FD "Light.__init__") ["self"] "bands"
  F_Film___init__ : Fun K "__init__" "Film.__init__" s_Film___init__ (A "Film.__init__") (FD "Film.__init__")
  F_Film_nothing : Fun K "nothing" "Film.nothing" s_Film_nothing (A "Film.nothing") (FD "Film.nothing")
  F_Ink_film : Fun K "film" "Ink.film" s_Ink_film (A "Ink.film") (FD "Ink.film")
  F__light : Fun K "_light" "_light" s__light (A "_light") (FD "_light")
  M__light : mg "_light" = some (.ref (A "_light"))
  F_Light___and__ : Fun K "__and__" "Light.__and__" s_Light___and__ (A "Light.__and__") (FD "Light.__and__")
  F_Light___bool__ : Fun K "__bool__" "Light.__bool__" s_Light___bool__ (A "Light.__bool__") (FD "Light.__bool__")
  F_Ink___init__ : Fun K "__init__" "Ink.__init__" s_Ink___init__ (A "Ink.__init__") (FD "Ink.__init__")
  F_Chart_fork : Fun K "fork" "Chart.fork" s_Chart_fork (A "Chart.fork") (FD "Chart.fork")
  F__law_is : Fun K "_law_is" "_law_is" s__law_is (A "_law_is") (FD "_law_is")
  M__law_is : mg "_law_is" = some (.ref (A "_law_is"))
  F__law_plain : Fun K "_law_plain" "_law_plain" s__law_plain (A "_law_plain") (FD "_law_plain")
  M__law_plain : mg "_law_plain" = some (.ref (A "_law_plain"))
  F__is_plain_behind : Fun K "_is_plain_behind" "_is_plain_behind" s__is_plain_behind (A "_is_plain_behind") (FD "_is_plain_behind")
  M__is_plain_behind : mg "_is_plain_behind" = some (.ref (A "_is_plain_behind"))
  F_Chart_is_plain : Fun K "is_plain" "Chart.is_plain" s_Chart_is_plain (A "Chart.is_plain") (FD "Chart.is_plain")
  F_law : Fun K "law" "law" s_law (A "law") (FD "law")
  M_law : mg "law" = some (.ref (A "law"))
  M_Bleach : mg "Bleach" = some (.ref (C "Bleach"))
  M_Chart : mg "Chart" = some (.ref (C "Chart"))
  M_Film : mg "Film" = some (.ref (C "Film"))
  M_Filter : mg "Filter" = some (.ref (C "Filter"))
  M_Ink : mg "Ink" = some (.ref (C "Ink"))
  M_Light : mg "Light" = some (.ref (C "Light"))
  cl_Bleach : Cls K (C "Bleach")
  cl_Chart : Cls K (C "Chart")
  cl_Film : Cls K (C "Film")
  cl_Filter : Cls K (C "Filter")
  cl_Ink : Cls K (C "Ink")
  cl_Light : Cls K (C "Light")
  na_Bleach_off : NoAttr K (C "Bleach") "off"
  na_Bleach_on : NoAttr K (C "Bleach") "on"
  na_Bleach_takes : NoAttr K (C "Bleach") "takes"
  na_Chart_leaf : NoAttr K (C "Chart") "leaf"
  na_Chart_mask : NoAttr K (C "Chart") "mask"
  na_Chart_when_open : NoAttr K (C "Chart") "when_open"
  na_Chart_when_shut : NoAttr K (C "Chart") "when_shut"
  na_Film_bare : NoAttr K (C "Film") "bare"
  na_Film_inked : NoAttr K (C "Film") "inked"
  na_Filter_off : NoAttr K (C "Filter") "off"
  na_Filter_on : NoAttr K (C "Filter") "on"
  na_Filter_takes : NoAttr K (C "Filter") "takes"
  na_Ink_off : NoAttr K (C "Ink") "off"
  na_Ink_on : NoAttr K (C "Ink") "on"
  na_Ink_takes : NoAttr K (C "Ink") "takes"
  na_Light_bands : NoAttr K (C "Light") "bands"
  na_Light_number : NoAttr K (C "Light") "number"
  mk_Bleach : Mk K (C "Bleach") (A "Bleach.__init__")
  mk_Chart : Mk K (C "Chart") (A "Chart.__init__")
  mk_Film : Mk K (C "Film") (A "Film.__init__")
  mk_Filter : Mk K (C "Filter") (A "Filter.__init__")
  mk_Light : Mk K (C "Light") (A "Light.__init__")
  me_Bleach_film : Meth K (C "Bleach") "film" (A "Ink.film")
  me_Chart_is_plain : Meth K (C "Chart") "is_plain" (A "Chart.is_plain")
  me_Filter_film : Meth K (C "Filter") "film" (A "Ink.film")
  me_Ink_film : Meth K (C "Ink") "film" (A "Ink.film")
  cr_Chart : ClX.CRead K (C "Chart") (.type "type")
  cr_Film : ClX.CRead K (C "Film") (.type "type")
  cr_Ink : ClX.CRead K (C "Ink") (.type "type")
  cr_Light : ClX.CRead K (C "Light") (.type "type")
  cm_Film_nothing : ∃ p, ClX.CMet K (C "Film") (.type "type") "nothing" p (A "Film.nothing")
  sm_Chart_end : ∃ p, SMet K (C "Chart") "end" p (A "Chart.end")
  sm_Chart_fork : ∃ p, SMet K (C "Chart") "fork" p (A "Chart.fork")
  cv_Light_BANDS : ∃ u, ClX.CVal K (C "Light") (.type "type") "BANDS" (.int 6) u
  ct_Ink_TAKES : TupC K (C "Ink") "TAKES" [("any" : Str), ("bare" : Str), ("inked" : Str)]
  sf_Chart___eq__ : PySem.W.selfFirst K (C "Chart") = true
  ow_Chart___eq__ : PySem.W.findIn K (.ref (C "Chart")) "__eq__" = some (some (.ref (A "Chart.__eq__")))
  fn_Chart___eq__ : PySem.W.isFn K (.ref (A "Chart.__eq__")) = true
  sf_Film___eq__ : PySem.W.selfFirst K (C "Film") = true
  ow_Film___eq__ : PySem.W.findIn K (.ref (C "Film")) "__eq__" = some (some (.ref (A "Film.__eq__")))
  fn_Film___eq__ : PySem.W.isFn K (.ref (A "Film.__eq__")) = true
  sf_Light___and__ : PySem.W.selfFirst K (C "Light") = true
  ow_Light___and__ : PySem.W.findIn K (.ref (C "Light")) "__and__" = some (some (.ref (A "Light.__and__")))
  fn_Light___and__ : PySem.W.isFn K (.ref (A "Light.__and__")) = true
  sf_Light___bool__ : PySem.W.selfFirst K (C "Light") = true
  ow_Light___bool__ : PySem.W.findIn K (.ref (C "Light")) "__bool__" = some (some (.ref (A "Light.__bool__")))
  fn_Light___bool__ : PySem.W.isFn K (.ref (A "Light.__bool__")) = true
  sf_Light___eq__ : PySem.W.selfFirst K (C "Light") = true
  ow_Light___eq__ : PySem.W.findIn K (.ref (C "Light")) "__eq__" = some (some (.ref (A "Light.__eq__")))
  fn_Light___eq__ : PySem.W.isFn K (.ref (A "Light.__eq__")) = true
  nf_Chart_own_Film : PySem.W.notFirst K (C "Chart") (.ref (C "Film")) = true
  nf_Chart_own_Chart : PySem.W.notFirst K (C "Chart") (.ref (C "Chart")) = true
  nf_Film_own_Film : PySem.W.notFirst K (C "Film") (.ref (C "Film")) = true
  nf_Film_own_Chart : PySem.W.notFirst K (C "Film") (.ref (C "Chart")) = true
  ic_Chart : IsiC K (C "Chart")
  ic_Film : IsiC K (C "Film")
  ic_Light : IsiC K (C "Light")
  ik : IsiK K
  it_own_Light_own_Light : PySem.W.kitOne K (.ref (C "Light")) (.ref (C "Light")) = some true
  it_own_Film_own_Film : PySem.W.kitOne K (.ref (C "Film")) (.ref (C "Film")) = some true
  it_own_Chart_own_Chart : PySem.W.kitOne K (.ref (C "Chart")) (.ref (C "Chart")) = some true
  it_own_Film_own_Chart : PySem.W.kitOne K (.ref (C "Film")) (.ref (C "Chart")) = some false
  it_ty_bool_ty_bool : PySem.W.kitOne K (.type "bool") (.type "bool") = some true
  no_bool : mg "bool" = none
  no_int : mg "int" = none
  no_isinstance : mg "isinstance" = none
  no_len : mg "len" = none
  no_range : mg "range" = none
  no_sorted : mg "sorted" = none
  no_super : mg "super" = none
  no_tuple : mg "tuple" = none
  su_Bleach : SupI P K mg (C "Bleach") (A "Bleach.__init__") (FD "Bleach.__init__") s_Bleach___init__ "Bleach.__init__" "self" (A "Ink.__init__")
  kbs_Bleach : KBn K (FD "Bleach.__init__") ["self", "light", "takes"] 2 ["takes"] (· ++ ·) (· ++ ·)
  su_Filter : SupI P K mg (C "Filter") (A "Filter.__init__") (FD "Filter.__init__") s_Filter___init__ "Filter.__init__" "self" (A "Ink.__init__")
  kbs_Filter : KBn K (FD "Filter.__init__") ["self", "light", "takes"] 2 ["takes"] (· ++ ·) (· ++ ·)
  bd_Bleach___init__ : ∃ ds, Vals [.str "any"] ds ∧ Binds K (FD "Bleach.__init__") ["self", "light", "takes"] ds
  bd_Filter___init__ : ∃ ds, Vals [.str "any"] ds ∧ Binds K (FD "Filter.__init__") ["self", "light", "takes"] ds
section
variable {P : Program} {w : World} {K : PySem.W.Frag} {mg : Str → Option Value} {base : Heap} {C A : String → Addr} {FD : String → FuncData}
theorem hf_Bleach_off (T : Tx P K mg C A FD) : HasF K C NN "off" "Bleach" 0 := ⟨T.cl_Bleach, T.na_Bleach_off, by decide +kernel⟩
theorem hf_Bleach_on (T : Tx P K mg C A FD) : HasF K C NN "on" "Bleach" 1 := ⟨T.cl_Bleach, T.na_Bleach_on, by decide +kernel⟩
theorem hf_Bleach_takes (T : Tx P K mg C A FD) : HasF K C NN "takes" "Bleach" 2 := ⟨T.cl_Bleach, T.na_Bleach_takes, by decide +kernel⟩
theorem hf_Chart_leaf (T : Tx P K mg C A FD) : HasF K C NN "leaf" "Chart" 1 := ⟨T.cl_Chart, T.na_Chart_leaf, by decide +kernel⟩
theorem hf_Chart_mask (T : Tx P K mg C A FD) : HasF K C NN "mask" "Chart" 0 := ⟨T.cl_Chart, T.na_Chart_mask, by decide +kernel⟩
theorem hf_Chart_when_open (T : Tx P K mg C A FD) : HasF K C NN "when_open" "Chart" 3 := ⟨T.cl_Chart, T.na_Chart_when_open, by decide +kernel⟩
theorem hf_Chart_when_shut (T : Tx P K mg C A FD) : HasF K C NN "when_shut" "Chart" 2 := ⟨T.cl_Chart, T.na_Chart_when_shut, by decide +kernel⟩
theorem hf_Film_bare (T : Tx P K mg C A FD) : HasF K C NN "bare" "Film" 0 := ⟨T.cl_Film, T.na_Film_bare, by decide +kernel⟩
theorem hf_Film_inked (T : Tx P K mg C A FD) : HasF K C NN "inked" "Film" 1 := ⟨T.cl_Film, T.na_Film_inked, by decide +kernel⟩
theorem hf_Filter_off (T : Tx P K mg C A FD) : HasF K C NN "off" "Filter" 0 := ⟨T.cl_Filter, T.na_Filter_off, by decide +kernel⟩
theorem hf_Filter_on (T : Tx P K mg C A FD) : HasF K C NN "on" "Filter" 1 := ⟨T.cl_Filter, T.na_Filter_on, by decide +kernel⟩
theorem hf_Filter_takes (T : Tx P K mg C A FD) : HasF K C NN "takes" "Filter" 2 := ⟨T.cl_Filter, T.na_Filter_takes, by decide +kernel⟩
theorem hf_Ink_off (T : Tx P K mg C A FD) : HasF K C NN "off" "Ink" 0 := ⟨T.cl_Ink, T.na_Ink_off, by decide +kernel⟩
theorem hf_Ink_on (T : Tx P K mg C A FD) : HasF K C NN "on" "Ink" 1 := ⟨T.cl_Ink, T.na_Ink_on, by decide +kernel⟩
theorem hf_Ink_takes (T : Tx P K mg C A FD) : HasF K C NN "takes" "Ink" 2 := ⟨T.cl_Ink, T.na_Ink_takes, by decide +kernel⟩
theorem hf_Light_bands (T : Tx P K mg C A FD) : HasF K C NN "bands" "Light" 0 := ⟨T.cl_Light, T.na_Light_bands, by decide +kernel⟩
theorem hf_Light_number (T : Tx P K mg C A FD) : HasF K C NN "number" "Light" 1 := ⟨T.cl_Light, T.na_Light_number, by decide +kernel⟩
def NT_Chart : List Tg := [.own "Film", .own "Chart"]
theorem nt_Chart (T : Tx P K mg C A FD) : ∀ t ∈ NT_Chart, PySem.W.notFirst K (C "Chart") (t.v C) = true := (all_cons (a := .own "Film") (p := fun t : Tg => PySem.W.notFirst K (C "Chart") (t.v C) = true) T.nf_Chart_own_Film (all_cons (a := .own "Chart") (p := fun t : Tg => PySem.W.notFirst K (C "Chart") (t.v C) = true) T.nf_Chart_own_Chart all_nil))
def NT_Film : List Tg := [.own "Film", .own "Chart"]
theorem nt_Film (T : Tx P K mg C A FD) : ∀ t ∈ NT_Film, PySem.W.notFirst K (C "Film") (t.v C) = true := (all_cons (a := .own "Film") (p := fun t : Tg => PySem.W.notFirst K (C "Film") (t.v C) = true) T.nf_Film_own_Film (all_cons (a := .own "Chart") (p := fun t : Tg => PySem.W.notFirst K (C "Film") (t.v C) = true) T.nf_Film_own_Chart all_nil))
def TB : List (Tg × Tg × Bool) := [(.own "Light", .own "Light", true), (.own "Film", .own "Film", true), (.own "Chart", .own "Chart", true), (.own "Film", .own "Chart", false), (.ty "bool", .ty "bool", true)]
theorem isi_tb (T : Tx P K mg C A FD) {t u : Tg} {b : Bool} (h : (t, u, b) ∈ TB) : PySem.W.kitOne K (t.v C) (u.v C) = some b ∧ ∀ k, t = .own k → IsiC K (C k) := (all_cons (a := ((.own "Light", .own "Light", true) : Tg × Tg × Bool)) (p := fun x : Tg × Tg × Bool => PySem.W.kitOne K (x.1.v C) (x.2.1.v C) = some x.2.2 ∧ ∀ k, x.1 = .own k → IsiC K (C k)) ⟨T.it_own_Light_own_Light, fun k e => by cases e; exact T.ic_Light⟩ (all_cons (a := ((.own "Film", .own "Film", true) : Tg × Tg × Bool)) (p := fun x : Tg × Tg × Bool => PySem.W.kitOne K (x.1.v C) (x.2.1.v C) = some x.2.2 ∧ ∀ k, x.1 = .own k → IsiC K (C k)) ⟨T.it_own_Film_own_Film, fun k e => by cases e; exact T.ic_Film⟩ (all_cons (a := ((.own "Chart", .own "Chart", true) : Tg × Tg × Bool)) (p := fun x : Tg × Tg × Bool => PySem.W.kitOne K (x.1.v C) (x.2.1.v C) = some x.2.2 ∧ ∀ k, x.1 = .own k → IsiC K (C k)) ⟨T.it_own_Chart_own_Chart, fun k e => by cases e; exact T.ic_Chart⟩ (all_cons (a := ((.own "Film", .own "Chart", false) : Tg × Tg × Bool)) (p := fun x : Tg × Tg × Bool => PySem.W.kitOne K (x.1.v C) (x.2.1.v C) = some x.2.2 ∧ ∀ k, x.1 = .own k → IsiC K (C k)) ⟨T.it_own_Film_own_Chart, fun k e => by cases e; exact T.ic_Film⟩ (all_cons (a := ((.ty "bool", .ty "bool", true) : Tg × Tg × Bool)) (p := fun x : Tg × Tg × Bool => PySem.W.kitOne K (x.1.v C) (x.2.1.v C) = some x.2.2 ∧ ∀ k, x.1 = .own k → IsiC K (C k)) ⟨T.it_ty_bool_ty_bool, fun k e => by cases e⟩ all_nil))))) _ h
theorem sc__law_box : FnScope ["_law_script", "_law_cell"] ["_law_script"] (defScope s__law_box) := ⟨rfl, rfl, rfl, by decide +kernel, rfl, by decide +kernel, by decide +kernel⟩
@[reducible] def m__law_box : SM := sRet (eObj (aCons (eLcO 1 [1] (lSeq (eSl (eVar 0) (oNone) (oSome (eC (.int 63))))) (bYes) (eFN fInt (aCons (eVar 1) (aNil)))) (aCons (eC (.int 0)) (aCons (eC (.int 1)) (aNil)))))
def g__law_box : FM := runB 2 m__law_box
theorem ok__law_box (T : Tx P K mg C A FD) : FnG P w K mg base C NN 1 (A "_law_box") (arN 1) g__law_box :=
  fng_of T.F__law_box sc__law_box (T.F__law_box.binds (ps := ["_law_script"]) fun _ _ _ _ _ _ us hl => match us, hl with | [_], _ => rfl) (fun cdv Ar outer s H E B hr =>
    (dss_one (ds_ret (de_obj (da_cons (de_lcO (own := [("_law_cell", 1)]) rfl sc__law_box.nd (di_lst rfl (de_slL rfl (de_var (pv 0)) do_none (do_some de_int))) (blkOk_by (own := [("_law_cell", 1)]) (N := ["_law_script", "_law_cell"]) (sc := defScope s__law_box) (by decide +kernel)) (by decide) (fun _ _ _ _ _ => pg_name (i := 1) sc__law_box.nd rfl (Or.inl rfl)) (fun _ _ _ _ _ => dts_nil) (fun _ _ _ _ _ => (de_callT dcall_int rfl T.no_int boot_int (da_cons (de_var (pv 1)) da_nil)))) (da_cons de_int (da_cons de_int da_nil)))))))
theorem sc__law_draw : FnScope ["_law_box_here", "_law_size", "_law_cells", "_law_place", "_law_cell", "_law_state", "_law_power"] ["_law_box_here", "_law_size"] (defScope s__law_draw) := ⟨rfl, rfl, rfl, by decide +kernel, rfl, by decide +kernel, by decide +kernel⟩
@[reducible] def m__law_draw : SM := sSeq (sSet 2 (eOp fIx (eVar 0) (eC (.int 0)))) (sSeq (sSet 3 (eOp fIx (eVar 0) (eC (.int 1)))) (sSeq (sIf (bOf isB (eOp (fEq) (eFN fLen (aCons (eVar 2) (aNil))) (eC (.int 0)))) (sRet (eC (.int 0))) (sNil)) (sSeq (sIf (bAnd (bOf isB (eOp (fLt) (eVar 3) (eFN fLen (aCons (eVar 2) (aNil))))) (bOf isB (eOp (fGe) (eOp fIx (eVar 2) (eVar 3)) (eOp (fPow) (eC (.int 10)) (eC (.int 18)))))) (sSeq (sSet 4 (eOp fIx (eVar 2) (eVar 3))) (sSeq (sSub (eVar 2) (eVar 3) (eOp (fDiv) (eVar 4) (eVar 1))) (sRet (eOp (fMod) (eFN fInt (aCons (eVar 4) (aNil))) (eVar 1))))) (sNil)) (sSeq (sSet 4 (eC (.int 0))) (sSeq (sIf (bOf isB (eOp (fLt) (eVar 3) (eFN fLen (aCons (eVar 2) (aNil))))) (sSet 4 (eOp fIx (eVar 2) (eVar 3))) (sNil)) (sSeq (sSub (eVar 0) (eC (.int 1)) (eOp (fAdd) (eVar 3) (eC (.int 1)))) (sSeq (sSet 5 (eOp (fMod) (eFN fInt (aCons (eOp (fAdd) (eOp (fAdd) (eOp (fAdd) (eOp (fMul) (eOp fIx (eVar 0) (eC (.int 2))) (eC (.int 48271))) (eOp (fMul) (eOp (fMod) (eFN fInt (aCons (eVar 4) (aNil))) (eC (.int 2147483629))) (eC (.int 69621)))) (eVar 3)) (eC (.int 1))) (aNil))) (eC (.int 2147483647)))) (sSeq (sSub (eVar 0) (eC (.int 2)) (eVar 5)) (sSeq (sSet 6 (eOp (fMod) (eFN fInt (aCons (eOp (fAdd) (eOp (fMul) (eVar 5) (eVar 5)) (eOp (fMul) (eVar 5) (eC (.int 16807)))) (aNil))) (eC (.int 998244353)))) (sRet (eOp (fMod) (eFN fInt (aCons (eOp (fDiv) (eVar 6) (eC (.int 5))) (aNil))) (eVar 1))))))))))))
def g__law_draw : FM := runB 7 m__law_draw
theorem ok__law_draw (T : Tx P K mg C A FD) : FnG P w K mg base C NN 1 (A "_law_draw") (arN 2) g__law_draw :=
  fng_of T.F__law_draw sc__law_draw (T.F__law_draw.binds (ps := ["_law_box_here", "_law_size"]) fun _ _ _ _ _ _ us hl => match us, hl with | [_, _], _ => rfl) (fun cdv Ar outer s H E B hr =>
    (dss_cons (ds_set (i := 2) sc__law_draw.nd rfl (Or.inl rfl) (de_ix (dix rfl) (de_var (pv 0)) de_int))
    (dss_cons (ds_set (i := 3) sc__law_draw.nd rfl (Or.inl rfl) (de_ix (dix rfl) (de_var (pv 0)) de_int))
    (dss_cons (ds_if (db_cmp (dop_eq rfl hr.units) (de_callB (dcall_len rfl) rfl T.no_len boot_len (da_cons (de_var (pv 2)) da_nil)) de_int (nomark _)) (dss_one (ds_ret de_int)) dss_nil)
    (dss_cons (ds_if (DW.db (dw_and (db_cmp dop_lt (de_var (pv 3)) (de_callB (dcall_len rfl) rfl T.no_len boot_len (da_cons (de_var (pv 2)) da_nil)) (nomark _)) (dw_and1 (db_cmp dop_ge (de_ix (dix rfl) (de_var (pv 2)) (de_var (pv 3))) (de_op dop_pow de_int de_int) (nomark _))))) (dss_cons (ds_set (i := 4) sc__law_draw.nd rfl (Or.inl rfl) (de_ix (dix rfl) (de_var (pv 2)) (de_var (pv 3))))
    (dss_cons (ds_sub (de_var (pv 2)) (de_var (pv 3)) (de_op dop_div (de_var (pv 4)) (de_var (pv 1))))
    (dss_one (ds_ret (de_op dop_mod (de_callT dcall_int rfl T.no_int boot_int (da_cons (de_var (pv 4)) da_nil)) (de_var (pv 1))))))) dss_nil)
    (dss_cons (ds_set (i := 4) sc__law_draw.nd rfl (Or.inl rfl) de_int)
    (dss_cons (ds_if (db_cmp dop_lt (de_var (pv 3)) (de_callB (dcall_len rfl) rfl T.no_len boot_len (da_cons (de_var (pv 2)) da_nil)) (nomark _)) (dss_one (ds_set (i := 4) sc__law_draw.nd rfl (Or.inl rfl) (de_ix (dix rfl) (de_var (pv 2)) (de_var (pv 3))))) dss_nil)
    (dss_cons (ds_sub (de_var (pv 0)) de_int (de_op dop_add (de_var (pv 3)) de_int))
    (dss_cons (ds_set (i := 5) sc__law_draw.nd rfl (Or.inl rfl) (de_op dop_mod (de_callT dcall_int rfl T.no_int boot_int (da_cons (de_op dop_add (de_op dop_add (de_op dop_add (de_op dop_mul (de_ix (dix rfl) (de_var (pv 0)) de_int) de_int) (de_op dop_mul (de_op dop_mod (de_callT dcall_int rfl T.no_int boot_int (da_cons (de_var (pv 4)) da_nil)) de_int) de_int)) (de_var (pv 3))) de_int) da_nil)) de_int))
    (dss_cons (ds_sub (de_var (pv 0)) de_int (de_var (pv 5)))
    (dss_cons (ds_set (i := 6) sc__law_draw.nd rfl (Or.inl rfl) (de_op dop_mod (de_callT dcall_int rfl T.no_int boot_int (da_cons (de_op dop_add (de_op dop_mul (de_var (pv 5)) (de_var (pv 5))) (de_op dop_mul (de_var (pv 5)) de_int)) da_nil)) de_int))
    (dss_one (ds_ret (de_op dop_mod (de_callT dcall_int rfl T.no_int boot_int (da_cons (de_op dop_div (de_var (pv 6)) de_int) da_nil)) (de_var (pv 1))))))))))))))))
theorem sc__law_name : FnScope ["_law_box_here", "_law_size", "_law_k"] ["_law_box_here"] (defScope s__law_name) := ⟨rfl, rfl, rfl, by decide +kernel, rfl, by decide +kernel, by decide +kernel⟩
@[reducible] def m__law_name : SM := sSeq (sSet 1 (eOp (fAdd) (eC (.int 1)) (eCall (arN 2) g__law_draw (aCons (eVar 0) (aCons (eC (.int 6)) (aNil)))))) (sRet (eJoin (eC (.str "")) (eLc 2 [2] (lRng1 (aCons (eVar 1) (aNil))) (bYes) (eOp fIxT (eC (.str "abcdefghijklmnopqrstuvwxyz")) (eCall (arN 2) g__law_draw (aCons (eVar 0) (aCons (eC (.int 26)) (aNil))))))))
def g__law_name : FM := runB 3 m__law_name
theorem ok__law_name (T : Tx P K mg C A FD) : FnG P w K mg base C NN 2 (A "_law_name") (arN 1) g__law_name :=
  fng_of T.F__law_name sc__law_name (T.F__law_name.binds (ps := ["_law_box_here"]) fun _ _ _ _ _ _ us hl => match us, hl with | [_], _ => rfl) (fun cdv Ar outer s H E B hr =>
    (dss_cons (ds_set (i := 1) sc__law_name.nd rfl (Or.inl rfl) (de_op dop_add de_int (de_call (ok__law_draw T) rfl (hr.mono (by decide)) rfl T.M__law_draw T.F__law_draw.kp (takesF rfl rfl rfl rfl) (da_cons (de_var (pv 0)) (da_cons de_int da_nil)))))
    (dss_one (ds_ret (de_join rfl de_str (de_lc (own := [("_law_k", 2)]) rfl sc__law_name.nd (di_range1 rfl T.no_range (da_cons (de_var (pv 1)) da_nil)) (blkOk_by (own := [("_law_k", 2)]) (N := ["_law_box_here", "_law_size", "_law_k"]) (sc := defScope s__law_name) (by decide +kernel)) (by decide) (fun _ _ _ _ _ => pg_name (i := 2) sc__law_name.nd rfl (Or.inl rfl)) (fun _ _ _ _ _ => dts_nil) (fun _ _ _ _ _ => (de_ix dixT de_str (de_call (ok__law_draw T) rfl (hr.mono (by decide)) rfl T.M__law_draw T.F__law_draw.kp takesB (da_cons (de_var (pv 0)) (da_cons de_int da_nil)))))))))))
theorem sc__law_names : FnScope ["_law_box_here", "_law_many", "_law_names_here", "_law_k", "_law_name_here", "_law_word"] ["_law_box_here", "_law_many"] (defScope s__law_names) := ⟨rfl, rfl, rfl, by decide +kernel, rfl, by decide +kernel, by decide +kernel⟩
@[reducible] def m__law_names : SM := sSeq (sOwn 2 (nLst (aNil))) (sSeq (sFor 3 (lRng1 (aCons (eVar 1) (aNil))) (sSeq (sSet 4 (eCall (arN 1) g__law_name (aCons (eVar 0) (aNil)))) (sSeq (sIf (bOf isB (eOIn false 2 (eVar 4))) (sSet 4 (eOp fIx (eLc 5 [5] (lSeq (eLst (aCons (eC (.str "qa")) (aCons (eC (.str "b")) (aCons (eC (.str "zeb")) (aCons (eC (.str "mo")) (aCons (eC (.str "aq")) (aCons (eC (.str "xylox")) (aCons (eC (.str "ba")) (aCons (eC (.str "k")) (aCons (eC (.str "mm")) (aNil)))))))))))) (bOf isB (eOIn true 2 (eVar 5))) (eVar 5)) (eC (.int 0)))) (sNil)) (sApp 2 (eVar 4))))) (sFrz 2 (sRet (eVar 2))))
def g__law_names : FM := runB 6 m__law_names
theorem ok__law_names (T : Tx P K mg C A FD) : FnG P w K mg base C NN 3 (A "_law_names") (arN 2) g__law_names :=
  fng_of T.F__law_names sc__law_names (T.F__law_names.binds (ps := ["_law_box_here", "_law_many"]) fun _ _ _ _ _ _ us hl => match us, hl with | [_, _], _ => rfl) (fun cdv Ar outer s H E B hr =>
    (dss_cons (ds_own (i := 2) sc__law_names.nd rfl (Or.inr rfl) (df_lst da_nil))
    (dss_cons (ds_for (k := 3) (passes_of rfl) rfl (di_range1 rfl T.no_range (da_cons (de_var (pv 1)) da_nil)) (pg_name (i := 3) sc__law_names.nd rfl (Or.inl rfl)) (dss_cons (ds_set (i := 4) sc__law_names.nd rfl (Or.inl rfl) (de_call (ok__law_name T) rfl (hr.mono (by decide)) rfl T.M__law_name T.F__law_name.kp (takesF rfl rfl rfl rfl) (da_cons (de_var (pv 0)) da_nil)))
    (dss_cons (ds_if (db_oin (de_var (pv 4)) (pv 2)) (dss_one (ds_set (i := 4) sc__law_names.nd rfl (Or.inl rfl) (de_ix (dix rfl) (de_lc (own := [("_law_word", 5)]) rfl sc__law_names.nd (di_lst rfl (de_lst (da_cons de_str (da_cons de_str (da_cons de_str (da_cons de_str (da_cons de_str (da_cons de_str (da_cons de_str (da_cons de_str (da_cons de_str da_nil))))))))))) (blkOk_by (own := [("_law_word", 5)]) (N := ["_law_box_here", "_law_many", "_law_names_here", "_law_k", "_law_name_here", "_law_word"]) (sc := defScope s__law_names) (by decide +kernel)) (by decide) (fun _ _ _ _ _ => pg_name (i := 5) sc__law_names.nd rfl (Or.inl rfl)) (fun _ _ _ _ _ => (dts_one (db_onin (de_var (pv 5)) (pv 2)))) (fun _ _ _ _ _ => (de_var (pv 5)))) de_int))) dss_nil)
    (dss_one (ds_app (pv 2) (de_var (pv 4)))))))
    (dss_frz (dss_one (ds_ret (de_var (pv 2))))))))
theorem sc__law_tree : FnScope ["_law_box_here", "_law_names_here", "_law_deep", "_law_rising", "_law_at", "_law_left", "_law_shut"] ["_law_box_here", "_law_names_here", "_law_deep", "_law_rising"] (defScope s__law_tree) := ⟨rfl, rfl, rfl, by decide +kernel, rfl, by decide +kernel, by decide +kernel⟩
@[reducible] def mR__law_tree (gS : FM) : SM := sSeq (sIf (bOr (bOf isB (eOp (fEq) (eVar 2) (eC (.int 0)))) (bOr (bOf isB (eOp (fEq) (eFN fLen (aCons (eVar 1) (aNil))) (eC (.int 0)))) (bOf isB (eOp (fEq) (eCall (arN 2) g__law_draw (aCons (eVar 0) (aCons (eC (.int 4)) (aNil)))) (eC (.int 0)))))) (sRet (eTup (aCons (eC .non) (aCons (eCall (arN 2) g__law_draw (aCons (eVar 0) (aCons (eC (.int 3)) (aNil)))) (aNil))))) (sNil)) (sSeq (sSet 4 (eCall (arN 2) g__law_draw (aCons (eVar 0) (aCons (eFN fLen (aCons (eVar 1) (aNil))) (aNil))))) (sSeq (sSet 5 (eVar 1)) (sSeq (sIf (bOf truE (eVar 3)) (sSet 5 (eSl (eVar 1) (oSome (eOp (fAdd) (eVar 4) (eC (.int 1)))) (oNone))) (sNil)) (sSeq (sSet 6 (eCall (arN 4) gS (aCons (eVar 0) (aCons (eVar 5) (aCons (eOp (fSub) (eVar 2) (eC (.int 1))) (aCons (eVar 3) (aNil))))))) (sRet (eTup (aCons (eOp fIx (eVar 1) (eVar 4)) (aCons (eVar 6) (aCons (eCall (arN 4) gS (aCons (eVar 0) (aCons (eVar 5) (aCons (eOp (fSub) (eVar 2) (eC (.int 1))) (aCons (eVar 3) (aNil)))))) (aNil))))))))))
def gF__law_tree : Nat → FM
  | 0 => runB 7 (fun _ _ => .st)
  | n9 + 1 => runB 7 (mR__law_tree (gF__law_tree n9))
def g__law_tree : FM := gF__law_tree 8
theorem okF__law_tree (T : Tx P K mg C A FD) : ∀ n9 : Nat, FnG P w K mg base C NN (2 + n9) (A "_law_tree") (arN 4) (gF__law_tree n9)
  | 0 => fng_of (k := 1) (m := fun _ _ => .st) T.F__law_tree sc__law_tree (T.F__law_tree.binds (ps := ["_law_box_here", "_law_names_here", "_law_deep", "_law_rising"]) fun _ _ _ _ _ _ us hl => match us, hl with | [_, _, _, _], _ => rfl) (fun cdv Ar outer s H E B hr => dss_st)
  | n9 + 1 => fng_of (k := 2 + n9) (m := mR__law_tree (gF__law_tree n9)) T.F__law_tree sc__law_tree (T.F__law_tree.binds (ps := ["_law_box_here", "_law_names_here", "_law_deep", "_law_rising"]) fun _ _ _ _ _ _ us hl => match us, hl with | [_, _, _, _], _ => rfl) (fun cdv Ar outer s H E B hr =>
    (dss_cons (ds_if (DW.db (dw_or (db_cmp (dop_eq rfl hr.units) (de_var (pv 2)) de_int (nomark _)) (dw_or (db_cmp (dop_eq rfl hr.units) (de_callB (dcall_len rfl) rfl T.no_len boot_len (da_cons (de_var (pv 1)) da_nil)) de_int (nomark _)) (dw_or1 (db_cmp (dop_eq rfl hr.units) (de_call (ok__law_draw T) rfl (hr.mono (by omega)) rfl T.M__law_draw T.F__law_draw.kp (takesF rfl rfl rfl rfl) (da_cons (de_var (pv 0)) (da_cons de_int da_nil))) de_int (nomark _)))))) (dss_one (ds_ret (de_tup (da_cons de_non (da_cons (de_call (ok__law_draw T) rfl (hr.mono (by omega)) rfl T.M__law_draw T.F__law_draw.kp (takesF rfl rfl rfl rfl) (da_cons (de_var (pv 0)) (da_cons de_int da_nil))) da_nil))))) dss_nil)
    (dss_cons (ds_set (i := 4) sc__law_tree.nd rfl (Or.inl rfl) (de_call (ok__law_draw T) rfl (hr.mono (by omega)) rfl T.M__law_draw T.F__law_draw.kp (takesF rfl rfl rfl rfl) (da_cons (de_var (pv 0)) (da_cons (de_callB (dcall_len rfl) rfl T.no_len boot_len (da_cons (de_var (pv 1)) da_nil)) da_nil))))
    (dss_cons (ds_set (i := 5) sc__law_tree.nd rfl (Or.inl rfl) (de_var (pv 1)))
    (dss_cons (ds_if (db_tru rfl (de_var (pv 3))) (dss_one (ds_set (i := 5) sc__law_tree.nd rfl (Or.inl rfl) (de_slL rfl (de_var (pv 1)) (do_some (de_op dop_add (de_var (pv 4)) de_int)) do_none))) dss_nil)
    (dss_cons (ds_set (i := 6) sc__law_tree.nd rfl (Or.inl rfl) (de_call (okF__law_tree T n9) rfl (hr.mono (by omega)) rfl T.M__law_tree T.F__law_tree.kp (takesF rfl rfl rfl rfl) (da_cons (de_var (pv 0)) (da_cons (de_var (pv 5)) (da_cons (de_op dop_sub (de_var (pv 2)) de_int) (da_cons (de_var (pv 3)) da_nil))))))
    (dss_one (ds_ret (de_tup (da_cons (de_ix (dix rfl) (de_var (pv 1)) (de_var (pv 4))) (da_cons (de_var (pv 6)) (da_cons (de_call (okF__law_tree T n9) rfl (hr.mono (by omega)) rfl T.M__law_tree T.F__law_tree.kp (takesF rfl rfl rfl rfl) (da_cons (de_var (pv 0)) (da_cons (de_var (pv 5)) (da_cons (de_op dop_sub (de_var (pv 2)) de_int) (da_cons (de_var (pv 3)) da_nil))))) da_nil))))))))))))
theorem ok__law_tree (T : Tx P K mg C A FD) : FnG P w K mg base C NN 10 (A "_law_tree") (arN 4) g__law_tree := okF__law_tree T 8
theorem sc_Light___eq__ : FnScope ["self", "other"] ["self", "other"] (defScope s_Light___eq__) := ⟨rfl, rfl, rfl, by decide +kernel, rfl, by decide +kernel, by decide +kernel⟩
@[reducible] def m_Light___eq__ : SM := sRet (eAnd (eFN (fIsi TB) (aCons (eVar 1) (aCons (eC (.cls "Light")) (aNil)))) (eOp (fEq) (eFld [("Light", 1)] (eVar 0)) (eFld [("Light", 1)] (eVar 1))))
def g_Light___eq__ : FM := runB 2 m_Light___eq__
theorem ok_Light___eq__ (T : Tx P K mg C A FD) : FnG P w K mg base C NN 1 (A "Light.__eq__") (arN 2) g_Light___eq__ :=
  fng_of T.F_Light___eq__ sc_Light___eq__ (T.F_Light___eq__.binds (ps := ["self", "other"]) fun _ _ _ _ _ _ us hl => match us, hl with | [_, _], _ => rfl) (fun cdv Ar outer s H E B hr =>
    (dss_one (ds_ret (de_and (de_callB (dcall_isi (tb := TB) rfl T.ik (fun _ _ _ h => isi_tb T h)) rfl T.no_isinstance boot_isinstance (da_cons (de_var (pv 1)) (da_cons (de_c (v := V.ref (C "Light")) (pe_glob rfl T.M_Light rfl) (fun _ _ _ => Rep.cls)) da_nil))) (de_one (de_cmp (dop_eq rfl hr.units) (de_fld (ks := [("Light", 1)]) rfl (kix_all (all_cons (hf_Light_number T) all_nil)) (de_var (pv 0))) (de_fld (ks := [("Light", 1)]) rfl (kix_all (all_cons (hf_Light_number T) all_nil)) (de_var (pv 1))) (nomark _)))))))
theorem sc_Film___eq__ : FnScope ["self", "other"] ["self", "other"] (defScope s_Film___eq__) := ⟨rfl, rfl, rfl, by decide +kernel, rfl, by decide +kernel, by decide +kernel⟩
@[reducible] def m_Film___eq__ : SM := sRet (eAnd (eFN (fIsi TB) (aCons (eVar 1) (aCons (eC (.cls "Film")) (aNil)))) (eAnd (eOp (alt2 (fEq) (fEqT "Light" (arN 2) g_Light___eq__)) (eFld [("Film", 0)] (eVar 0)) (eFld [("Film", 0)] (eVar 1))) (eOp (alt2 (fEq) (fEqT "Light" (arN 2) g_Light___eq__)) (eFld [("Film", 1)] (eVar 0)) (eFld [("Film", 1)] (eVar 1)))))
def g_Film___eq__ : FM := runB 2 m_Film___eq__
theorem ok_Film___eq__ (T : Tx P K mg C A FD) : FnG P w K mg base C NN 3 (A "Film.__eq__") (arN 2) g_Film___eq__ :=
  fng_of T.F_Film___eq__ sc_Film___eq__ (T.F_Film___eq__.binds (ps := ["self", "other"]) fun _ _ _ _ _ _ us hl => match us, hl with | [_, _], _ => rfl) (fun cdv Ar outer s H E B hr =>
    (dss_one (ds_ret (de_and (de_callB (dcall_isi (tb := TB) rfl T.ik (fun _ _ _ h => isi_tb T h)) rfl T.no_isinstance boot_isinstance (da_cons (de_var (pv 1)) (da_cons (de_c (v := V.ref (C "Film")) (pe_glob rfl T.M_Film rfl) (fun _ _ _ => Rep.cls)) da_nil))) (de_and (de_cmp (opr_alt (dop_eq rfl hr.units) (dop_eqT (lv := 1) rfl (hr.mono (by decide)) T.ow_Light___eq__ T.fn_Light___eq__ (ok_Light___eq__ T))) (de_fld (ks := [("Film", 0)]) rfl (kix_all (all_cons (hf_Film_bare T) all_nil)) (de_var (pv 0))) (de_fld (ks := [("Film", 0)]) rfl (kix_all (all_cons (hf_Film_bare T) all_nil)) (de_var (pv 1))) (nomark _)) (de_one (de_cmp (opr_alt (dop_eq rfl hr.units) (dop_eqT (lv := 1) rfl (hr.mono (by decide)) T.ow_Light___eq__ T.fn_Light___eq__ (ok_Light___eq__ T))) (de_fld (ks := [("Film", 1)]) rfl (kix_all (all_cons (hf_Film_inked T) all_nil)) (de_var (pv 0))) (de_fld (ks := [("Film", 1)]) rfl (kix_all (all_cons (hf_Film_inked T) all_nil)) (de_var (pv 1))) (nomark _))))))))
theorem sc_Chart___eq__ : FnScope ["self", "other"] ["self", "other"] (defScope s_Chart___eq__) := ⟨rfl, rfl, rfl, by decide +kernel, rfl, by decide +kernel, by decide +kernel⟩
@[reducible] def mR_Chart___eq__ (gS : FM) : SM := sRet (eAnd (eFN (fIsi TB) (aCons (eVar 1) (aCons (eC (.cls "Chart")) (aNil)))) (eAnd (eOp (alt2 (alt2 (fEq) (fEqO NT_Film "Film" (arN 2) g_Film___eq__)) (fEqO NT_Chart "Chart" (arN 2) gS)) (eFld [("Chart", 0)] (eVar 0)) (eFld [("Chart", 0)] (eVar 1))) (eAnd (eOp (alt2 (alt2 (fEq) (fEqO NT_Film "Film" (arN 2) g_Film___eq__)) (fEqO NT_Chart "Chart" (arN 2) gS)) (eFld [("Chart", 1)] (eVar 0)) (eFld [("Chart", 1)] (eVar 1))) (eAnd (eOp (alt2 (alt2 (fEq) (fEqO NT_Film "Film" (arN 2) g_Film___eq__)) (fEqO NT_Chart "Chart" (arN 2) gS)) (eFld [("Chart", 2)] (eVar 0)) (eFld [("Chart", 2)] (eVar 1))) (eOp (alt2 (alt2 (fEq) (fEqO NT_Film "Film" (arN 2) g_Film___eq__)) (fEqO NT_Chart "Chart" (arN 2) gS)) (eFld [("Chart", 3)] (eVar 0)) (eFld [("Chart", 3)] (eVar 1)))))))
def gF_Chart___eq__ : Nat → FM
  | 0 => runB 2 (fun _ _ => .st)
  | n9 + 1 => runB 2 (mR_Chart___eq__ (gF_Chart___eq__ n9))
def g_Chart___eq__ : FM := gF_Chart___eq__ 8
theorem okF_Chart___eq__ (T : Tx P K mg C A FD) : ∀ n9 : Nat, FnG P w K mg base C NN (4 + n9) (A "Chart.__eq__") (arN 2) (gF_Chart___eq__ n9)
  | 0 => fng_of (k := 3) (m := fun _ _ => .st) T.F_Chart___eq__ sc_Chart___eq__ (T.F_Chart___eq__.binds (ps := ["self", "other"]) fun _ _ _ _ _ _ us hl => match us, hl with | [_, _], _ => rfl) (fun cdv Ar outer s H E B hr => dss_st)
  | n9 + 1 => fng_of (k := 4 + n9) (m := mR_Chart___eq__ (gF_Chart___eq__ n9)) T.F_Chart___eq__ sc_Chart___eq__ (T.F_Chart___eq__.binds (ps := ["self", "other"]) fun _ _ _ _ _ _ us hl => match us, hl with | [_, _], _ => rfl) (fun cdv Ar outer s H E B hr =>
    (dss_one (ds_ret (de_and (de_callB (dcall_isi (tb := TB) rfl T.ik (fun _ _ _ h => isi_tb T h)) rfl T.no_isinstance boot_isinstance (da_cons (de_var (pv 1)) (da_cons (de_c (v := V.ref (C "Chart")) (pe_glob rfl T.M_Chart rfl) (fun _ _ _ => Rep.cls)) da_nil))) (de_and (de_cmp (opr_alt (opr_alt (dop_eq rfl hr.units) (dop_eqO rfl (hr.mono (by omega)) (nt_Film T) T.ow_Film___eq__ T.fn_Film___eq__ (ok_Film___eq__ T))) (dop_eqO rfl (hr.mono (by omega)) (nt_Chart T) T.ow_Chart___eq__ T.fn_Chart___eq__ (okF_Chart___eq__ T n9))) (de_fld (ks := [("Chart", 0)]) rfl (kix_all (all_cons (hf_Chart_mask T) all_nil)) (de_var (pv 0))) (de_fld (ks := [("Chart", 0)]) rfl (kix_all (all_cons (hf_Chart_mask T) all_nil)) (de_var (pv 1))) (nomark _)) (de_and (de_cmp (opr_alt (opr_alt (dop_eq rfl hr.units) (dop_eqO rfl (hr.mono (by omega)) (nt_Film T) T.ow_Film___eq__ T.fn_Film___eq__ (ok_Film___eq__ T))) (dop_eqO rfl (hr.mono (by omega)) (nt_Chart T) T.ow_Chart___eq__ T.fn_Chart___eq__ (okF_Chart___eq__ T n9))) (de_fld (ks := [("Chart", 1)]) rfl (kix_all (all_cons (hf_Chart_leaf T) all_nil)) (de_var (pv 0))) (de_fld (ks := [("Chart", 1)]) rfl (kix_all (all_cons (hf_Chart_leaf T) all_nil)) (de_var (pv 1))) (nomark _)) (de_and (de_cmp (opr_alt (opr_alt (dop_eq rfl hr.units) (dop_eqO rfl (hr.mono (by omega)) (nt_Film T) T.ow_Film___eq__ T.fn_Film___eq__ (ok_Film___eq__ T))) (dop_eqO rfl (hr.mono (by omega)) (nt_Chart T) T.ow_Chart___eq__ T.fn_Chart___eq__ (okF_Chart___eq__ T n9))) (de_fld (ks := [("Chart", 2)]) rfl (kix_all (all_cons (hf_Chart_when_shut T) all_nil)) (de_var (pv 0))) (de_fld (ks := [("Chart", 2)]) rfl (kix_all (all_cons (hf_Chart_when_shut T) all_nil)) (de_var (pv 1))) (nomark _)) (de_one (de_cmp (opr_alt (opr_alt (dop_eq rfl hr.units) (dop_eqO rfl (hr.mono (by omega)) (nt_Film T) T.ow_Film___eq__ T.fn_Film___eq__ (ok_Film___eq__ T))) (dop_eqO rfl (hr.mono (by omega)) (nt_Chart T) T.ow_Chart___eq__ T.fn_Chart___eq__ (okF_Chart___eq__ T n9))) (de_fld (ks := [("Chart", 3)]) rfl (kix_all (all_cons (hf_Chart_when_open T) all_nil)) (de_var (pv 0))) (de_fld (ks := [("Chart", 3)]) rfl (kix_all (all_cons (hf_Chart_when_open T) all_nil)) (de_var (pv 1))) (nomark _))))))))))
theorem ok_Chart___eq__ (T : Tx P K mg C A FD) : FnG P w K mg base C NN 12 (A "Chart.__eq__") (arN 2) g_Chart___eq__ := okF_Chart___eq__ T 8
theorem sc_Chart___init__ : FnScope ["self", "mask", "leaf", "when_shut", "when_open"] ["self", "mask", "leaf", "when_shut", "when_open"] (defScope s_Chart___init__) := ⟨rfl, rfl, rfl, by decide +kernel, rfl, by decide +kernel, by decide +kernel⟩
@[reducible] def m_Chart___init__ : SM := sSeq (sFld 0 "Chart" 0 (eVar 1)) (sSeq (sFld 0 "Chart" 1 (eVar 2)) (sSeq (sFld 0 "Chart" 2 (eVar 3)) (sFld 0 "Chart" 3 (eVar 4))))
def g_Chart___init__ : IM := runI 5 "Chart" m_Chart___init__
theorem ok_Chart___init__ (T : Tx P K mg C A FD) : FnI P w K mg base C NN 1 (A "Chart.__init__") "Chart" (arN 4) g_Chart___init__ :=
  fni_of T.F_Chart___init__ sc_Chart___init__ (T.F_Chart___init__.binds (ps := ["self", "mask", "leaf", "when_shut", "when_open"]) fun _ _ _ _ _ _ us hl => match us, hl with | [_, _, _, _, _], _ => rfl) (fun cdv Ar outer s H E B x hr =>
    (dss_cons (ds_fld (hf_Chart_mask T) (pv 0) (de_var (pv 1)))
    (dss_cons (ds_fld (hf_Chart_leaf T) (pv 0) (de_var (pv 2)))
    (dss_cons (ds_fld (hf_Chart_when_shut T) (pv 0) (de_var (pv 3)))
    (dss_one (ds_fld (hf_Chart_when_open T) (pv 0) (de_var (pv 4))))))))
theorem sc_Chart_end : FnScope ["film"] ["film"] (defScope s_Chart_end) := ⟨rfl, rfl, rfl, by decide +kernel, rfl, by decide +kernel, by decide +kernel⟩
@[reducible] def m_Chart_end : SM := sRet (eMake "Chart" (arN 4) g_Chart___init__ (aCons (eC .non) (aCons (eVar 0) (aCons (eC .non) (aCons (eC .non) (aNil))))))
def g_Chart_end : FM := runB 1 m_Chart_end
theorem ok_Chart_end (T : Tx P K mg C A FD) : FnG P w K mg base C NN 3 (A "Chart.end") (arN 1) g_Chart_end :=
  fng_of T.F_Chart_end sc_Chart_end (T.F_Chart_end.binds (ps := ["film"]) fun _ _ _ _ _ _ us hl => match us, hl with | [_], _ => rfl) (fun cdv Ar outer s H E B hr =>
    (dss_one (ds_ret (de_make T.mk_Chart (ok_Chart___init__ T) rfl (hr.mono (by decide)) rfl T.M_Chart (takesF rfl rfl rfl rfl) (da_cons de_non (da_cons (de_var (pv 0)) (da_cons de_non (da_cons de_non da_nil))))))))
theorem sc_check_band : FnScope ["band"] ["band"] (defScope s_check_band) := ⟨rfl, rfl, rfl, by decide +kernel, rfl, by decide +kernel, by decide +kernel⟩
@[reducible] def m_check_band : SM := sIf (bOr (bOf isB (eOp (fLt) (eVar 0) (eC (.int 0)))) (bOf isB (eOp (fGe) (eVar 0) (eC (.int 6))))) (sSt) (sNil)
def g_check_band : FM := runB 1 m_check_band
theorem ok_check_band (T : Tx P K mg C A FD) : FnG P w K mg base C NN 1 (A "check_band") (arN 1) g_check_band :=
  fng_of T.F_check_band sc_check_band (T.F_check_band.binds (ps := ["band"]) fun _ _ _ _ _ _ us hl => match us, hl with | [_], _ => rfl) (fun cdv Ar outer s H E B hr =>
    (dss_one (ds_if (DW.db (dw_or (db_cmp dop_lt (de_var (pv 0)) de_int (nomark _)) (dw_or1 (db_cmp dop_ge (de_var (pv 0)) (let ⟨_, h1⟩ := T.cv_Light_BANDS; de_cval (cl := "Light") rfl T.M_Light T.cr_Light h1 (fun _ _ _ => Rep.int)) (nomark _))))) (dss_one ds_never) dss_nil)))
theorem sc__bands_of : FnScope ["number", "band"] ["number"] (defScope s__bands_of) := ⟨rfl, rfl, rfl, by decide +kernel, rfl, by decide +kernel, by decide +kernel⟩
@[reducible] def m__bands_of : SM := sRet (eLc 1 [1] (lRng1 (aCons (eC (.int 6)) (aNil))) (bOf truE (eOp (fAnd) (eVar 0) (eOp (fShl) (eC (.int 1)) (eVar 1)))) (eVar 1))
def g__bands_of : FM := runB 2 m__bands_of
theorem ok__bands_of (T : Tx P K mg C A FD) : FnG P w K mg base C NN 1 (A "_bands_of") (arN 1) g__bands_of :=
  fng_of T.F__bands_of sc__bands_of (T.F__bands_of.binds (ps := ["number"]) fun _ _ _ _ _ _ us hl => match us, hl with | [_], _ => rfl) (fun cdv Ar outer s H E B hr =>
    (dss_one (ds_ret (de_lc (own := [("band", 1)]) rfl sc__bands_of.nd (di_range1 rfl T.no_range (da_cons (let ⟨_, h1⟩ := T.cv_Light_BANDS; de_cval (cl := "Light") rfl T.M_Light T.cr_Light h1 (fun _ _ _ => Rep.int)) da_nil)) (blkOk_by (own := [("band", 1)]) (N := ["number", "band"]) (sc := defScope s__bands_of) (by decide +kernel)) (by decide) (fun _ _ _ _ _ => pg_name (i := 1) sc__bands_of.nd rfl (Or.inl rfl)) (fun _ _ _ _ _ => (dts_one (db_tru rfl (de_op dop_and (de_var (pv 0)) (de_op dop_shl de_int (de_var (pv 1))))))) (fun _ _ _ _ _ => (de_var (pv 1)))))))
theorem sc_Light___init__ : FnScope ["self", "bands", "number", "band"] ["self", "bands"] (defScope s_Light___init__) := ⟨rfl, rfl, rfl, by decide +kernel, rfl, by decide +kernel, by decide +kernel⟩
@[reducible] def m_Light___init__ : SM := sSeq (sSet 2 (eC (.int 0))) (sSeq (sFor 3 (lTup (eVar 1)) (sSeq (sDrop (eCall (arN 1) g_check_band (aCons (eVar 3) (aNil)))) (sSet 2 (eOp (fOr) (eVar 2) (eOp (fShl) (eC (.int 1)) (eVar 3)))))) (sSeq (sFld 0 "Light" 0 (eFN fTuple (aCons (eCall (arN 1) g__bands_of (aCons (eVar 2) (aNil))) (aNil)))) (sFld 0 "Light" 1 (eVar 2))))
def g_Light___init__ : IM := starI 0 (runI 4 "Light" m_Light___init__)
theorem ok_Light___init__ (T : Tx P K mg C A FD) : FnI P w K mg base C NN 2 (A "Light.__init__") "Light" (arS 0) g_Light___init__ :=
  fni_star T.F_Light___init__ sc_Light___init__ T.b_Light___init__ (fun cdv Ar outer s H E B x hr =>
    (dss_cons (ds_set (i := 2) sc_Light___init__.nd rfl (Or.inl rfl) de_int)
    (dss_cons (ds_for (k := 3) (passes_of rfl) rfl (di_tup rfl (de_var (pv 1))) (pg_name (i := 3) sc_Light___init__.nd rfl (Or.inl rfl)) (dss_cons (ds_expr (de_call (ok_check_band T) rfl (hr.mono (by decide)) rfl T.M_check_band T.F_check_band.kp (takesF rfl rfl rfl rfl) (da_cons (de_var (pv 3)) da_nil)))
    (dss_one (ds_set (i := 2) sc_Light___init__.nd rfl (Or.inl rfl) (de_op dop_or (de_var (pv 2)) (de_op dop_shl de_int (de_var (pv 3))))))))
    (dss_cons (ds_fld (hf_Light_bands T) (pv 0) (de_callT (dcall_tuple rfl) rfl T.no_tuple boot_tuple (da_cons (de_call (ok__bands_of T) rfl (hr.mono (by decide)) rfl T.M__bands_of T.F__bands_of.kp (takesF rfl rfl rfl rfl) (da_cons (de_var (pv 2)) da_nil)) da_nil)))
    (dss_one (ds_fld (hf_Light_number T) (pv 0) (de_var (pv 2))))))))
theorem sc_Film___init__ : FnScope ["self", "bare", "inked"] ["self", "bare", "inked"] (defScope s_Film___init__) := ⟨rfl, rfl, rfl, by decide +kernel, rfl, by decide +kernel, by decide +kernel⟩
@[reducible] def m_Film___init__ : SM := sSeq (sFld 0 "Film" 0 (eVar 1)) (sFld 0 "Film" 1 (eVar 2))
def g_Film___init__ : IM := runI 3 "Film" m_Film___init__
theorem ok_Film___init__ (T : Tx P K mg C A FD) : FnI P w K mg base C NN 1 (A "Film.__init__") "Film" (arN 2) g_Film___init__ :=
  fni_of T.F_Film___init__ sc_Film___init__ (T.F_Film___init__.binds (ps := ["self", "bare", "inked"]) fun _ _ _ _ _ _ us hl => match us, hl with | [_, _, _], _ => rfl) (fun cdv Ar outer s H E B x hr =>
    (dss_cons (ds_fld (hf_Film_bare T) (pv 0) (de_var (pv 1)))
    (dss_one (ds_fld (hf_Film_inked T) (pv 0) (de_var (pv 2))))))
theorem sc_Film_nothing : FnScope ["cls"] ["cls"] (defScope s_Film_nothing) := ⟨rfl, rfl, rfl, by decide +kernel, rfl, by decide +kernel, by decide +kernel⟩
@[reducible] def m_Film_nothing : SM := sRet (eMakeV 0 "Film" (arN 2) g_Film___init__ (aCons (eTup (aCons (eMake "Light" (arS 0) g_Light___init__ aNil) (aCons (eMake "Light" (arS 0) g_Light___init__ aNil) (aCons (eC (.bl false)) (aNil))))) (aCons (eTup (aCons (eMake "Light" (arS 0) g_Light___init__ aNil) (aCons (eMake "Light" (arS 0) g_Light___init__ aNil) (aCons (eC (.bl true)) (aNil))))) (aNil))))
def g_Film_nothing : FM := runB 1 m_Film_nothing
theorem ok_Film_nothing (T : Tx P K mg C A FD) : FnG P w K mg base C NN 4 (A "Film.nothing") (arN 1) g_Film_nothing :=
  fng_of T.F_Film_nothing sc_Film_nothing (T.F_Film_nothing.binds (ps := ["cls"]) fun _ _ _ _ _ _ us hl => match us, hl with | [_], _ => rfl) (fun cdv Ar outer s H E B hr =>
    (dss_one (ds_ret (de_makeV (i := 0) T.mk_Film (ok_Film___init__ T) rfl (hr.mono (by decide)) (takesF rfl rfl rfl rfl) (pv 0) (da_cons (de_tup (da_cons (de_make0 T.mk_Light (ok_Light___init__ T) rfl (hr.mono (by decide)) rfl T.M_Light (takesF rfl rfl rfl rfl)) (da_cons (de_make0 T.mk_Light (ok_Light___init__ T) rfl (hr.mono (by decide)) rfl T.M_Light (takesF rfl rfl rfl rfl)) (da_cons de_bl da_nil)))) (da_cons (de_tup (da_cons (de_make0 T.mk_Light (ok_Light___init__ T) rfl (hr.mono (by decide)) rfl T.M_Light (takesF rfl rfl rfl rfl)) (da_cons (de_make0 T.mk_Light (ok_Light___init__ T) rfl (hr.mono (by decide)) rfl T.M_Light (takesF rfl rfl rfl rfl)) (da_cons de_bl da_nil)))) da_nil))))))
theorem sc_Ink_film : FnScope ["self", "bare", "inked", "nothing"] ["self"] (defScope s_Ink_film) := ⟨rfl, rfl, rfl, by decide +kernel, rfl, by decide +kernel, by decide +kernel⟩
@[reducible] def m_Ink_film : SM := sSeq (sSet2 1 2 (eTup (aCons (eFld [("Ink", 0), ("Filter", 0), ("Bleach", 0)] (eVar 0)) (aCons (eFld [("Ink", 1), ("Filter", 1), ("Bleach", 1)] (eVar 0)) (aCons (eC (.bl true)) (aNil)))))) (sSeq (sSet 3 (eCMeth "Film" (arN 1) g_Film_nothing aNil)) (sSeq (sIf (bOf isB (eOp (fEq) (eFld [("Ink", 2), ("Filter", 2), ("Bleach", 2)] (eVar 0)) (eC (.str "inked")))) (sSet 1 (eFld [("Film", 0)] (eVar 3))) (sNil)) (sSeq (sIf (bOf isB (eOp (fEq) (eFld [("Ink", 2), ("Filter", 2), ("Bleach", 2)] (eVar 0)) (eC (.str "bare")))) (sSet 2 (eFld [("Film", 1)] (eVar 3))) (sNil)) (sRet (eMake "Film" (arN 2) g_Film___init__ (aCons (eVar 1) (aCons (eVar 2) (aNil))))))))
def g_Ink_film : FM := runB 4 m_Ink_film
theorem ok_Ink_film (T : Tx P K mg C A FD) : FnG P w K mg base C NN 5 (A "Ink.film") (arN 1) g_Ink_film :=
  fng_of T.F_Ink_film sc_Ink_film (T.F_Ink_film.binds (ps := ["self"]) fun _ _ _ _ _ _ us hl => match us, hl with | [_], _ => rfl) (fun cdv Ar outer s H E B hr =>
    (dss_cons (ds_set2 (de_tup (da_cons (de_fld (ks := [("Ink", 0), ("Filter", 0), ("Bleach", 0)]) rfl (kix_all (all_cons (hf_Ink_off T) (all_cons (hf_Filter_off T) (all_cons (hf_Bleach_off T) all_nil)))) (de_var (pv 0))) (da_cons (de_fld (ks := [("Ink", 1), ("Filter", 1), ("Bleach", 1)]) rfl (kix_all (all_cons (hf_Ink_on T) (all_cons (hf_Filter_on T) (all_cons (hf_Bleach_on T) all_nil)))) (de_var (pv 0))) (da_cons de_bl da_nil)))) (pg_name (i := 1) sc_Ink_film.nd rfl (Or.inl rfl)) (pg_name (i := 2) sc_Ink_film.nd rfl (Or.inl rfl)))
    (dss_cons (ds_set (i := 3) sc_Ink_film.nd rfl (Or.inl rfl) (let ⟨_, h1⟩ := T.cm_Film_nothing; de_cmeth0 rfl rfl T.M_Film T.cr_Film h1 (ok_Film_nothing T) (hr.mono (by decide)) (takesF rfl rfl rfl rfl)))
    (dss_cons (ds_if (db_cmp (dop_eq rfl hr.units) (de_fld (ks := [("Ink", 2), ("Filter", 2), ("Bleach", 2)]) rfl (kix_all (all_cons (hf_Ink_takes T) (all_cons (hf_Filter_takes T) (all_cons (hf_Bleach_takes T) all_nil)))) (de_var (pv 0))) de_str (nomark _)) (dss_one (ds_set (i := 1) sc_Ink_film.nd rfl (Or.inl rfl) (de_fld (ks := [("Film", 0)]) rfl (kix_all (all_cons (hf_Film_bare T) all_nil)) (de_var (pv 3))))) dss_nil)
    (dss_cons (ds_if (db_cmp (dop_eq rfl hr.units) (de_fld (ks := [("Ink", 2), ("Filter", 2), ("Bleach", 2)]) rfl (kix_all (all_cons (hf_Ink_takes T) (all_cons (hf_Filter_takes T) (all_cons (hf_Bleach_takes T) all_nil)))) (de_var (pv 0))) de_str (nomark _)) (dss_one (ds_set (i := 2) sc_Ink_film.nd rfl (Or.inl rfl) (de_fld (ks := [("Film", 1)]) rfl (kix_all (all_cons (hf_Film_inked T) all_nil)) (de_var (pv 3))))) dss_nil)
    (dss_one (ds_ret (de_make T.mk_Film (ok_Film___init__ T) rfl (hr.mono (by decide)) rfl T.M_Film (takesF rfl rfl rfl rfl) (da_cons (de_var (pv 1)) (da_cons (de_var (pv 2)) da_nil))))))))))
theorem hm_Bleach_film (T : Tx P K mg C A FD) : HasM P w K mg base C NN 5 "film" "Bleach" (arN 1) g_Ink_film := ⟨T.cl_Bleach, by decide +kernel, _, T.me_Bleach_film, ok_Ink_film T⟩
theorem hm_Filter_film (T : Tx P K mg C A FD) : HasM P w K mg base C NN 5 "film" "Filter" (arN 1) g_Ink_film := ⟨T.cl_Filter, by decide +kernel, _, T.me_Filter_film, ok_Ink_film T⟩
theorem hm_Ink_film (T : Tx P K mg C A FD) : HasM P w K mg base C NN 5 "film" "Ink" (arN 1) g_Ink_film := ⟨T.cl_Ink, by decide +kernel, _, T.me_Ink_film, ok_Ink_film T⟩
theorem sc__light : FnScope ["number", "bands"] ["number"] (defScope s__light) := ⟨rfl, rfl, rfl, by decide +kernel, rfl, by decide +kernel, by decide +kernel⟩
@[reducible] def m__light : SM := sSeq (sSet 1 (eCall (arN 1) g__bands_of (aCons (eVar 0) (aNil)))) (sRet (eMake "Light" (arS 0) g_Light___init__ (aStX (eVar 1) aNil)))
def g__light : FM := runB 2 m__light
theorem ok__light (T : Tx P K mg C A FD) : FnG P w K mg base C NN 4 (A "_light") (arN 1) g__light :=
  fng_of T.F__light sc__light (T.F__light.binds (ps := ["number"]) fun _ _ _ _ _ _ us hl => match us, hl with | [_], _ => rfl) (fun cdv Ar outer s H E B hr =>
    (dss_cons (ds_set (i := 1) sc__light.nd rfl (Or.inl rfl) (de_call (ok__bands_of T) rfl (hr.mono (by decide)) rfl T.M__bands_of T.F__bands_of.kp (takesF rfl rfl rfl rfl) (da_cons (de_var (pv 0)) da_nil)))
    (dss_one (ds_ret (de_makeSX T.mk_Light (ok_Light___init__ T) rfl (hr.mono (by decide)) rfl T.M_Light (takesF rfl rfl rfl rfl) (de_var (pv 1)))))))
theorem sc_Light___and__ : FnScope ["self", "other"] ["self", "other"] (defScope s_Light___and__) := ⟨rfl, rfl, rfl, by decide +kernel, rfl, by decide +kernel, by decide +kernel⟩
@[reducible] def m_Light___and__ : SM := sRet (eCall (arN 1) g__light (aCons (eOp (fAnd) (eFld [("Light", 1)] (eVar 0)) (eFld [("Light", 1)] (eVar 1))) (aNil)))
def g_Light___and__ : FM := runB 2 m_Light___and__
theorem ok_Light___and__ (T : Tx P K mg C A FD) : FnG P w K mg base C NN 5 (A "Light.__and__") (arN 2) g_Light___and__ :=
  fng_of T.F_Light___and__ sc_Light___and__ (T.F_Light___and__.binds (ps := ["self", "other"]) fun _ _ _ _ _ _ us hl => match us, hl with | [_, _], _ => rfl) (fun cdv Ar outer s H E B hr =>
    (dss_one (ds_ret (de_call (ok__light T) rfl (hr.mono (by decide)) rfl T.M__light T.F__light.kp (takesF rfl rfl rfl rfl) (da_cons (de_op dop_and (de_fld (ks := [("Light", 1)]) rfl (kix_all (all_cons (hf_Light_number T) all_nil)) (de_var (pv 0))) (de_fld (ks := [("Light", 1)]) rfl (kix_all (all_cons (hf_Light_number T) all_nil)) (de_var (pv 1)))) da_nil)))))
theorem sc_Light___bool__ : FnScope ["self"] ["self"] (defScope s_Light___bool__) := ⟨rfl, rfl, rfl, by decide +kernel, rfl, by decide +kernel, by decide +kernel⟩
@[reducible] def m_Light___bool__ : SM := sRet (eFN fBoolT (aCons (eFld [("Light", 0)] (eVar 0)) (aNil)))
def g_Light___bool__ : FM := runB 1 m_Light___bool__
theorem ok_Light___bool__ (T : Tx P K mg C A FD) : FnG P w K mg base C NN 1 (A "Light.__bool__") (arN 1) g_Light___bool__ :=
  fng_of T.F_Light___bool__ sc_Light___bool__ (T.F_Light___bool__.binds (ps := ["self"]) fun _ _ _ _ _ _ us hl => match us, hl with | [_], _ => rfl) (fun cdv Ar outer s H E B hr =>
    (dss_one (ds_ret (de_callT (dcall_boolT rfl) rfl T.no_bool boot_bool (da_cons (de_fld (ks := [("Light", 0)]) rfl (kix_all (all_cons (hf_Light_bands T) all_nil)) (de_var (pv 0))) da_nil)))))
theorem sc_Ink___init__ : FnScope ["self", "off", "on", "takes", "shared"] ["self", "off", "on", "takes"] (defScope s_Ink___init__) := ⟨rfl, rfl, rfl, by decide +kernel, rfl, by decide +kernel, by decide +kernel⟩
theorem kb_Ink___init__ (T : Tx P K mg C A FD) : KBn K (FD "Ink.__init__") ["self", "off", "on", "takes"] 3 ["takes"] (· ++ ·) (· ++ ·) := T.F_Ink___init__.kbn fun _ _ _ _ _ _ us ws h1 h2 => match us, ws, h1, h2 with | [_, _, _], [_], _, _ => rfl
@[reducible] def m_Ink___init___for_Bleach : SM := sSeq (sSet 4 (eOp (alt2 (fAnd) (fOwn "Light" (arN 2) g_Light___and__)) (eVar 1) (eVar 2))) (sSeq (sIf (bOf (truO "Light" (arN 1) g_Light___bool__) (eVar 4)) (sSt) (sNil)) (sSeq (sIf (bOf isB (eOp (fNotInS) (eVar 3) (eC (.tup ([("any" : Str), ("bare" : Str), ("inked" : Str)].map .str))))) (sSt) (sNil)) (sSeq (sFld 0 "Bleach" 0 (eVar 1)) (sSeq (sFld 0 "Bleach" 1 (eVar 2)) (sFld 0 "Bleach" 2 (eVar 3))))))
def g_Ink___init___for_Bleach : IM := runI 5 "Bleach" m_Ink___init___for_Bleach
theorem ok_Ink___init___for_Bleach (T : Tx P K mg C A FD) : FnOk P w K mg base (L2N.CX P w) 6 (A "Ink.__init__") (FD "Ink.__init__") ["self", "off", "on", "takes"] (SpI K C NN "Bleach" (arN 3) g_Ink___init___for_Bleach) :=
  fnoi_of T.F_Ink___init__ sc_Ink___init__ (fun cdv Ar outer s H E B x hr =>
    (dss_cons (ds_set (i := 4) sc_Ink___init__.nd rfl (Or.inl rfl) (de_op (opr_alt dop_and (dop_own rfl (hr.mono (by decide)) T.sf_Light___and__ T.ow_Light___and__ T.fn_Light___and__ (ok_Light___and__ T))) (de_var (pv 1)) (de_var (pv 2))))
    (dss_cons (ds_if (db_truO rfl (hr.mono (by decide)) (takesF rfl rfl rfl rfl) T.ow_Light___bool__ T.fn_Light___bool__ (ok_Light___bool__ T) (de_var (pv 4))) (dss_one ds_never) dss_nil)
    (dss_cons (ds_if (db_cmp (dop_notinS rfl) (de_var (pv 3)) (de_ctup (cl := "Ink") rfl rfl T.M_Ink T.cr_Ink T.ct_Ink_TAKES) (by rfl)) (dss_one ds_never) dss_nil)
    (dss_cons (ds_fld (hf_Bleach_off T) (pv 0) (de_var (pv 1)))
    (dss_cons (ds_fld (hf_Bleach_on T) (pv 0) (de_var (pv 2)))
    (dss_one (ds_fld (hf_Bleach_takes T) (pv 0) (de_var (pv 3))))))))))
theorem sc_Bleach___init__ : NdefX.NScope ["self", "light", "takes", "__class__"] ["self", "light", "takes"] [("__class__" : Str)] (defScope s_Bleach___init__) := NdefX.nscope_by (by decide +kernel)
@[reducible] def m_Bleach___init__ : AM := aApp 2 1 (aCons (eMake "Light" (arS 0) g_Light___init__ aNil) (aCons (eVar 1) (aNil))) (aCons (eVar 2) (aNil))
def g_Bleach___init__ : IM := runS 4 "Bleach" m_Bleach___init__ (arN 3) g_Ink___init___for_Bleach
theorem ok_Bleach___init__ (T : Tx P K mg C A FD) : FnOk P w K mg base (L2N.CX P w) 7 (A "Bleach.__init__") (FD "Bleach.__init__") ["self", "light", "takes"] (SpI K C NN "Bleach" (arN 2) g_Bleach___init__) :=
  supi_ok (k := 6) (k2 := 6) (n := 2) (Nm := ["self", "light", "takes", "__class__"]) T.su_Bleach sc_Bleach___init__ (ok_Ink___init___for_Bleach T) (kb_Ink___init__ T) (by decide) rfl rfl (fun cc c Ar outer s H E B x hr => ⟨(da_cons (de_make0 T.mk_Light (ok_Light___init__ T) rfl (hr.mono (by decide)) rfl T.M_Light (takesF rfl rfl rfl rfl)) (da_cons (de_var (pv 1)) da_nil)),
    (dk_cons (de_var (pv 2)) dk_nil)⟩)
@[reducible] def m_Ink___init___for_Filter : SM := sSeq (sSet 4 (eOp (alt2 (fAnd) (fOwn "Light" (arN 2) g_Light___and__)) (eVar 1) (eVar 2))) (sSeq (sIf (bOf (truO "Light" (arN 1) g_Light___bool__) (eVar 4)) (sSt) (sNil)) (sSeq (sIf (bOf isB (eOp (fNotInS) (eVar 3) (eC (.tup ([("any" : Str), ("bare" : Str), ("inked" : Str)].map .str))))) (sSt) (sNil)) (sSeq (sFld 0 "Filter" 0 (eVar 1)) (sSeq (sFld 0 "Filter" 1 (eVar 2)) (sFld 0 "Filter" 2 (eVar 3))))))
def g_Ink___init___for_Filter : IM := runI 5 "Filter" m_Ink___init___for_Filter
theorem ok_Ink___init___for_Filter (T : Tx P K mg C A FD) : FnOk P w K mg base (L2N.CX P w) 6 (A "Ink.__init__") (FD "Ink.__init__") ["self", "off", "on", "takes"] (SpI K C NN "Filter" (arN 3) g_Ink___init___for_Filter) :=
  fnoi_of T.F_Ink___init__ sc_Ink___init__ (fun cdv Ar outer s H E B x hr =>
    (dss_cons (ds_set (i := 4) sc_Ink___init__.nd rfl (Or.inl rfl) (de_op (opr_alt dop_and (dop_own rfl (hr.mono (by decide)) T.sf_Light___and__ T.ow_Light___and__ T.fn_Light___and__ (ok_Light___and__ T))) (de_var (pv 1)) (de_var (pv 2))))
    (dss_cons (ds_if (db_truO rfl (hr.mono (by decide)) (takesF rfl rfl rfl rfl) T.ow_Light___bool__ T.fn_Light___bool__ (ok_Light___bool__ T) (de_var (pv 4))) (dss_one ds_never) dss_nil)
    (dss_cons (ds_if (db_cmp (dop_notinS rfl) (de_var (pv 3)) (de_ctup (cl := "Ink") rfl rfl T.M_Ink T.cr_Ink T.ct_Ink_TAKES) (by rfl)) (dss_one ds_never) dss_nil)
    (dss_cons (ds_fld (hf_Filter_off T) (pv 0) (de_var (pv 1)))
    (dss_cons (ds_fld (hf_Filter_on T) (pv 0) (de_var (pv 2)))
    (dss_one (ds_fld (hf_Filter_takes T) (pv 0) (de_var (pv 3))))))))))
theorem sc_Filter___init__ : NdefX.NScope ["self", "light", "takes", "__class__"] ["self", "light", "takes"] [("__class__" : Str)] (defScope s_Filter___init__) := NdefX.nscope_by (by decide +kernel)
@[reducible] def m_Filter___init__ : AM := aApp 2 1 (aCons (eVar 1) (aCons (eMake "Light" (arS 0) g_Light___init__ aNil) (aNil))) (aCons (eVar 2) (aNil))
def g_Filter___init__ : IM := runS 4 "Filter" m_Filter___init__ (arN 3) g_Ink___init___for_Filter
theorem ok_Filter___init__ (T : Tx P K mg C A FD) : FnOk P w K mg base (L2N.CX P w) 7 (A "Filter.__init__") (FD "Filter.__init__") ["self", "light", "takes"] (SpI K C NN "Filter" (arN 2) g_Filter___init__) :=
  supi_ok (k := 6) (k2 := 6) (n := 2) (Nm := ["self", "light", "takes", "__class__"]) T.su_Filter sc_Filter___init__ (ok_Ink___init___for_Filter T) (kb_Ink___init__ T) (by decide) rfl rfl (fun cc c Ar outer s H E B x hr => ⟨(da_cons (de_var (pv 1)) (da_cons (de_make0 T.mk_Light (ok_Light___init__ T) rfl (hr.mono (by decide)) rfl T.M_Light (takesF rfl rfl rfl rfl)) da_nil)),
    (dk_cons (de_var (pv 2)) dk_nil)⟩)
theorem sc_Chart_fork : FnScope ["mask", "when_shut", "when_open"] ["mask", "when_shut", "when_open"] (defScope s_Chart_fork) := ⟨rfl, rfl, rfl, by decide +kernel, rfl, by decide +kernel, by decide +kernel⟩
@[reducible] def m_Chart_fork : SM := sRet (eMake "Chart" (arN 4) g_Chart___init__ (aCons (eVar 0) (aCons (eC .non) (aCons (eVar 1) (aCons (eVar 2) (aNil))))))
def g_Chart_fork : FM := runB 3 m_Chart_fork
theorem ok_Chart_fork (T : Tx P K mg C A FD) : FnG P w K mg base C NN 3 (A "Chart.fork") (arN 3) g_Chart_fork :=
  fng_of T.F_Chart_fork sc_Chart_fork (T.F_Chart_fork.binds (ps := ["mask", "when_shut", "when_open"]) fun _ _ _ _ _ _ us hl => match us, hl with | [_, _, _], _ => rfl) (fun cdv Ar outer s H E B hr =>
    (dss_one (ds_ret (de_make T.mk_Chart (ok_Chart___init__ T) rfl (hr.mono (by decide)) rfl T.M_Chart (takesF rfl rfl rfl rfl) (da_cons (de_var (pv 0)) (da_cons de_non (da_cons (de_var (pv 1)) (da_cons (de_var (pv 2)) da_nil))))))))
theorem sc__law_made : FnScope ["_law_tree_here"] ["_law_tree_here"] (defScope s__law_made) := ⟨rfl, rfl, rfl, by decide +kernel, rfl, by decide +kernel, by decide +kernel⟩
@[reducible] def mR__law_made (gS : FM) : SM := sSeq (sIf (bOf isB (eOp (fIs) (eOp fIx (eVar 0) (eC (.int 0))) (eC .non))) (sRet (eCall (arN 1) g_Chart_end (aCons (eOp fIx (eLst (aCons (eCMeth "Film" (arN 1) g_Film_nothing aNil) (aCons (eMeth [("Ink", ((arN 1 : DL.Ar), g_Ink_film)), ("Filter", ((arN 1 : DL.Ar), g_Ink_film)), ("Bleach", ((arN 1 : DL.Ar), g_Ink_film))] (eMake "Filter" (arN 1) (dflI [.str "any"] g_Filter___init__) (aCons (eMake "Light" (arS 0) g_Light___init__ (aCons (eC (.int 0)) (aNil))) (aNil))) aNil) (aCons (eMeth [("Ink", ((arN 1 : DL.Ar), g_Ink_film)), ("Filter", ((arN 1 : DL.Ar), g_Ink_film)), ("Bleach", ((arN 1 : DL.Ar), g_Ink_film))] (eMake "Bleach" (arN 1) (dflI [.str "any"] g_Bleach___init__) (aCons (eMake "Light" (arS 0) g_Light___init__ (aCons (eC (.int 0)) (aCons (eC (.int 5)) (aNil)))) (aNil))) aNil) (aNil))))) (eOp fIx (eVar 0) (eC (.int 1)))) (aNil)))) (sNil)) (sRet (eCall (arN 3) g_Chart_fork (aCons (eOp fIx (eVar 0) (eC (.int 0))) (aCons (eCall (arN 1) gS (aCons (eOp fIx (eVar 0) (eC (.int 1))) (aNil))) (aCons (eCall (arN 1) gS (aCons (eOp fIx (eVar 0) (eC (.int 2))) (aNil))) (aNil))))))
def gF__law_made : Nat → FM
  | 0 => runB 1 (fun _ _ => .st)
  | n9 + 1 => runB 1 (mR__law_made (gF__law_made n9))
def g__law_made : FM := gF__law_made 8
theorem okF__law_made (T : Tx P K mg C A FD) : ∀ n9 : Nat, FnG P w K mg base C NN (9 + n9) (A "_law_made") (arN 1) (gF__law_made n9)
  | 0 => fng_of (k := 8) (m := fun _ _ => .st) T.F__law_made sc__law_made (T.F__law_made.binds (ps := ["_law_tree_here"]) fun _ _ _ _ _ _ us hl => match us, hl with | [_], _ => rfl) (fun cdv Ar outer s H E B hr => dss_st)
  | n9 + 1 => fng_of (k := 9 + n9) (m := mR__law_made (gF__law_made n9)) T.F__law_made sc__law_made (T.F__law_made.binds (ps := ["_law_tree_here"]) fun _ _ _ _ _ _ us hl => match us, hl with | [_], _ => rfl) (fun cdv Ar outer s H E B hr =>
    (dss_cons (ds_if (db_cmp dop_is (de_ix (dix rfl) (de_var (pv 0)) de_int) de_non (nomark _)) (dss_one (ds_ret (let ⟨_, h1⟩ := T.sm_Chart_end; de_smeth rfl rfl T.M_Chart T.cr_Chart h1 (ok_Chart_end T) (hr.mono (by omega)) (takesF rfl rfl rfl rfl) (da_cons (de_ix (dix rfl) (de_lst (da_cons (let ⟨_, h1⟩ := T.cm_Film_nothing; de_cmeth0 rfl rfl T.M_Film T.cr_Film h1 (ok_Film_nothing T) (hr.mono (by omega)) (takesF rfl rfl rfl rfl)) (da_cons (de_meth0 (lv := 5) rfl (hr.mono (by omega)) (takesF rfl rfl rfl rfl) (fun k A g => kfn_all (all_cons (hm_Ink_film T) (all_cons (hm_Filter_film T) (all_cons (hm_Bleach_film T) all_nil))) k A g) (de_make T.mk_Filter (fni_dfl (dds := [.str "any"]) (ok_Filter___init__ T) T.bd_Filter___init__ (.cons cst_str .nil) rfl) rfl (hr.mono (by omega)) rfl T.M_Filter (takesF rfl rfl rfl rfl) (da_cons (de_make T.mk_Light (ok_Light___init__ T) rfl (hr.mono (by omega)) rfl T.M_Light (takesF rfl rfl rfl rfl) (da_cons de_int da_nil)) da_nil))) (da_cons (de_meth0 (lv := 5) rfl (hr.mono (by omega)) (takesF rfl rfl rfl rfl) (fun k A g => kfn_all (all_cons (hm_Ink_film T) (all_cons (hm_Filter_film T) (all_cons (hm_Bleach_film T) all_nil))) k A g) (de_make T.mk_Bleach (fni_dfl (dds := [.str "any"]) (ok_Bleach___init__ T) T.bd_Bleach___init__ (.cons cst_str .nil) rfl) rfl (hr.mono (by omega)) rfl T.M_Bleach (takesF rfl rfl rfl rfl) (da_cons (de_make T.mk_Light (ok_Light___init__ T) rfl (hr.mono (by omega)) rfl T.M_Light (takesF rfl rfl rfl rfl) (da_cons de_int (da_cons de_int da_nil))) da_nil))) da_nil)))) (de_ix (dix rfl) (de_var (pv 0)) de_int)) da_nil)))) dss_nil)
    (dss_one (ds_ret (let ⟨_, h1⟩ := T.sm_Chart_fork; de_smeth rfl rfl T.M_Chart T.cr_Chart h1 (ok_Chart_fork T) (hr.mono (by omega)) (takesF rfl rfl rfl rfl) (da_cons (de_ix (dix rfl) (de_var (pv 0)) de_int) (da_cons (de_call (okF__law_made T n9) rfl (hr.mono (by omega)) rfl T.M__law_made T.F__law_made.kp (takesF rfl rfl rfl rfl) (da_cons (de_ix (dix rfl) (de_var (pv 0)) de_int) da_nil)) (da_cons (de_call (okF__law_made T n9) rfl (hr.mono (by omega)) rfl T.M__law_made T.F__law_made.kp (takesF rfl rfl rfl rfl) (da_cons (de_ix (dix rfl) (de_var (pv 0)) de_int) da_nil)) da_nil))))))))
theorem ok__law_made (T : Tx P K mg C A FD) : FnG P w K mg base C NN 17 (A "_law_made") (arN 1) g__law_made := okF__law_made T 8
theorem sc__law_is : FnScope ["_law_actual", "_law_expected"] ["_law_actual", "_law_expected"] (defScope s__law_is) := ⟨rfl, rfl, rfl, by decide +kernel, rfl, by decide +kernel, by decide +kernel⟩
@[reducible] def m__law_is : SM := sRet (eAnd (eFN (fIsi TB) (aCons (eVar 0) (aCons (eC (.ty "bool")) (aNil)))) (eOp (fEq) (eVar 0) (eVar 1)))
def g__law_is : FM := runB 2 m__law_is
theorem ok__law_is (T : Tx P K mg C A FD) : FnG P w K mg base C NN 1 (A "_law_is") (arN 2) g__law_is :=
  fng_of T.F__law_is sc__law_is (T.F__law_is.binds (ps := ["_law_actual", "_law_expected"]) fun _ _ _ _ _ _ us hl => match us, hl with | [_, _], _ => rfl) (fun cdv Ar outer s H E B hr =>
    (dss_one (ds_ret (de_and (de_callB (dcall_isi (tb := TB) rfl T.ik (fun _ _ _ h => isi_tb T h)) rfl T.no_isinstance boot_isinstance (da_cons (de_var (pv 0)) (da_cons (de_c (v := V.ty "bool") (pe_bltn rfl T.no_bool boot_bool rfl) (fun _ _ _ => Rep.ty)) da_nil))) (de_one (de_cmp (dop_eq rfl hr.units) (de_var (pv 0)) (de_var (pv 1)) (nomark _)))))))
theorem sc__law_plain : FnScope ["_law_tree_here", "_law_above"] ["_law_tree_here", "_law_above"] (defScope s__law_plain) := ⟨rfl, rfl, rfl, by decide +kernel, rfl, by decide +kernel, by decide +kernel⟩
@[reducible] def mR__law_plain (gS : FM) : SM := sSeq (sIf (bOf isB (eOp (fIs) (eOp fIx (eVar 0) (eC (.int 0))) (eC .non))) (sRet (eC (.bl true))) (sNil)) (sSeq (sIf (bOr (bOf isB (eOp (fLeS) (eOp fIx (eVar 0) (eC (.int 0))) (eVar 1))) (bOf isB (eOp (fEq) (eOp fIx (eVar 0) (eC (.int 1))) (eOp fIx (eVar 0) (eC (.int 2)))))) (sRet (eC (.bl false))) (sNil)) (sRet (eAnd (eCall (arN 2) gS (aCons (eOp fIx (eVar 0) (eC (.int 1))) (aCons (eOp fIx (eVar 0) (eC (.int 0))) (aNil)))) (eCall (arN 2) gS (aCons (eOp fIx (eVar 0) (eC (.int 2))) (aCons (eOp fIx (eVar 0) (eC (.int 0))) (aNil)))))))
def gF__law_plain : Nat → FM
  | 0 => runB 2 (fun _ _ => .st)
  | n9 + 1 => runB 2 (mR__law_plain (gF__law_plain n9))
def g__law_plain : FM := gF__law_plain 8
theorem okF__law_plain (T : Tx P K mg C A FD) : ∀ n9 : Nat, FnG P w K mg base C NN (1 + n9) (A "_law_plain") (arN 2) (gF__law_plain n9)
  | 0 => fng_of (k := 0) (m := fun _ _ => .st) T.F__law_plain sc__law_plain (T.F__law_plain.binds (ps := ["_law_tree_here", "_law_above"]) fun _ _ _ _ _ _ us hl => match us, hl with | [_, _], _ => rfl) (fun cdv Ar outer s H E B hr => dss_st)
  | n9 + 1 => fng_of (k := 1 + n9) (m := mR__law_plain (gF__law_plain n9)) T.F__law_plain sc__law_plain (T.F__law_plain.binds (ps := ["_law_tree_here", "_law_above"]) fun _ _ _ _ _ _ us hl => match us, hl with | [_, _], _ => rfl) (fun cdv Ar outer s H E B hr =>
    (dss_cons (ds_if (db_cmp dop_is (de_ix (dix rfl) (de_var (pv 0)) de_int) de_non (nomark _)) (dss_one (ds_ret de_bl)) dss_nil)
    (dss_cons (ds_if (DW.db (dw_or (db_cmp dop_leS (de_ix (dix rfl) (de_var (pv 0)) de_int) (de_var (pv 1)) (nomark _)) (dw_or1 (db_cmp (dop_eq rfl hr.units) (de_ix (dix rfl) (de_var (pv 0)) de_int) (de_ix (dix rfl) (de_var (pv 0)) de_int) (nomark _))))) (dss_one (ds_ret de_bl)) dss_nil)
    (dss_one (ds_ret (de_and (de_call (okF__law_plain T n9) rfl (hr.mono (by omega)) rfl T.M__law_plain T.F__law_plain.kp (takesF rfl rfl rfl rfl) (da_cons (de_ix (dix rfl) (de_var (pv 0)) de_int) (da_cons (de_ix (dix rfl) (de_var (pv 0)) de_int) da_nil))) (de_one (de_call (okF__law_plain T n9) rfl (hr.mono (by omega)) rfl T.M__law_plain T.F__law_plain.kp (takesF rfl rfl rfl rfl) (da_cons (de_ix (dix rfl) (de_var (pv 0)) de_int) (da_cons (de_ix (dix rfl) (de_var (pv 0)) de_int) da_nil))))))))))
theorem ok__law_plain (T : Tx P K mg C A FD) : FnG P w K mg base C NN 9 (A "_law_plain") (arN 2) g__law_plain := okF__law_plain T 8
theorem sc__is_plain_behind : FnScope ["mask", "chart"] ["mask", "chart"] (defScope s__is_plain_behind) := ⟨rfl, rfl, rfl, by decide +kernel, rfl, by decide +kernel, by decide +kernel⟩
@[reducible] def mR__is_plain_behind (gS : FM) : SM := sSeq (sIf (bOf isB (eOp (fIs) (eFld [("Chart", 0)] (eVar 1)) (eC .non))) (sRet (eC (.bl true))) (sNil)) (sSeq (sIf (bAnd (bOf isB (eOp (fIsNot) (eVar 0) (eC .non))) (bOf isB (eOp (fLeS) (eFld [("Chart", 0)] (eVar 1)) (eVar 0)))) (sRet (eC (.bl false))) (sNil)) (sSeq (sIf (bOf isB (eOp (alt2 (fEq) (fEqO NT_Chart "Chart" (arN 2) g_Chart___eq__)) (eFld [("Chart", 2)] (eVar 1)) (eFld [("Chart", 3)] (eVar 1)))) (sRet (eC (.bl false))) (sNil)) (sRet (eAnd (eCall (arN 2) gS (aCons (eFld [("Chart", 0)] (eVar 1)) (aCons (eFld [("Chart", 2)] (eVar 1)) (aNil)))) (eCall (arN 2) gS (aCons (eFld [("Chart", 0)] (eVar 1)) (aCons (eFld [("Chart", 3)] (eVar 1)) (aNil))))))))
def gF__is_plain_behind : Nat → FM
  | 0 => runB 2 (fun _ _ => .st)
  | n9 + 1 => runB 2 (mR__is_plain_behind (gF__is_plain_behind n9))
def g__is_plain_behind : FM := gF__is_plain_behind 8
theorem okF__is_plain_behind (T : Tx P K mg C A FD) : ∀ n9 : Nat, FnG P w K mg base C NN (13 + n9) (A "_is_plain_behind") (arN 2) (gF__is_plain_behind n9)
  | 0 => fng_of (k := 12) (m := fun _ _ => .st) T.F__is_plain_behind sc__is_plain_behind (T.F__is_plain_behind.binds (ps := ["mask", "chart"]) fun _ _ _ _ _ _ us hl => match us, hl with | [_, _], _ => rfl) (fun cdv Ar outer s H E B hr => dss_st)
  | n9 + 1 => fng_of (k := 13 + n9) (m := mR__is_plain_behind (gF__is_plain_behind n9)) T.F__is_plain_behind sc__is_plain_behind (T.F__is_plain_behind.binds (ps := ["mask", "chart"]) fun _ _ _ _ _ _ us hl => match us, hl with | [_, _], _ => rfl) (fun cdv Ar outer s H E B hr =>
    (dss_cons (ds_if (db_cmp dop_is (de_fld (ks := [("Chart", 0)]) rfl (kix_all (all_cons (hf_Chart_mask T) all_nil)) (de_var (pv 1))) de_non (nomark _)) (dss_one (ds_ret de_bl)) dss_nil)
    (dss_cons (ds_if (DW.db (dw_and (db_cmp dop_isnot (de_var (pv 0)) de_non (nomark _)) (dw_and1 (db_cmp dop_leS (de_fld (ks := [("Chart", 0)]) rfl (kix_all (all_cons (hf_Chart_mask T) all_nil)) (de_var (pv 1))) (de_var (pv 0)) (nomark _))))) (dss_one (ds_ret de_bl)) dss_nil)
    (dss_cons (ds_if (db_cmp (opr_alt (dop_eq rfl hr.units) (dop_eqO rfl (hr.mono (by omega)) (nt_Chart T) T.ow_Chart___eq__ T.fn_Chart___eq__ (ok_Chart___eq__ T))) (de_fld (ks := [("Chart", 2)]) rfl (kix_all (all_cons (hf_Chart_when_shut T) all_nil)) (de_var (pv 1))) (de_fld (ks := [("Chart", 3)]) rfl (kix_all (all_cons (hf_Chart_when_open T) all_nil)) (de_var (pv 1))) (nomark _)) (dss_one (ds_ret de_bl)) dss_nil)
    (dss_one (ds_ret (de_and (de_call (okF__is_plain_behind T n9) rfl (hr.mono (by omega)) rfl T.M__is_plain_behind T.F__is_plain_behind.kp (takesF rfl rfl rfl rfl) (da_cons (de_fld (ks := [("Chart", 0)]) rfl (kix_all (all_cons (hf_Chart_mask T) all_nil)) (de_var (pv 1))) (da_cons (de_fld (ks := [("Chart", 2)]) rfl (kix_all (all_cons (hf_Chart_when_shut T) all_nil)) (de_var (pv 1))) da_nil))) (de_one (de_call (okF__is_plain_behind T n9) rfl (hr.mono (by omega)) rfl T.M__is_plain_behind T.F__is_plain_behind.kp (takesF rfl rfl rfl rfl) (da_cons (de_fld (ks := [("Chart", 0)]) rfl (kix_all (all_cons (hf_Chart_mask T) all_nil)) (de_var (pv 1))) (da_cons (de_fld (ks := [("Chart", 3)]) rfl (kix_all (all_cons (hf_Chart_when_open T) all_nil)) (de_var (pv 1))) da_nil)))))))))))
theorem ok__is_plain_behind (T : Tx P K mg C A FD) : FnG P w K mg base C NN 21 (A "_is_plain_behind") (arN 2) g__is_plain_behind := okF__is_plain_behind T 8
theorem sc_Chart_is_plain : FnScope ["self"] ["self"] (defScope s_Chart_is_plain) := ⟨rfl, rfl, rfl, by decide +kernel, rfl, by decide +kernel, by decide +kernel⟩
@[reducible] def m_Chart_is_plain : SM := sRet (eCall (arN 2) g__is_plain_behind (aCons (eC .non) (aCons (eVar 0) (aNil))))
def g_Chart_is_plain : FM := runB 1 m_Chart_is_plain
theorem ok_Chart_is_plain (T : Tx P K mg C A FD) : FnG P w K mg base C NN 22 (A "Chart.is_plain") (arN 1) g_Chart_is_plain :=
  fng_of T.F_Chart_is_plain sc_Chart_is_plain (T.F_Chart_is_plain.binds (ps := ["self"]) fun _ _ _ _ _ _ us hl => match us, hl with | [_], _ => rfl) (fun cdv Ar outer s H E B hr =>
    (dss_one (ds_ret (de_call (ok__is_plain_behind T) rfl (hr.mono (by decide)) rfl T.M__is_plain_behind T.F__is_plain_behind.kp (takesF rfl rfl rfl rfl) (da_cons de_non (da_cons (de_var (pv 0)) da_nil))))))
theorem hm_Chart_is_plain (T : Tx P K mg C A FD) : HasM P w K mg base C NN 22 "is_plain" "Chart" (arN 1) g_Chart_is_plain := ⟨T.cl_Chart, by decide +kernel, _, T.me_Chart_is_plain, ok_Chart_is_plain T⟩
theorem sc_law : FnScope ["_law_script", "_law_box_here", "_law_names_here", "_law_rising", "_law_tree_here", "_law_other", "_law_way", "_law_a", "_law_b", "_law_plain_here"] ["_law_script"] (defScope s_law) := ⟨rfl, rfl, rfl, by decide +kernel, rfl, by decide +kernel, by decide +kernel⟩
@[reducible] def m_law : SM := sSeq (sSet 1 (eCall (arN 1) g__law_box (aCons (eVar 0) (aNil)))) (sSeq (sSet 2 (eFN fSortS (aCons (eCall (arN 2) g__law_names (aCons (eVar 1) (aCons (eCall (arN 2) g__law_draw (aCons (eVar 1) (aCons (eC (.int 5)) (aNil)))) (aNil)))) (aNil)))) (sSeq (sSet 3 (eOp (fGt) (eCall (arN 2) g__law_draw (aCons (eVar 1) (aCons (eC (.int 3)) (aNil)))) (eC (.int 0)))) (sSeq (sSet 4 (eCall (arN 4) g__law_tree (aCons (eVar 1) (aCons (eVar 2) (aCons (eC (.int 3)) (aCons (eVar 3) (aNil))))))) (sSeq (sSet 5 (eCall (arN 4) g__law_tree (aCons (eVar 1) (aCons (eVar 2) (aCons (eC (.int 3)) (aCons (eVar 3) (aNil))))))) (sSeq (sSet 6 (eCall (arN 2) g__law_draw (aCons (eVar 1) (aCons (eC (.int 3)) (aNil))))) (sSeq (sIf (bOf isB (eOp (alt2 (fEq) (fEqO NT_Chart "Chart" (arN 2) g_Chart___eq__)) (eVar 6) (eC (.int 0)))) (sSet 5 (eVar 4)) (sNil)) (sSeq (sIf (bAnd (bOf isB (eOp (alt2 (fEq) (fEqO NT_Chart "Chart" (arN 2) g_Chart___eq__)) (eVar 6) (eC (.int 1)))) (bOf isB (eOp (fIsNot) (eOp fIx (eVar 4) (eC (.int 0))) (eC .non)))) (sSet 5 (eTup (aCons (eOp fIx (eVar 4) (eC (.int 0))) (aCons (eOp fIx (eVar 4) (eC (.int 1))) (aCons (eVar 5) (aNil)))))) (sNil)) (sSeq (sSet 7 (eCall (arN 1) g__law_made (aCons (eVar 4) (aNil)))) (sSeq (sSet 8 (eCall (arN 1) g__law_made (aCons (eVar 5) (aNil)))) (sSeq (sIf (bOr (bNot (bOf truE (eCall (arN 2) g__law_is (aCons (eOp (alt2 (fEq) (fEqO NT_Chart "Chart" (arN 2) g_Chart___eq__)) (eVar 7) (eVar 8)) (aCons (eOp (alt2 (fEq) (fEqO NT_Chart "Chart" (arN 2) g_Chart___eq__)) (eVar 4) (eVar 5)) (aNil)))))) (bNot (bOf truE (eCall (arN 2) g__law_is (aCons (eOp (alt2 (fEq) (fEqO NT_Chart "Chart" (arN 2) g_Chart___eq__)) (eVar 8) (eVar 7)) (aCons (eOp (alt2 (fEq) (fEqO NT_Chart "Chart" (arN 2) g_Chart___eq__)) (eVar 4) (eVar 5)) (aNil))))))) (sRet (eC (.bl false))) (sNil)) (sSeq (sIf (bOf isB (eOp (fIsNotB) (eOp (alt2 (fEq) (fEqO NT_Chart "Chart" (arN 2) g_Chart___eq__)) (eVar 7) (eCMeth "Film" (arN 1) g_Film_nothing aNil)) (eC (.bl false)))) (sRet (eC (.bl false))) (sNil)) (sSeq (sSet 9 (eLst (aCons (eCall (arN 2) g__law_plain (aCons (eVar 4) (aCons (eC (.str "")) (aNil)))) (aCons (eCall (arN 2) g__law_plain (aCons (eVar 5) (aCons (eC (.str "")) (aNil)))) (aNil))))) (sSeq (sIf (bOr (bNot (bOf truE (eCall (arN 2) g__law_is (aCons (eMeth [("Chart", ((arN 1 : DL.Ar), g_Chart_is_plain))] (eVar 7) aNil) (aCons (eOp fIx (eVar 9) (eC (.int 0))) (aNil)))))) (bNot (bOf truE (eCall (arN 2) g__law_is (aCons (eMeth [("Chart", ((arN 1 : DL.Ar), g_Chart_is_plain))] (eVar 8) aNil) (aCons (eOp fIx (eVar 9) (eC (.int 1))) (aNil))))))) (sRet (eC (.bl false))) (sNil)) (sRet (eCall (arN 2) g__law_is (aCons (eMeth [("Chart", ((arN 1 : DL.Ar), g_Chart_is_plain))] (eCall (arN 3) g_Chart_fork (aCons (eC (.str "")) (aCons (eVar 7) (aCons (eVar 8) (aNil))))) aNil) (aCons (eAnd (eOp (fNe) (eVar 4) (eVar 5)) (eAnd (eOp fIx (eVar 9) (eC (.int 0))) (eOp fIx (eVar 9) (eC (.int 1))))) (aNil))))))))))))))))))
def g_law : FM := runB 10 m_law
theorem ok_law (T : Tx P K mg C A FD) : FnOk P w K mg base (L2N.CX P w) 23 (A "law") (FD "law") ["_law_script"] (Spd K C NN (arN 1) g_law) :=
  fno_of T.F_law sc_law (fun cdv Ar outer s H E B hr =>
    (dss_cons (ds_set (i := 1) sc_law.nd rfl (Or.inl rfl) (de_call (ok__law_box T) rfl (hr.mono (by decide)) rfl T.M__law_box T.F__law_box.kp (takesF rfl rfl rfl rfl) (da_cons (de_var (pv 0)) da_nil)))
    (dss_cons (ds_set (i := 2) sc_law.nd rfl (Or.inl rfl) (de_callB (dcall_sortS rfl) rfl T.no_sorted boot_sorted (da_cons (de_call (ok__law_names T) rfl (hr.mono (by decide)) rfl T.M__law_names T.F__law_names.kp (takesF rfl rfl rfl rfl) (da_cons (de_var (pv 1)) (da_cons (de_call (ok__law_draw T) rfl (hr.mono (by decide)) rfl T.M__law_draw T.F__law_draw.kp (takesF rfl rfl rfl rfl) (da_cons (de_var (pv 1)) (da_cons de_int da_nil))) da_nil))) da_nil)))
    (dss_cons (ds_set (i := 3) sc_law.nd rfl (Or.inl rfl) (de_cmp dop_gt (de_call (ok__law_draw T) rfl (hr.mono (by decide)) rfl T.M__law_draw T.F__law_draw.kp (takesF rfl rfl rfl rfl) (da_cons (de_var (pv 1)) (da_cons de_int da_nil))) de_int (nomark _)))
    (dss_cons (ds_set (i := 4) sc_law.nd rfl (Or.inl rfl) (de_call (ok__law_tree T) rfl (hr.mono (by decide)) rfl T.M__law_tree T.F__law_tree.kp (takesF rfl rfl rfl rfl) (da_cons (de_var (pv 1)) (da_cons (de_var (pv 2)) (da_cons de_int (da_cons (de_var (pv 3)) da_nil))))))
    (dss_cons (ds_set (i := 5) sc_law.nd rfl (Or.inl rfl) (de_call (ok__law_tree T) rfl (hr.mono (by decide)) rfl T.M__law_tree T.F__law_tree.kp (takesF rfl rfl rfl rfl) (da_cons (de_var (pv 1)) (da_cons (de_var (pv 2)) (da_cons de_int (da_cons (de_var (pv 3)) da_nil))))))
    (dss_cons (ds_set (i := 6) sc_law.nd rfl (Or.inl rfl) (de_call (ok__law_draw T) rfl (hr.mono (by decide)) rfl T.M__law_draw T.F__law_draw.kp (takesF rfl rfl rfl rfl) (da_cons (de_var (pv 1)) (da_cons de_int da_nil))))
    (dss_cons (ds_if (db_cmp (opr_alt (dop_eq rfl hr.units) (dop_eqO rfl (hr.mono (by decide)) (nt_Chart T) T.ow_Chart___eq__ T.fn_Chart___eq__ (ok_Chart___eq__ T))) (de_var (pv 6)) de_int (nomark _)) (dss_one (ds_set (i := 5) sc_law.nd rfl (Or.inl rfl) (de_var (pv 4)))) dss_nil)
    (dss_cons (ds_if (DW.db (dw_and (db_cmp (opr_alt (dop_eq rfl hr.units) (dop_eqO rfl (hr.mono (by decide)) (nt_Chart T) T.ow_Chart___eq__ T.fn_Chart___eq__ (ok_Chart___eq__ T))) (de_var (pv 6)) de_int (nomark _)) (dw_and1 (db_cmp dop_isnot (de_ix (dix rfl) (de_var (pv 4)) de_int) de_non (nomark _))))) (dss_one (ds_set (i := 5) sc_law.nd rfl (Or.inl rfl) (de_tup (da_cons (de_ix (dix rfl) (de_var (pv 4)) de_int) (da_cons (de_ix (dix rfl) (de_var (pv 4)) de_int) (da_cons (de_var (pv 5)) da_nil)))))) dss_nil)
    (dss_cons (ds_set (i := 7) sc_law.nd rfl (Or.inl rfl) (de_call (ok__law_made T) rfl (hr.mono (by decide)) rfl T.M__law_made T.F__law_made.kp (takesF rfl rfl rfl rfl) (da_cons (de_var (pv 4)) da_nil)))
    (dss_cons (ds_set (i := 8) sc_law.nd rfl (Or.inl rfl) (de_call (ok__law_made T) rfl (hr.mono (by decide)) rfl T.M__law_made T.F__law_made.kp (takesF rfl rfl rfl rfl) (da_cons (de_var (pv 5)) da_nil)))
    (dss_cons (ds_if (DW.db (dw_or (db_not (db_tru rfl (de_call (ok__law_is T) rfl (hr.mono (by decide)) rfl T.M__law_is T.F__law_is.kp (takesF rfl rfl rfl rfl) (da_cons (de_cmp (opr_alt (dop_eq rfl hr.units) (dop_eqO rfl (hr.mono (by decide)) (nt_Chart T) T.ow_Chart___eq__ T.fn_Chart___eq__ (ok_Chart___eq__ T))) (de_var (pv 7)) (de_var (pv 8)) (nomark _)) (da_cons (de_cmp (opr_alt (dop_eq rfl hr.units) (dop_eqO rfl (hr.mono (by decide)) (nt_Chart T) T.ow_Chart___eq__ T.fn_Chart___eq__ (ok_Chart___eq__ T))) (de_var (pv 4)) (de_var (pv 5)) (nomark _)) da_nil))))) (dw_or1 (db_not (db_tru rfl (de_call (ok__law_is T) rfl (hr.mono (by decide)) rfl T.M__law_is T.F__law_is.kp (takesF rfl rfl rfl rfl) (da_cons (de_cmp (opr_alt (dop_eq rfl hr.units) (dop_eqO rfl (hr.mono (by decide)) (nt_Chart T) T.ow_Chart___eq__ T.fn_Chart___eq__ (ok_Chart___eq__ T))) (de_var (pv 8)) (de_var (pv 7)) (nomark _)) (da_cons (de_cmp (opr_alt (dop_eq rfl hr.units) (dop_eqO rfl (hr.mono (by decide)) (nt_Chart T) T.ow_Chart___eq__ T.fn_Chart___eq__ (ok_Chart___eq__ T))) (de_var (pv 4)) (de_var (pv 5)) (nomark _)) da_nil)))))))) (dss_one (ds_ret de_bl)) dss_nil)
    (dss_cons (ds_if (db_cmp dop_isnotB (de_cmp (opr_alt (dop_eq rfl hr.units) (dop_eqO rfl (hr.mono (by decide)) (nt_Chart T) T.ow_Chart___eq__ T.fn_Chart___eq__ (ok_Chart___eq__ T))) (de_var (pv 7)) (let ⟨_, h1⟩ := T.cm_Film_nothing; de_cmeth0 rfl rfl T.M_Film T.cr_Film h1 (ok_Film_nothing T) (hr.mono (by decide)) (takesF rfl rfl rfl rfl)) (nomark _)) de_bl (nomark _)) (dss_one (ds_ret de_bl)) dss_nil)
    (dss_cons (ds_set (i := 9) sc_law.nd rfl (Or.inl rfl) (de_lst (da_cons (de_call (ok__law_plain T) rfl (hr.mono (by decide)) rfl T.M__law_plain T.F__law_plain.kp (takesF rfl rfl rfl rfl) (da_cons (de_var (pv 4)) (da_cons de_str da_nil))) (da_cons (de_call (ok__law_plain T) rfl (hr.mono (by decide)) rfl T.M__law_plain T.F__law_plain.kp (takesF rfl rfl rfl rfl) (da_cons (de_var (pv 5)) (da_cons de_str da_nil))) da_nil))))
    (dss_cons (ds_if (DW.db (dw_or (db_not (db_tru rfl (de_call (ok__law_is T) rfl (hr.mono (by decide)) rfl T.M__law_is T.F__law_is.kp (takesF rfl rfl rfl rfl) (da_cons (de_meth0 (lv := 22) rfl (hr.mono (by decide)) (takesF rfl rfl rfl rfl) (fun k A g => kfn_all (all_cons (hm_Chart_is_plain T) all_nil) k A g) (de_var (pv 7))) (da_cons (de_ix (dix rfl) (de_var (pv 9)) de_int) da_nil))))) (dw_or1 (db_not (db_tru rfl (de_call (ok__law_is T) rfl (hr.mono (by decide)) rfl T.M__law_is T.F__law_is.kp (takesF rfl rfl rfl rfl) (da_cons (de_meth0 (lv := 22) rfl (hr.mono (by decide)) (takesF rfl rfl rfl rfl) (fun k A g => kfn_all (all_cons (hm_Chart_is_plain T) all_nil) k A g) (de_var (pv 8))) (da_cons (de_ix (dix rfl) (de_var (pv 9)) de_int) da_nil)))))))) (dss_one (ds_ret de_bl)) dss_nil)
    (dss_one (ds_ret (de_call (ok__law_is T) rfl (hr.mono (by decide)) rfl T.M__law_is T.F__law_is.kp (takesF rfl rfl rfl rfl) (da_cons (de_meth0 (lv := 22) rfl (hr.mono (by decide)) (takesF rfl rfl rfl rfl) (fun k A g => kfn_all (all_cons (hm_Chart_is_plain T) all_nil) k A g) (let ⟨_, h1⟩ := T.sm_Chart_fork; de_smeth rfl rfl T.M_Chart T.cr_Chart h1 (ok_Chart_fork T) (hr.mono (by decide)) (takesF rfl rfl rfl rfl) (da_cons de_str (da_cons (de_var (pv 7)) (da_cons (de_var (pv 8)) da_nil))))) (da_cons (de_and (de_cmp (dop_ne rfl hr.units) (de_var (pv 4)) (de_var (pv 5)) (nomark _)) (de_and (de_ix (dix rfl) (de_var (pv 9)) de_int) (de_one (de_ix (dix rfl) (de_var (pv 9)) de_int)))) da_nil))))))))))))))))))))
end
/-! ### what the top has written -/
set_option maxHeartbeats 0 in
def AllEq {α : Type} (A : String → α) : List String → List α → Prop
  | k :: ks, v :: vs => A k = v ∧ AllEq A ks vs
  | _, _ => True
theorem allEq_congr {α : Type} {A B : String → α} : ∀ (ks : List String) (vs : List α), (∀ s ∈ ks, B s = A s) → AllEq A ks vs → AllEq B ks vs
  | [], _, _, _ => by unfold AllEq; trivial
  | _ :: _, [], _, _ => by unfold AllEq; trivial
  | k :: ks, v :: vs, h, a => ⟨(h k List.mem_cons_self).trans a.1, allEq_congr ks vs (fun s hs => h s (List.mem_cons_of_mem _ hs)) a.2⟩
theorem assoc_ex {α : Type} (d : α) : ∀ (ks : List String) (vs : List α), ks.Nodup → ks.length = vs.length → ∃ A : String → α, AllEq A ks vs
  | [], _, _, _ => ⟨fun _ => d, by unfold AllEq; trivial⟩
  | _ :: _, [], _, h => nomatch h
  | k :: ks, v :: vs, hn, hl => by
    obtain ⟨hk, hn⟩ := List.nodup_cons.mp hn
    obtain ⟨A, hA⟩ := assoc_ex d ks vs hn (Nat.succ.inj hl)
    exact ⟨fun s => if s = k then v else A s, if_pos rfl, allEq_congr ks vs (fun s hs => if_neg fun e => hk (by rw [← e]; exact hs)) hA⟩
theorem all_mk {l : PySem.W.OpenLaw} {w : World} {K : PySem.W.Frag} {h : Heap} {mg : Str → Option Value} {fa C_Bleach C_Chart C_Film C_Filter C_Ink C_Light f__law_box f__law_draw f__law_name f__law_names f__law_tree f_Chart___eq__ f_Light___eq__ f_Film___eq__ f__law_made f_Chart___init__ f_Chart_end p_Chart_end f_check_band f__bands_of f_Light___init__ f_Film___init__ f_Film_nothing p_Film_nothing f_Ink_film f__light f_Light___and__ f_Light___bool__ f_Ink___init__ f_Chart_fork p_Chart_fork f__law_is f__law_plain f__is_plain_behind f_Chart_is_plain f_law ct_Ink_TAKES f_Bleach___init__ cc_Bleach___init__ cd_Bleach___init__ kD_Bleach___init__ f_Filter___init__ cc_Filter___init__ cd_Filter___init__ kD_Filter___init__ : Addr}
    {oc__law_box kV__law_box dc__law_box pm__law_box cd__law_box ct__law_box : Value}
    {od__law_box an__law_box : Option Addr}
    {sl__law_box : Array (Option Value)}
    {oc__law_draw kV__law_draw dc__law_draw pm__law_draw cd__law_draw ct__law_draw : Value}
    {od__law_draw an__law_draw : Option Addr}
    {sl__law_draw : Array (Option Value)}
    {oc__law_name kV__law_name dc__law_name pm__law_name cd__law_name ct__law_name : Value}
    {od__law_name an__law_name : Option Addr}
    {sl__law_name : Array (Option Value)}
    {oc__law_names kV__law_names dc__law_names pm__law_names cd__law_names ct__law_names : Value}
    {od__law_names an__law_names : Option Addr}
    {sl__law_names : Array (Option Value)}
    {oc__law_tree kV__law_tree dc__law_tree pm__law_tree cd__law_tree ct__law_tree : Value}
    {od__law_tree an__law_tree : Option Addr}
    {sl__law_tree : Array (Option Value)}
    {oc_Chart___eq__ kV_Chart___eq__ dc_Chart___eq__ pm_Chart___eq__ cd_Chart___eq__ ct_Chart___eq__ : Value}
    {od_Chart___eq__ an_Chart___eq__ : Option Addr}
    {sl_Chart___eq__ : Array (Option Value)}
    {oc_Light___eq__ kV_Light___eq__ dc_Light___eq__ pm_Light___eq__ cd_Light___eq__ ct_Light___eq__ : Value}
    {od_Light___eq__ an_Light___eq__ : Option Addr}
    {sl_Light___eq__ : Array (Option Value)}
    {oc_Film___eq__ kV_Film___eq__ dc_Film___eq__ pm_Film___eq__ cd_Film___eq__ ct_Film___eq__ : Value}
    {od_Film___eq__ an_Film___eq__ : Option Addr}
    {sl_Film___eq__ : Array (Option Value)}
    {oc__law_made kV__law_made dc__law_made pm__law_made cd__law_made ct__law_made : Value}
    {od__law_made an__law_made : Option Addr}
    {sl__law_made : Array (Option Value)}
    {oc_Chart___init__ kV_Chart___init__ dc_Chart___init__ pm_Chart___init__ cd_Chart___init__ ct_Chart___init__ : Value}
    {od_Chart___init__ an_Chart___init__ : Option Addr}
    {sl_Chart___init__ : Array (Option Value)}
    {r_Chart_end : List Value}
    {oc_Chart_end kV_Chart_end dc_Chart_end pm_Chart_end cd_Chart_end ct_Chart_end : Value}
    {od_Chart_end an_Chart_end : Option Addr}
    {sl_Chart_end : Array (Option Value)}
    {oc_check_band kV_check_band dc_check_band pm_check_band cd_check_band ct_check_band : Value}
    {od_check_band an_check_band : Option Addr}
    {sl_check_band : Array (Option Value)}
    {oc__bands_of kV__bands_of dc__bands_of pm__bands_of cd__bands_of ct__bands_of : Value}
    {od__bands_of an__bands_of : Option Addr}
    {sl__bands_of : Array (Option Value)}
    {oc_Light___init__ kV_Light___init__ dc_Light___init__ pm_Light___init__ cd_Light___init__ ct_Light___init__ : Value}
    {od_Light___init__ an_Light___init__ : Option Addr}
    {sl_Light___init__ : Array (Option Value)}
    {oc_Film___init__ kV_Film___init__ dc_Film___init__ pm_Film___init__ cd_Film___init__ ct_Film___init__ : Value}
    {od_Film___init__ an_Film___init__ : Option Addr}
    {sl_Film___init__ : Array (Option Value)}
    {r_Film_nothing : List Value}
    {oc_Film_nothing kV_Film_nothing dc_Film_nothing pm_Film_nothing cd_Film_nothing ct_Film_nothing : Value}
    {od_Film_nothing an_Film_nothing : Option Addr}
    {sl_Film_nothing : Array (Option Value)}
    {oc_Ink_film kV_Ink_film dc_Ink_film pm_Ink_film cd_Ink_film ct_Ink_film : Value}
    {od_Ink_film an_Ink_film : Option Addr}
    {sl_Ink_film : Array (Option Value)}
    {oc__light kV__light dc__light pm__light cd__light ct__light : Value}
    {od__light an__light : Option Addr}
    {sl__light : Array (Option Value)}
    {oc_Light___and__ kV_Light___and__ dc_Light___and__ pm_Light___and__ cd_Light___and__ ct_Light___and__ : Value}
    {od_Light___and__ an_Light___and__ : Option Addr}
    {sl_Light___and__ : Array (Option Value)}
    {oc_Light___bool__ kV_Light___bool__ dc_Light___bool__ pm_Light___bool__ cd_Light___bool__ ct_Light___bool__ : Value}
    {od_Light___bool__ an_Light___bool__ : Option Addr}
    {sl_Light___bool__ : Array (Option Value)}
    {oc_Ink___init__ kV_Ink___init__ dc_Ink___init__ pm_Ink___init__ cd_Ink___init__ ct_Ink___init__ : Value}
    {od_Ink___init__ an_Ink___init__ : Option Addr}
    {sl_Ink___init__ : Array (Option Value)}
    {r_Chart_fork : List Value}
    {oc_Chart_fork kV_Chart_fork dc_Chart_fork pm_Chart_fork cd_Chart_fork ct_Chart_fork : Value}
    {od_Chart_fork an_Chart_fork : Option Addr}
    {sl_Chart_fork : Array (Option Value)}
    {oc__law_is kV__law_is dc__law_is pm__law_is cd__law_is ct__law_is : Value}
    {od__law_is an__law_is : Option Addr}
    {sl__law_is : Array (Option Value)}
    {oc__law_plain kV__law_plain dc__law_plain pm__law_plain cd__law_plain ct__law_plain : Value}
    {od__law_plain an__law_plain : Option Addr}
    {sl__law_plain : Array (Option Value)}
    {oc__is_plain_behind kV__is_plain_behind dc__is_plain_behind pm__is_plain_behind cd__is_plain_behind ct__is_plain_behind : Value}
    {od__is_plain_behind an__is_plain_behind : Option Addr}
    {sl__is_plain_behind : Array (Option Value)}
    {oc_Chart_is_plain kV_Chart_is_plain dc_Chart_is_plain pm_Chart_is_plain cd_Chart_is_plain ct_Chart_is_plain : Value}
    {od_Chart_is_plain an_Chart_is_plain : Option Addr}
    {sl_Chart_is_plain : Array (Option Value)}
    {oc_law kV_law dc_law pm_law cd_law ct_law : Value}
    {od_law an_law : Option Addr}
    {sl_law : Array (Option Value)}
    {t_Light_BANDS : Tok}
    {td_Ink_TAKES : Option Addr}
    {tn_Ink_TAKES : Nat}
    {tl_Ink_TAKES : Array (Option Value)}
    {tk0_Ink_TAKES tk1_Ink_TAKES tk2_Ink_TAKES : Tok}
    {oc_Bleach___init__ dc_Bleach___init__ pm_Bleach___init__ ct_Bleach___init__ o1_Bleach___init__ o2_Bleach___init__ : Value}
    {od_Bleach___init__ an_Bleach___init__ d1_Bleach___init__ d2_Bleach___init__ : Option Addr}
    {sl_Bleach___init__ s1_Bleach___init__ s2_Bleach___init__ : Array (Option Value)}
    {vs_Bleach___init__ : Array Value}
    {fl_Bleach___init__ : Str}
    {tf_Bleach___init__ : Tok}
    {tk_Bleach___init___takes : Tok}
    {oc_Filter___init__ dc_Filter___init__ pm_Filter___init__ ct_Filter___init__ o1_Filter___init__ o2_Filter___init__ : Value}
    {od_Filter___init__ an_Filter___init__ d1_Filter___init__ d2_Filter___init__ : Option Addr}
    {sl_Filter___init__ s1_Filter___init__ s2_Filter___init__ : Array (Option Value)}
    {vs_Filter___init__ : Array Value}
    {fl_Filter___init__ : Str}
    {tf_Filter___init__ : Tok}
    {tk_Filter___init___takes : Tok}
    (X : K.In h) (G : h.Ns mainGlobals mg) (hfa : mg "law" = some (.ref fa))
    (aC_Bleach : PySem.W.nsIn K mainGlobals "Bleach" = some (some (.ref C_Bleach)))
    (aC_Chart : PySem.W.nsIn K mainGlobals "Chart" = some (some (.ref C_Chart)))
    (aC_Film : PySem.W.nsIn K mainGlobals "Film" = some (some (.ref C_Film)))
    (aC_Filter : PySem.W.nsIn K mainGlobals "Filter" = some (some (.ref C_Filter)))
    (aC_Ink : PySem.W.nsIn K mainGlobals "Ink" = some (some (.ref C_Ink)))
    (aC_Light : PySem.W.nsIn K mainGlobals "Light" = some (some (.ref C_Light)))
    (a__law_box : PySem.W.nsIn K mainGlobals "_law_box" = some (some (.ref f__law_box)))
    (l__law_box : K.lookup f__law_box = some ⟨oc__law_box, od__law_box, .func (PySem.W.fnOf "_law_box" "_law_box" (defArgs s__law_box) (defBody s__law_box) (defScope s__law_box) .none kV__law_box dc__law_box pm__law_box an__law_box cd__law_box ct__law_box), sl__law_box⟩)
    (c__law_box : PySem.W.codeIn K cd__law_box "_law_box" = true)
    (k__law_box : PySem.W.keepIn K (.ref f__law_box) = true)
    (a__law_draw : PySem.W.nsIn K mainGlobals "_law_draw" = some (some (.ref f__law_draw)))
    (l__law_draw : K.lookup f__law_draw = some ⟨oc__law_draw, od__law_draw, .func (PySem.W.fnOf "_law_draw" "_law_draw" (defArgs s__law_draw) (defBody s__law_draw) (defScope s__law_draw) .none kV__law_draw dc__law_draw pm__law_draw an__law_draw cd__law_draw ct__law_draw), sl__law_draw⟩)
    (c__law_draw : PySem.W.codeIn K cd__law_draw "_law_draw" = true)
    (k__law_draw : PySem.W.keepIn K (.ref f__law_draw) = true)
    (a__law_name : PySem.W.nsIn K mainGlobals "_law_name" = some (some (.ref f__law_name)))
    (l__law_name : K.lookup f__law_name = some ⟨oc__law_name, od__law_name, .func (PySem.W.fnOf "_law_name" "_law_name" (defArgs s__law_name) (defBody s__law_name) (defScope s__law_name) .none kV__law_name dc__law_name pm__law_name an__law_name cd__law_name ct__law_name), sl__law_name⟩)
    (c__law_name : PySem.W.codeIn K cd__law_name "_law_name" = true)
    (k__law_name : PySem.W.keepIn K (.ref f__law_name) = true)
    (a__law_names : PySem.W.nsIn K mainGlobals "_law_names" = some (some (.ref f__law_names)))
    (l__law_names : K.lookup f__law_names = some ⟨oc__law_names, od__law_names, .func (PySem.W.fnOf "_law_names" "_law_names" (defArgs s__law_names) (defBody s__law_names) (defScope s__law_names) .none kV__law_names dc__law_names pm__law_names an__law_names cd__law_names ct__law_names), sl__law_names⟩)
    (c__law_names : PySem.W.codeIn K cd__law_names "_law_names" = true)
    (k__law_names : PySem.W.keepIn K (.ref f__law_names) = true)
    (a__law_tree : PySem.W.nsIn K mainGlobals "_law_tree" = some (some (.ref f__law_tree)))
    (l__law_tree : K.lookup f__law_tree = some ⟨oc__law_tree, od__law_tree, .func (PySem.W.fnOf "_law_tree" "_law_tree" (defArgs s__law_tree) (defBody s__law_tree) (defScope s__law_tree) .none kV__law_tree dc__law_tree pm__law_tree an__law_tree cd__law_tree ct__law_tree), sl__law_tree⟩)
    (c__law_tree : PySem.W.codeIn K cd__law_tree "_law_tree" = true)
    (k__law_tree : PySem.W.keepIn K (.ref f__law_tree) = true)
    (a_Chart___eq__ : PySem.W.findIn K (.ref C_Chart) "__eq__" = some (some (.ref f_Chart___eq__)))
    (i_Chart___eq__ : PySem.W.isFn K (.ref f_Chart___eq__) = true)
    (l_Chart___eq__ : K.lookup f_Chart___eq__ = some ⟨oc_Chart___eq__, od_Chart___eq__, .func (PySem.W.fnOf "__eq__" "Chart.__eq__" (defArgs s_Chart___eq__) (defBody s_Chart___eq__) (defScope s_Chart___eq__) .none kV_Chart___eq__ dc_Chart___eq__ pm_Chart___eq__ an_Chart___eq__ cd_Chart___eq__ ct_Chart___eq__), sl_Chart___eq__⟩)
    (c_Chart___eq__ : PySem.W.codeIn K cd_Chart___eq__ "Chart.__eq__" = true)
    (k_Chart___eq__ : PySem.W.keepIn K (.ref f_Chart___eq__) = true)
    (a_Light___eq__ : PySem.W.findIn K (.ref C_Light) "__eq__" = some (some (.ref f_Light___eq__)))
    (i_Light___eq__ : PySem.W.isFn K (.ref f_Light___eq__) = true)
    (l_Light___eq__ : K.lookup f_Light___eq__ = some ⟨oc_Light___eq__, od_Light___eq__, .func (PySem.W.fnOf "__eq__" "Light.__eq__" (defArgs s_Light___eq__) (defBody s_Light___eq__) (defScope s_Light___eq__) .none kV_Light___eq__ dc_Light___eq__ pm_Light___eq__ an_Light___eq__ cd_Light___eq__ ct_Light___eq__), sl_Light___eq__⟩)
    (c_Light___eq__ : PySem.W.codeIn K cd_Light___eq__ "Light.__eq__" = true)
    (k_Light___eq__ : PySem.W.keepIn K (.ref f_Light___eq__) = true)
    (a_Film___eq__ : PySem.W.findIn K (.ref C_Film) "__eq__" = some (some (.ref f_Film___eq__)))
    (i_Film___eq__ : PySem.W.isFn K (.ref f_Film___eq__) = true)
    (l_Film___eq__ : K.lookup f_Film___eq__ = some ⟨oc_Film___eq__, od_Film___eq__, .func (PySem.W.fnOf "__eq__" "Film.__eq__" (defArgs s_Film___eq__) (defBody s_Film___eq__) (defScope s_Film___eq__) .none kV_Film___eq__ dc_Film___eq__ pm_Film___eq__ an_Film___eq__ cd_Film___eq__ ct_Film___eq__), sl_Film___eq__⟩)
    (c_Film___eq__ : PySem.W.codeIn K cd_Film___eq__ "Film.__eq__" = true)
    (k_Film___eq__ : PySem.W.keepIn K (.ref f_Film___eq__) = true)
    (a__law_made : PySem.W.nsIn K mainGlobals "_law_made" = some (some (.ref f__law_made)))
    (l__law_made : K.lookup f__law_made = some ⟨oc__law_made, od__law_made, .func (PySem.W.fnOf "_law_made" "_law_made" (defArgs s__law_made) (defBody s__law_made) (defScope s__law_made) .none kV__law_made dc__law_made pm__law_made an__law_made cd__law_made ct__law_made), sl__law_made⟩)
    (c__law_made : PySem.W.codeIn K cd__law_made "_law_made" = true)
    (k__law_made : PySem.W.keepIn K (.ref f__law_made) = true)
    (a_Chart___init__ : PySem.W.findIn K (.ref C_Chart) "__init__" = some (some (.ref f_Chart___init__)))
    (i_Chart___init__ : PySem.W.isFn K (.ref f_Chart___init__) = true)
    (l_Chart___init__ : K.lookup f_Chart___init__ = some ⟨oc_Chart___init__, od_Chart___init__, .func (PySem.W.fnOf "__init__" "Chart.__init__" (defArgs s_Chart___init__) (defBody s_Chart___init__) (defScope s_Chart___init__) .none kV_Chart___init__ dc_Chart___init__ pm_Chart___init__ an_Chart___init__ cd_Chart___init__ ct_Chart___init__), sl_Chart___init__⟩)
    (c_Chart___init__ : PySem.W.codeIn K cd_Chart___init__ "Chart.__init__" = true)
    (k_Chart___init__ : PySem.W.keepIn K (.ref f_Chart___init__) = true)
    (a_Chart_end : PySem.W.findCls K (.ref C_Chart) (.type "type") "end" = some (.get (.builtin "staticmethod.__get__") (.ref p_Chart_end) .none (.ref C_Chart)))
    (r1_Chart_end : PySem.W.recIn K p_Chart_end "staticmethod" = some (.ref f_Chart_end :: r_Chart_end))
    (l_Chart_end : K.lookup f_Chart_end = some ⟨oc_Chart_end, od_Chart_end, .func (PySem.W.fnOf "end" "Chart.end" (defArgs s_Chart_end) (defBody s_Chart_end) (defScope s_Chart_end) .none kV_Chart_end dc_Chart_end pm_Chart_end an_Chart_end cd_Chart_end ct_Chart_end), sl_Chart_end⟩)
    (c_Chart_end : PySem.W.codeIn K cd_Chart_end "Chart.end" = true)
    (k_Chart_end : PySem.W.keepIn K (.ref f_Chart_end) = true)
    (a_check_band : PySem.W.nsIn K mainGlobals "check_band" = some (some (.ref f_check_band)))
    (l_check_band : K.lookup f_check_band = some ⟨oc_check_band, od_check_band, .func (PySem.W.fnOf "check_band" "check_band" (defArgs s_check_band) (defBody s_check_band) (defScope s_check_band) .none kV_check_band dc_check_band pm_check_band an_check_band cd_check_band ct_check_band), sl_check_band⟩)
    (c_check_band : PySem.W.codeIn K cd_check_band "check_band" = true)
    (k_check_band : PySem.W.keepIn K (.ref f_check_band) = true)
    (a__bands_of : PySem.W.nsIn K mainGlobals "_bands_of" = some (some (.ref f__bands_of)))
    (l__bands_of : K.lookup f__bands_of = some ⟨oc__bands_of, od__bands_of, .func (PySem.W.fnOf "_bands_of" "_bands_of" (defArgs s__bands_of) (defBody s__bands_of) (defScope s__bands_of) .none kV__bands_of dc__bands_of pm__bands_of an__bands_of cd__bands_of ct__bands_of), sl__bands_of⟩)
    (c__bands_of : PySem.W.codeIn K cd__bands_of "_bands_of" = true)
    (k__bands_of : PySem.W.keepIn K (.ref f__bands_of) = true)
    (a_Light___init__ : PySem.W.findIn K (.ref C_Light) "__init__" = some (some (.ref f_Light___init__)))
    (i_Light___init__ : PySem.W.isFn K (.ref f_Light___init__) = true)
    (l_Light___init__ : K.lookup f_Light___init__ = some ⟨oc_Light___init__, od_Light___init__, .func (PySem.W.fnOf "__init__" "Light.__init__" (defArgs s_Light___init__) (defBody s_Light___init__) (defScope s_Light___init__) .none kV_Light___init__ dc_Light___init__ pm_Light___init__ an_Light___init__ cd_Light___init__ ct_Light___init__), sl_Light___init__⟩)
    (c_Light___init__ : PySem.W.codeIn K cd_Light___init__ "Light.__init__" = true)
    (k_Light___init__ : PySem.W.keepIn K (.ref f_Light___init__) = true)
    (a_Film___init__ : PySem.W.findIn K (.ref C_Film) "__init__" = some (some (.ref f_Film___init__)))
    (i_Film___init__ : PySem.W.isFn K (.ref f_Film___init__) = true)
    (l_Film___init__ : K.lookup f_Film___init__ = some ⟨oc_Film___init__, od_Film___init__, .func (PySem.W.fnOf "__init__" "Film.__init__" (defArgs s_Film___init__) (defBody s_Film___init__) (defScope s_Film___init__) .none kV_Film___init__ dc_Film___init__ pm_Film___init__ an_Film___init__ cd_Film___init__ ct_Film___init__), sl_Film___init__⟩)
    (c_Film___init__ : PySem.W.codeIn K cd_Film___init__ "Film.__init__" = true)
    (k_Film___init__ : PySem.W.keepIn K (.ref f_Film___init__) = true)
    (a_Film_nothing : PySem.W.findCls K (.ref C_Film) (.type "type") "nothing" = some (.get (.builtin "classmethod.__get__") (.ref p_Film_nothing) .none (.ref C_Film)))
    (r1_Film_nothing : PySem.W.recIn K p_Film_nothing "classmethod" = some (.ref f_Film_nothing :: r_Film_nothing))
    (i_Film_nothing : PySem.W.fnIn K f_Film_nothing = true)
    (l_Film_nothing : K.lookup f_Film_nothing = some ⟨oc_Film_nothing, od_Film_nothing, .func (PySem.W.fnOf "nothing" "Film.nothing" (defArgs s_Film_nothing) (defBody s_Film_nothing) (defScope s_Film_nothing) .none kV_Film_nothing dc_Film_nothing pm_Film_nothing an_Film_nothing cd_Film_nothing ct_Film_nothing), sl_Film_nothing⟩)
    (c_Film_nothing : PySem.W.codeIn K cd_Film_nothing "Film.nothing" = true)
    (k_Film_nothing : PySem.W.keepIn K (.ref f_Film_nothing) = true)
    (a_Ink_film : PySem.W.findIn K (.ref C_Ink) "film" = some (some (.ref f_Ink_film)))
    (i_Ink_film : PySem.W.isFn K (.ref f_Ink_film) = true)
    (l_Ink_film : K.lookup f_Ink_film = some ⟨oc_Ink_film, od_Ink_film, .func (PySem.W.fnOf "film" "Ink.film" (defArgs s_Ink_film) (defBody s_Ink_film) (defScope s_Ink_film) .none kV_Ink_film dc_Ink_film pm_Ink_film an_Ink_film cd_Ink_film ct_Ink_film), sl_Ink_film⟩)
    (c_Ink_film : PySem.W.codeIn K cd_Ink_film "Ink.film" = true)
    (k_Ink_film : PySem.W.keepIn K (.ref f_Ink_film) = true)
    (a__light : PySem.W.nsIn K mainGlobals "_light" = some (some (.ref f__light)))
    (l__light : K.lookup f__light = some ⟨oc__light, od__light, .func (PySem.W.fnOf "_light" "_light" (defArgs s__light) (defBody s__light) (defScope s__light) .none kV__light dc__light pm__light an__light cd__light ct__light), sl__light⟩)
    (c__light : PySem.W.codeIn K cd__light "_light" = true)
    (k__light : PySem.W.keepIn K (.ref f__light) = true)
    (a_Light___and__ : PySem.W.findIn K (.ref C_Light) "__and__" = some (some (.ref f_Light___and__)))
    (i_Light___and__ : PySem.W.isFn K (.ref f_Light___and__) = true)
    (l_Light___and__ : K.lookup f_Light___and__ = some ⟨oc_Light___and__, od_Light___and__, .func (PySem.W.fnOf "__and__" "Light.__and__" (defArgs s_Light___and__) (defBody s_Light___and__) (defScope s_Light___and__) .none kV_Light___and__ dc_Light___and__ pm_Light___and__ an_Light___and__ cd_Light___and__ ct_Light___and__), sl_Light___and__⟩)
    (c_Light___and__ : PySem.W.codeIn K cd_Light___and__ "Light.__and__" = true)
    (k_Light___and__ : PySem.W.keepIn K (.ref f_Light___and__) = true)
    (a_Light___bool__ : PySem.W.findIn K (.ref C_Light) "__bool__" = some (some (.ref f_Light___bool__)))
    (i_Light___bool__ : PySem.W.isFn K (.ref f_Light___bool__) = true)
    (l_Light___bool__ : K.lookup f_Light___bool__ = some ⟨oc_Light___bool__, od_Light___bool__, .func (PySem.W.fnOf "__bool__" "Light.__bool__" (defArgs s_Light___bool__) (defBody s_Light___bool__) (defScope s_Light___bool__) .none kV_Light___bool__ dc_Light___bool__ pm_Light___bool__ an_Light___bool__ cd_Light___bool__ ct_Light___bool__), sl_Light___bool__⟩)
    (c_Light___bool__ : PySem.W.codeIn K cd_Light___bool__ "Light.__bool__" = true)
    (k_Light___bool__ : PySem.W.keepIn K (.ref f_Light___bool__) = true)
    (a_Ink___init__ : PySem.W.findIn K (.ref C_Ink) "__init__" = some (some (.ref f_Ink___init__)))
    (i_Ink___init__ : PySem.W.isFn K (.ref f_Ink___init__) = true)
    (l_Ink___init__ : K.lookup f_Ink___init__ = some ⟨oc_Ink___init__, od_Ink___init__, .func (PySem.W.fnOf "__init__" "Ink.__init__" (defArgs s_Ink___init__) (defBody s_Ink___init__) (defScope s_Ink___init__) .none kV_Ink___init__ dc_Ink___init__ pm_Ink___init__ an_Ink___init__ cd_Ink___init__ ct_Ink___init__), sl_Ink___init__⟩)
    (c_Ink___init__ : PySem.W.codeIn K cd_Ink___init__ "Ink.__init__" = true)
    (k_Ink___init__ : PySem.W.keepIn K (.ref f_Ink___init__) = true)
    (a_Chart_fork : PySem.W.findCls K (.ref C_Chart) (.type "type") "fork" = some (.get (.builtin "staticmethod.__get__") (.ref p_Chart_fork) .none (.ref C_Chart)))
    (r1_Chart_fork : PySem.W.recIn K p_Chart_fork "staticmethod" = some (.ref f_Chart_fork :: r_Chart_fork))
    (l_Chart_fork : K.lookup f_Chart_fork = some ⟨oc_Chart_fork, od_Chart_fork, .func (PySem.W.fnOf "fork" "Chart.fork" (defArgs s_Chart_fork) (defBody s_Chart_fork) (defScope s_Chart_fork) .none kV_Chart_fork dc_Chart_fork pm_Chart_fork an_Chart_fork cd_Chart_fork ct_Chart_fork), sl_Chart_fork⟩)
    (c_Chart_fork : PySem.W.codeIn K cd_Chart_fork "Chart.fork" = true)
    (k_Chart_fork : PySem.W.keepIn K (.ref f_Chart_fork) = true)
    (a__law_is : PySem.W.nsIn K mainGlobals "_law_is" = some (some (.ref f__law_is)))
    (l__law_is : K.lookup f__law_is = some ⟨oc__law_is, od__law_is, .func (PySem.W.fnOf "_law_is" "_law_is" (defArgs s__law_is) (defBody s__law_is) (defScope s__law_is) .none kV__law_is dc__law_is pm__law_is an__law_is cd__law_is ct__law_is), sl__law_is⟩)
    (c__law_is : PySem.W.codeIn K cd__law_is "_law_is" = true)
    (k__law_is : PySem.W.keepIn K (.ref f__law_is) = true)
    (a__law_plain : PySem.W.nsIn K mainGlobals "_law_plain" = some (some (.ref f__law_plain)))
    (l__law_plain : K.lookup f__law_plain = some ⟨oc__law_plain, od__law_plain, .func (PySem.W.fnOf "_law_plain" "_law_plain" (defArgs s__law_plain) (defBody s__law_plain) (defScope s__law_plain) .none kV__law_plain dc__law_plain pm__law_plain an__law_plain cd__law_plain ct__law_plain), sl__law_plain⟩)
    (c__law_plain : PySem.W.codeIn K cd__law_plain "_law_plain" = true)
    (k__law_plain : PySem.W.keepIn K (.ref f__law_plain) = true)
    (a__is_plain_behind : PySem.W.nsIn K mainGlobals "_is_plain_behind" = some (some (.ref f__is_plain_behind)))
    (l__is_plain_behind : K.lookup f__is_plain_behind = some ⟨oc__is_plain_behind, od__is_plain_behind, .func (PySem.W.fnOf "_is_plain_behind" "_is_plain_behind" (defArgs s__is_plain_behind) (defBody s__is_plain_behind) (defScope s__is_plain_behind) .none kV__is_plain_behind dc__is_plain_behind pm__is_plain_behind an__is_plain_behind cd__is_plain_behind ct__is_plain_behind), sl__is_plain_behind⟩)
    (c__is_plain_behind : PySem.W.codeIn K cd__is_plain_behind "_is_plain_behind" = true)
    (k__is_plain_behind : PySem.W.keepIn K (.ref f__is_plain_behind) = true)
    (a_Chart_is_plain : PySem.W.findIn K (.ref C_Chart) "is_plain" = some (some (.ref f_Chart_is_plain)))
    (i_Chart_is_plain : PySem.W.isFn K (.ref f_Chart_is_plain) = true)
    (l_Chart_is_plain : K.lookup f_Chart_is_plain = some ⟨oc_Chart_is_plain, od_Chart_is_plain, .func (PySem.W.fnOf "is_plain" "Chart.is_plain" (defArgs s_Chart_is_plain) (defBody s_Chart_is_plain) (defScope s_Chart_is_plain) .none kV_Chart_is_plain dc_Chart_is_plain pm_Chart_is_plain an_Chart_is_plain cd_Chart_is_plain ct_Chart_is_plain), sl_Chart_is_plain⟩)
    (c_Chart_is_plain : PySem.W.codeIn K cd_Chart_is_plain "Chart.is_plain" = true)
    (k_Chart_is_plain : PySem.W.keepIn K (.ref f_Chart_is_plain) = true)
    (a_law : PySem.W.nsIn K mainGlobals "law" = some (some (.ref f_law)))
    (l_law : K.lookup f_law = some ⟨oc_law, od_law, .func (PySem.W.fnOf "law" "law" (defArgs s_law) (defBody s_law) (defScope s_law) .none kV_law dc_law pm_law an_law cd_law ct_law), sl_law⟩)
    (c_law : PySem.W.codeIn K cd_law "law" = true)
    (k_law : PySem.W.keepIn K (.ref f_law) = true)
    (pg_Bleach : PySem.W.plainGet K C_Bleach Str.empty = true)
    (hd_Bleach : PySem.W.hasDictIn K C_Bleach = true)
    (po_Bleach : PySem.W.plainOver K C_Bleach = true)
    (sa_Bleach : PySem.W.findIn K (.ref C_Bleach) "__setattr__" = some (some (.builtin "object.__setattr__")))
    (pg_Chart : PySem.W.plainGet K C_Chart Str.empty = true)
    (hd_Chart : PySem.W.hasDictIn K C_Chart = true)
    (po_Chart : PySem.W.plainOver K C_Chart = true)
    (sa_Chart : PySem.W.findIn K (.ref C_Chart) "__setattr__" = some (some (.builtin "object.__setattr__")))
    (pg_Film : PySem.W.plainGet K C_Film Str.empty = true)
    (hd_Film : PySem.W.hasDictIn K C_Film = true)
    (po_Film : PySem.W.plainOver K C_Film = true)
    (sa_Film : PySem.W.findIn K (.ref C_Film) "__setattr__" = some (some (.builtin "object.__setattr__")))
    (pg_Filter : PySem.W.plainGet K C_Filter Str.empty = true)
    (hd_Filter : PySem.W.hasDictIn K C_Filter = true)
    (po_Filter : PySem.W.plainOver K C_Filter = true)
    (sa_Filter : PySem.W.findIn K (.ref C_Filter) "__setattr__" = some (some (.builtin "object.__setattr__")))
    (pg_Ink : PySem.W.plainGet K C_Ink Str.empty = true)
    (hd_Ink : PySem.W.hasDictIn K C_Ink = true)
    (po_Ink : PySem.W.plainOver K C_Ink = true)
    (sa_Ink : PySem.W.findIn K (.ref C_Ink) "__setattr__" = some (some (.builtin "object.__setattr__")))
    (pg_Light : PySem.W.plainGet K C_Light Str.empty = true)
    (hd_Light : PySem.W.hasDictIn K C_Light = true)
    (po_Light : PySem.W.plainOver K C_Light = true)
    (sa_Light : PySem.W.findIn K (.ref C_Light) "__setattr__" = some (some (.builtin "object.__setattr__")))
    (n_Bleach_off : PySem.W.findIn K (.ref C_Bleach) "off" = some none)
    (n_Bleach_on : PySem.W.findIn K (.ref C_Bleach) "on" = some none)
    (n_Bleach_takes : PySem.W.findIn K (.ref C_Bleach) "takes" = some none)
    (n_Chart_leaf : PySem.W.findIn K (.ref C_Chart) "leaf" = some none)
    (n_Chart_mask : PySem.W.findIn K (.ref C_Chart) "mask" = some none)
    (n_Chart_when_open : PySem.W.findIn K (.ref C_Chart) "when_open" = some none)
    (n_Chart_when_shut : PySem.W.findIn K (.ref C_Chart) "when_shut" = some none)
    (n_Film_bare : PySem.W.findIn K (.ref C_Film) "bare" = some none)
    (n_Film_inked : PySem.W.findIn K (.ref C_Film) "inked" = some none)
    (n_Filter_off : PySem.W.findIn K (.ref C_Filter) "off" = some none)
    (n_Filter_on : PySem.W.findIn K (.ref C_Filter) "on" = some none)
    (n_Filter_takes : PySem.W.findIn K (.ref C_Filter) "takes" = some none)
    (n_Ink_off : PySem.W.findIn K (.ref C_Ink) "off" = some none)
    (n_Ink_on : PySem.W.findIn K (.ref C_Ink) "on" = some none)
    (n_Ink_takes : PySem.W.findIn K (.ref C_Ink) "takes" = some none)
    (n_Light_bands : PySem.W.findIn K (.ref C_Light) "bands" = some none)
    (n_Light_number : PySem.W.findIn K (.ref C_Light) "number" = some none)
    (a_Bleach___init__ : PySem.W.findIn K (.ref C_Bleach) "__init__" = some (some (.ref f_Bleach___init__)))
    (i_Bleach___init__ : PySem.W.isFn K (.ref f_Bleach___init__) = true)
    (a_Filter___init__ : PySem.W.findIn K (.ref C_Filter) "__init__" = some (some (.ref f_Filter___init__)))
    (i_Filter___init__ : PySem.W.isFn K (.ref f_Filter___init__) = true)
    (mk_Bleach : PySem.W.makesIn K C_Bleach = true)
    (kc_Bleach : PySem.W.keepIn K (.ref C_Bleach) = true)
    (mk_Chart : PySem.W.makesIn K C_Chart = true)
    (kc_Chart : PySem.W.keepIn K (.ref C_Chart) = true)
    (mk_Film : PySem.W.makesIn K C_Film = true)
    (kc_Film : PySem.W.keepIn K (.ref C_Film) = true)
    (mk_Filter : PySem.W.makesIn K C_Filter = true)
    (kc_Filter : PySem.W.keepIn K (.ref C_Filter) = true)
    (mk_Light : PySem.W.makesIn K C_Light = true)
    (kc_Light : PySem.W.keepIn K (.ref C_Light) = true)
    (am_Bleach_film : PySem.W.findIn K (.ref C_Bleach) "film" = some (some (.ref f_Ink_film)))
    (am_Filter_film : PySem.W.findIn K (.ref C_Filter) "film" = some (some (.ref f_Ink_film)))
    (rd_Chart : PySem.W.readsIn K C_Chart (.type "type") = true)
    (ga_Chart : PySem.W.specialIn K (.ref C_Chart) "__getattribute__" = some (some (.builtin "type.__getattribute__")))
    (rd_Film : PySem.W.readsIn K C_Film (.type "type") = true)
    (ga_Film : PySem.W.specialIn K (.ref C_Film) "__getattribute__" = some (some (.builtin "type.__getattribute__")))
    (rd_Ink : PySem.W.readsIn K C_Ink (.type "type") = true)
    (ga_Ink : PySem.W.specialIn K (.ref C_Ink) "__getattribute__" = some (some (.builtin "type.__getattribute__")))
    (rd_Light : PySem.W.readsIn K C_Light (.type "type") = true)
    (ga_Light : PySem.W.specialIn K (.ref C_Light) "__getattribute__" = some (some (.builtin "type.__getattribute__")))
    (v_Light_BANDS : PySem.W.findCls K (.ref C_Light) (.type "type") "BANDS" = some (.val (.int 6 t_Light_BANDS)))
    (v_Ink_TAKES : PySem.W.findCls K (.ref C_Ink) (.type "type") "TAKES" = some (.val (.ref ct_Ink_TAKES)))
    (lt_Ink_TAKES : K.lookup ct_Ink_TAKES = some ⟨.type "tuple", td_Ink_TAKES, .seq #[.str "any" tk0_Ink_TAKES, .str "bare" tk1_Ink_TAKES, .str "inked" tk2_Ink_TAKES] tn_Ink_TAKES, tl_Ink_TAKES⟩)
    (sf_Chart : PySem.W.selfFirst K C_Chart = true)
    (sf_Film : PySem.W.selfFirst K C_Film = true)
    (sf_Light : PySem.W.selfFirst K C_Light = true)
    (nf_Chart_own_Film : PySem.W.notFirst K C_Chart (.ref C_Film) = true)
    (nf_Chart_own_Chart : PySem.W.notFirst K C_Chart (.ref C_Chart) = true)
    (nf_Film_own_Film : PySem.W.notFirst K C_Film (.ref C_Film) = true)
    (nf_Film_own_Chart : PySem.W.notFirst K C_Film (.ref C_Chart) = true)
    (ica_Chart : PySem.W.findIn K (.ref C_Chart) "__class__" = some (some (.builtin "object.__class__")))
    (icm_Chart : PySem.W.mroIn K C_Chart (.type "object") = some true)
    (ica_Film : PySem.W.findIn K (.ref C_Film) "__class__" = some (some (.builtin "object.__class__")))
    (icm_Film : PySem.W.mroIn K C_Film (.type "object") = some true)
    (ica_Light : PySem.W.findIn K (.ref C_Light) "__class__" = some (some (.builtin "object.__class__")))
    (icm_Light : PySem.W.mroIn K C_Light (.type "object") = some true)
    (ikn : PySem.W.specialIn K (.builtin "object.__class__") "__get__" = some (some (.builtin "getset_descriptor.__get__")))
    (ikt : PySem.W.takesIn K (.builtin "object.__class__") = some true)
    (it_own_Light_own_Light : PySem.W.kitOne K (.ref C_Light) (.ref C_Light) = some true)
    (it_own_Film_own_Film : PySem.W.kitOne K (.ref C_Film) (.ref C_Film) = some true)
    (it_own_Chart_own_Chart : PySem.W.kitOne K (.ref C_Chart) (.ref C_Chart) = some true)
    (it_own_Film_own_Chart : PySem.W.kitOne K (.ref C_Film) (.ref C_Chart) = some false)
    (it_ty_bool_ty_bool : PySem.W.kitOne K (.type "bool") (.type "bool") = some true)
    (no_bool : PySem.W.nsIn K mainGlobals "bool" = some (none))
    (no_int : PySem.W.nsIn K mainGlobals "int" = some (none))
    (no_isinstance : PySem.W.nsIn K mainGlobals "isinstance" = some (none))
    (no_len : PySem.W.nsIn K mainGlobals "len" = some (none))
    (no_range : PySem.W.nsIn K mainGlobals "range" = some (none))
    (no_sorted : PySem.W.nsIn K mainGlobals "sorted" = some (none))
    (no_super : PySem.W.nsIn K mainGlobals "super" = some (none))
    (no_tuple : PySem.W.nsIn K mainGlobals "tuple" = some (none))
    (l_Bleach___init__ : K.lookup f_Bleach___init__ = some ⟨oc_Bleach___init__, od_Bleach___init__, .func (PySem.W.fnX "__init__" "Bleach.__init__" (defArgs s_Bleach___init__) (defBody s_Bleach___init__) (defScope s_Bleach___init__) [(("__class__" : Str), cc_Bleach___init__)] .none (.ref kD_Bleach___init__) dc_Bleach___init__ pm_Bleach___init__ an_Bleach___init__ (.ref cd_Bleach___init__) ct_Bleach___init__), sl_Bleach___init__⟩)
    (kd_Bleach___init___takes : PySem.W.nsIn K kD_Bleach___init__ "takes" = some (some (.str "any" tk_Bleach___init___takes)))
    (c_Bleach___init__ : PySem.W.codeIn K (.ref cd_Bleach___init__) "Bleach.__init__" = true)
    (lc_Bleach___init__ : K.lookup cd_Bleach___init__ = some ⟨o1_Bleach___init__, d1_Bleach___init__, .fields vs_Bleach___init__, s1_Bleach___init__⟩)
    (vf_Bleach___init__ : vs_Bleach___init__[2]? = some (.str fl_Bleach___init__ tf_Bleach___init__))
    (pf_Bleach___init__ : ((l.prog.main.file : Str) == fl_Bleach___init__) = true)
    (ce_Bleach___init__ : K.lookup cc_Bleach___init__ = some ⟨o2_Bleach___init__, d2_Bleach___init__, .cell (some (.ref C_Bleach)), s2_Bleach___init__⟩)
    (topS : (l.prog.main.scope.names.lookup ("super" : Str)).isSome = false)
    (hst : PySem.W.nsIn K cStatics "thirdparty.any" = some none)
    (si_Bleach___init__ : PySem.W.ks_superIn K C_Bleach C_Bleach "__init__" = some (some (.ref f_Ink___init__)))
    (su_Bleach___init__ : PySem.W.mroIn K C_Bleach (.ref C_Bleach) = some true)
    (t2_Ink___init__ : PySem.W.typeIn K (.ref f_Ink___init__) = some (.type "function"))
    (fi_Ink___init__ : PySem.W.fnIn K f_Ink___init__ = true)
    (ik_Bleach___init__ : PySem.W.isClsIn K C_Bleach = true)
    (l_Filter___init__ : K.lookup f_Filter___init__ = some ⟨oc_Filter___init__, od_Filter___init__, .func (PySem.W.fnX "__init__" "Filter.__init__" (defArgs s_Filter___init__) (defBody s_Filter___init__) (defScope s_Filter___init__) [(("__class__" : Str), cc_Filter___init__)] .none (.ref kD_Filter___init__) dc_Filter___init__ pm_Filter___init__ an_Filter___init__ (.ref cd_Filter___init__) ct_Filter___init__), sl_Filter___init__⟩)
    (kd_Filter___init___takes : PySem.W.nsIn K kD_Filter___init__ "takes" = some (some (.str "any" tk_Filter___init___takes)))
    (c_Filter___init__ : PySem.W.codeIn K (.ref cd_Filter___init__) "Filter.__init__" = true)
    (lc_Filter___init__ : K.lookup cd_Filter___init__ = some ⟨o1_Filter___init__, d1_Filter___init__, .fields vs_Filter___init__, s1_Filter___init__⟩)
    (vf_Filter___init__ : vs_Filter___init__[2]? = some (.str fl_Filter___init__ tf_Filter___init__))
    (pf_Filter___init__ : ((l.prog.main.file : Str) == fl_Filter___init__) = true)
    (ce_Filter___init__ : K.lookup cc_Filter___init__ = some ⟨o2_Filter___init__, d2_Filter___init__, .cell (some (.ref C_Filter)), s2_Filter___init__⟩)
    (si_Filter___init__ : PySem.W.ks_superIn K C_Filter C_Filter "__init__" = some (some (.ref f_Ink___init__)))
    (su_Filter___init__ : PySem.W.mroIn K C_Filter (.ref C_Filter) = some true)
    (ik_Filter___init__ : PySem.W.isClsIn K C_Filter = true)
    (hmath : ∀ ns : List Int, ns.length ≤ 63 → ∃ G', g_law [scr ns] [] = .ok (.d (.bl true)) G') :
    ∃ fd : FuncData, (∀ (s : Shared) (v : Value), BindsTo s fd ⟨[v], []⟩ [("_law_script", v)]) ∧ ∀ base : Heap, K.In base → base.Ns mainGlobals mg → FnOk l.prog w K mg base (L2N.CX l.prog w) 23 fa fd ["_law_script"] (spLaw K) := by
  have e : fa = f_law := by
    have e := hfa.symm.trans (PySem.W.mg_of X G a_law)
    injection e with e
    injection e
  obtain ⟨d__law_box, F__law_box⟩ : ∃ fd, Fun K "_law_box" "_law_box" s__law_box f__law_box fd := ⟨_, fun_mk (st := s__law_box) l__law_box c__law_box k__law_box⟩
  obtain ⟨d__law_draw, F__law_draw⟩ : ∃ fd, Fun K "_law_draw" "_law_draw" s__law_draw f__law_draw fd := ⟨_, fun_mk (st := s__law_draw) l__law_draw c__law_draw k__law_draw⟩
  obtain ⟨d__law_name, F__law_name⟩ : ∃ fd, Fun K "_law_name" "_law_name" s__law_name f__law_name fd := ⟨_, fun_mk (st := s__law_name) l__law_name c__law_name k__law_name⟩
  obtain ⟨d__law_names, F__law_names⟩ : ∃ fd, Fun K "_law_names" "_law_names" s__law_names f__law_names fd := ⟨_, fun_mk (st := s__law_names) l__law_names c__law_names k__law_names⟩
  obtain ⟨d__law_tree, F__law_tree⟩ : ∃ fd, Fun K "_law_tree" "_law_tree" s__law_tree f__law_tree fd := ⟨_, fun_mk (st := s__law_tree) l__law_tree c__law_tree k__law_tree⟩
  obtain ⟨d_Chart___eq__, F_Chart___eq__⟩ : ∃ fd, Fun K "__eq__" "Chart.__eq__" s_Chart___eq__ f_Chart___eq__ fd := ⟨_, fun_mk (st := s_Chart___eq__) l_Chart___eq__ c_Chart___eq__ k_Chart___eq__⟩
  obtain ⟨d_Light___eq__, F_Light___eq__⟩ : ∃ fd, Fun K "__eq__" "Light.__eq__" s_Light___eq__ f_Light___eq__ fd := ⟨_, fun_mk (st := s_Light___eq__) l_Light___eq__ c_Light___eq__ k_Light___eq__⟩
  obtain ⟨d_Film___eq__, F_Film___eq__⟩ : ∃ fd, Fun K "__eq__" "Film.__eq__" s_Film___eq__ f_Film___eq__ fd := ⟨_, fun_mk (st := s_Film___eq__) l_Film___eq__ c_Film___eq__ k_Film___eq__⟩
  obtain ⟨d__law_made, F__law_made⟩ : ∃ fd, Fun K "_law_made" "_law_made" s__law_made f__law_made fd := ⟨_, fun_mk (st := s__law_made) l__law_made c__law_made k__law_made⟩
  obtain ⟨d_Chart___init__, F_Chart___init__⟩ : ∃ fd, Fun K "__init__" "Chart.__init__" s_Chart___init__ f_Chart___init__ fd := ⟨_, fun_mk (st := s_Chart___init__) l_Chart___init__ c_Chart___init__ k_Chart___init__⟩
  obtain ⟨d_Chart_end, F_Chart_end⟩ : ∃ fd, Fun K "end" "Chart.end" s_Chart_end f_Chart_end fd := ⟨_, fun_mk (st := s_Chart_end) l_Chart_end c_Chart_end k_Chart_end⟩
  obtain ⟨d_check_band, F_check_band⟩ : ∃ fd, Fun K "check_band" "check_band" s_check_band f_check_band fd := ⟨_, fun_mk (st := s_check_band) l_check_band c_check_band k_check_band⟩
  obtain ⟨d__bands_of, F__bands_of⟩ : ∃ fd, Fun K "_bands_of" "_bands_of" s__bands_of f__bands_of fd := ⟨_, fun_mk (st := s__bands_of) l__bands_of c__bands_of k__bands_of⟩
  obtain ⟨d_Light___init__, F_Light___init__, b_Light___init__⟩ : ∃ fd, Fun K "__init__" "Light.__init__" s_Light___init__ f_Light___init__ fd ∧ BindS fd ["self"] "bands" := ⟨_, fun_mk (st := s_Light___init__) l_Light___init__ c_Light___init__ k_Light___init__, fun us rest hl => bind_star1 (B := fun xs => bindArgs _ ⟨xs, []⟩) (fun _ => rfl) (fun _ _ _ => rfl) us rest hl⟩
  obtain ⟨d_Film___init__, F_Film___init__⟩ : ∃ fd, Fun K "__init__" "Film.__init__" s_Film___init__ f_Film___init__ fd := ⟨_, fun_mk (st := s_Film___init__) l_Film___init__ c_Film___init__ k_Film___init__⟩
  obtain ⟨d_Film_nothing, F_Film_nothing⟩ : ∃ fd, Fun K "nothing" "Film.nothing" s_Film_nothing f_Film_nothing fd := ⟨_, fun_mk (st := s_Film_nothing) l_Film_nothing c_Film_nothing k_Film_nothing⟩
  obtain ⟨d_Ink_film, F_Ink_film⟩ : ∃ fd, Fun K "film" "Ink.film" s_Ink_film f_Ink_film fd := ⟨_, fun_mk (st := s_Ink_film) l_Ink_film c_Ink_film k_Ink_film⟩
  obtain ⟨d__light, F__light⟩ : ∃ fd, Fun K "_light" "_light" s__light f__light fd := ⟨_, fun_mk (st := s__light) l__light c__light k__light⟩
  obtain ⟨d_Light___and__, F_Light___and__⟩ : ∃ fd, Fun K "__and__" "Light.__and__" s_Light___and__ f_Light___and__ fd := ⟨_, fun_mk (st := s_Light___and__) l_Light___and__ c_Light___and__ k_Light___and__⟩
  obtain ⟨d_Light___bool__, F_Light___bool__⟩ : ∃ fd, Fun K "__bool__" "Light.__bool__" s_Light___bool__ f_Light___bool__ fd := ⟨_, fun_mk (st := s_Light___bool__) l_Light___bool__ c_Light___bool__ k_Light___bool__⟩
  obtain ⟨d_Ink___init__, F_Ink___init__⟩ : ∃ fd, Fun K "__init__" "Ink.__init__" s_Ink___init__ f_Ink___init__ fd := ⟨_, fun_mk (st := s_Ink___init__) l_Ink___init__ c_Ink___init__ k_Ink___init__⟩
  obtain ⟨d_Chart_fork, F_Chart_fork⟩ : ∃ fd, Fun K "fork" "Chart.fork" s_Chart_fork f_Chart_fork fd := ⟨_, fun_mk (st := s_Chart_fork) l_Chart_fork c_Chart_fork k_Chart_fork⟩
  obtain ⟨d__law_is, F__law_is⟩ : ∃ fd, Fun K "_law_is" "_law_is" s__law_is f__law_is fd := ⟨_, fun_mk (st := s__law_is) l__law_is c__law_is k__law_is⟩
  obtain ⟨d__law_plain, F__law_plain⟩ : ∃ fd, Fun K "_law_plain" "_law_plain" s__law_plain f__law_plain fd := ⟨_, fun_mk (st := s__law_plain) l__law_plain c__law_plain k__law_plain⟩
  obtain ⟨d__is_plain_behind, F__is_plain_behind⟩ : ∃ fd, Fun K "_is_plain_behind" "_is_plain_behind" s__is_plain_behind f__is_plain_behind fd := ⟨_, fun_mk (st := s__is_plain_behind) l__is_plain_behind c__is_plain_behind k__is_plain_behind⟩
  obtain ⟨d_Chart_is_plain, F_Chart_is_plain⟩ : ∃ fd, Fun K "is_plain" "Chart.is_plain" s_Chart_is_plain f_Chart_is_plain fd := ⟨_, fun_mk (st := s_Chart_is_plain) l_Chart_is_plain c_Chart_is_plain k_Chart_is_plain⟩
  obtain ⟨d_law, F_law, b_law⟩ : ∃ fd, Fun K "law" "law" s_law f_law fd ∧ ∀ (s : Shared) (v : Value), BindsTo s fd ⟨[v], []⟩ [("_law_script", v)] := ⟨_, fun_mk (st := s_law) l_law c_law k_law, fun _ _ => .of_eq rfl⟩
  obtain ⟨d_Bleach___init__, e_Bleach___init__⟩ : ∃ fd, fd = PySem.W.fnX "__init__" "Bleach.__init__" (defArgs s_Bleach___init__) (defBody s_Bleach___init__) (defScope s_Bleach___init__) [(("__class__" : Str), cc_Bleach___init__)] .none (.ref kD_Bleach___init__) dc_Bleach___init__ pm_Bleach___init__ an_Bleach___init__ (.ref cd_Bleach___init__) ct_Bleach___init__ := ⟨_, rfl⟩
  obtain ⟨d_Filter___init__, e_Filter___init__⟩ : ∃ fd, fd = PySem.W.fnX "__init__" "Filter.__init__" (defArgs s_Filter___init__) (defBody s_Filter___init__) (defScope s_Filter___init__) [(("__class__" : Str), cc_Filter___init__)] .none (.ref kD_Filter___init__) dc_Filter___init__ pm_Filter___init__ an_Filter___init__ (.ref cd_Filter___init__) ct_Filter___init__ := ⟨_, rfl⟩
  obtain ⟨A, rfl, rfl, rfl, rfl, rfl, rfl, rfl, rfl, rfl, rfl, rfl, rfl, rfl, rfl, rfl, rfl, rfl, rfl, rfl, rfl, rfl, rfl, rfl, rfl, rfl, rfl, rfl, rfl, rfl, -⟩ : ∃ A : String → Addr, A "_law_box" = f__law_box ∧ A "_law_draw" = f__law_draw ∧ A "_law_name" = f__law_name ∧ A "_law_names" = f__law_names ∧ A "_law_tree" = f__law_tree ∧ A "Chart.__eq__" = f_Chart___eq__ ∧ A "Light.__eq__" = f_Light___eq__ ∧ A "Film.__eq__" = f_Film___eq__ ∧ A "_law_made" = f__law_made ∧ A "Chart.__init__" = f_Chart___init__ ∧ A "Chart.end" = f_Chart_end ∧ A "check_band" = f_check_band ∧ A "_bands_of" = f__bands_of ∧ A "Light.__init__" = f_Light___init__ ∧ A "Film.__init__" = f_Film___init__ ∧ A "Film.nothing" = f_Film_nothing ∧ A "Ink.film" = f_Ink_film ∧ A "_light" = f__light ∧ A "Light.__and__" = f_Light___and__ ∧ A "Light.__bool__" = f_Light___bool__ ∧ A "Ink.__init__" = f_Ink___init__ ∧ A "Chart.fork" = f_Chart_fork ∧ A "_law_is" = f__law_is ∧ A "_law_plain" = f__law_plain ∧ A "_is_plain_behind" = f__is_plain_behind ∧ A "Chart.is_plain" = f_Chart_is_plain ∧ A "law" = f_law ∧ A "Bleach.__init__" = f_Bleach___init__ ∧ A "Filter.__init__" = f_Filter___init__ ∧ True := assoc_ex f__law_box ["_law_box", "_law_draw", "_law_name", "_law_names", "_law_tree", "Chart.__eq__", "Light.__eq__", "Film.__eq__", "_law_made", "Chart.__init__", "Chart.end", "check_band", "_bands_of", "Light.__init__", "Film.__init__", "Film.nothing", "Ink.film", "_light", "Light.__and__", "Light.__bool__", "Ink.__init__", "Chart.fork", "_law_is", "_law_plain", "_is_plain_behind", "Chart.is_plain", "law", "Bleach.__init__", "Filter.__init__"] [f__law_box, f__law_draw, f__law_name, f__law_names, f__law_tree, f_Chart___eq__, f_Light___eq__, f_Film___eq__, f__law_made, f_Chart___init__, f_Chart_end, f_check_band, f__bands_of, f_Light___init__, f_Film___init__, f_Film_nothing, f_Ink_film, f__light, f_Light___and__, f_Light___bool__, f_Ink___init__, f_Chart_fork, f__law_is, f__law_plain, f__is_plain_behind, f_Chart_is_plain, f_law, f_Bleach___init__, f_Filter___init__] (by decide +kernel) rfl
  obtain ⟨FD, rfl, rfl, rfl, rfl, rfl, rfl, rfl, rfl, rfl, rfl, rfl, rfl, rfl, rfl, rfl, rfl, rfl, rfl, rfl, rfl, rfl, rfl, rfl, rfl, rfl, rfl, rfl, rfl, rfl, -⟩ : ∃ FD : String → FuncData, FD "_law_box" = d__law_box ∧ FD "_law_draw" = d__law_draw ∧ FD "_law_name" = d__law_name ∧ FD "_law_names" = d__law_names ∧ FD "_law_tree" = d__law_tree ∧ FD "Chart.__eq__" = d_Chart___eq__ ∧ FD "Light.__eq__" = d_Light___eq__ ∧ FD "Film.__eq__" = d_Film___eq__ ∧ FD "_law_made" = d__law_made ∧ FD "Chart.__init__" = d_Chart___init__ ∧ FD "Chart.end" = d_Chart_end ∧ FD "check_band" = d_check_band ∧ FD "_bands_of" = d__bands_of ∧ FD "Light.__init__" = d_Light___init__ ∧ FD "Film.__init__" = d_Film___init__ ∧ FD "Film.nothing" = d_Film_nothing ∧ FD "Ink.film" = d_Ink_film ∧ FD "_light" = d__light ∧ FD "Light.__and__" = d_Light___and__ ∧ FD "Light.__bool__" = d_Light___bool__ ∧ FD "Ink.__init__" = d_Ink___init__ ∧ FD "Chart.fork" = d_Chart_fork ∧ FD "_law_is" = d__law_is ∧ FD "_law_plain" = d__law_plain ∧ FD "_is_plain_behind" = d__is_plain_behind ∧ FD "Chart.is_plain" = d_Chart_is_plain ∧ FD "law" = d_law ∧ FD "Bleach.__init__" = d_Bleach___init__ ∧ FD "Filter.__init__" = d_Filter___init__ ∧ True := assoc_ex d__law_box ["_law_box", "_law_draw", "_law_name", "_law_names", "_law_tree", "Chart.__eq__", "Light.__eq__", "Film.__eq__", "_law_made", "Chart.__init__", "Chart.end", "check_band", "_bands_of", "Light.__init__", "Film.__init__", "Film.nothing", "Ink.film", "_light", "Light.__and__", "Light.__bool__", "Ink.__init__", "Chart.fork", "_law_is", "_law_plain", "_is_plain_behind", "Chart.is_plain", "law", "Bleach.__init__", "Filter.__init__"] [d__law_box, d__law_draw, d__law_name, d__law_names, d__law_tree, d_Chart___eq__, d_Light___eq__, d_Film___eq__, d__law_made, d_Chart___init__, d_Chart_end, d_check_band, d__bands_of, d_Light___init__, d_Film___init__, d_Film_nothing, d_Ink_film, d__light, d_Light___and__, d_Light___bool__, d_Ink___init__, d_Chart_fork, d__law_is, d__law_plain, d__is_plain_behind, d_Chart_is_plain, d_law, d_Bleach___init__, d_Filter___init__] (by decide +kernel) rfl
  obtain ⟨C, rfl, rfl, rfl, rfl, rfl, rfl, -⟩ : ∃ C : String → Addr, C "Bleach" = C_Bleach ∧ C "Chart" = C_Chart ∧ C "Film" = C_Film ∧ C "Filter" = C_Filter ∧ C "Ink" = C_Ink ∧ C "Light" = C_Light ∧ True := assoc_ex C_Bleach ["Bleach", "Chart", "Film", "Filter", "Ink", "Light"] [C_Bleach, C_Chart, C_Film, C_Filter, C_Ink, C_Light] (by decide +kernel) rfl
  subst e
  have T : Tx l.prog K mg C A FD := ⟨F__law_box,
    PySem.W.mg_of X G a__law_box,
    F__law_draw,
    PySem.W.mg_of X G a__law_draw,
    F__law_name,
    PySem.W.mg_of X G a__law_name,
    F__law_names,
    PySem.W.mg_of X G a__law_names,
    F__law_tree,
    PySem.W.mg_of X G a__law_tree,
    F_Chart___eq__,
    F_Light___eq__,
    F_Film___eq__,
    F__law_made,
    PySem.W.mg_of X G a__law_made,
    F_Chart___init__,
    F_Chart_end,
    F_check_band,
    PySem.W.mg_of X G a_check_band,
    F__bands_of,
    PySem.W.mg_of X G a__bands_of,
    F_Light___init__,
    b_Light___init__,
    F_Film___init__,
    F_Film_nothing,
    F_Ink_film,
    F__light,
    PySem.W.mg_of X G a__light,
    F_Light___and__,
    F_Light___bool__,
    F_Ink___init__,
    F_Chart_fork,
    F__law_is,
    PySem.W.mg_of X G a__law_is,
    F__law_plain,
    PySem.W.mg_of X G a__law_plain,
    F__is_plain_behind,
    PySem.W.mg_of X G a__is_plain_behind,
    F_Chart_is_plain,
    F_law,
    PySem.W.mg_of X G a_law,
    PySem.W.mg_of X G aC_Bleach,
    PySem.W.mg_of X G aC_Chart,
    PySem.W.mg_of X G aC_Film,
    PySem.W.mg_of X G aC_Filter,
    PySem.W.mg_of X G aC_Ink,
    PySem.W.mg_of X G aC_Light,
    ⟨pg_Bleach, hd_Bleach, po_Bleach, sa_Bleach⟩,
    ⟨pg_Chart, hd_Chart, po_Chart, sa_Chart⟩,
    ⟨pg_Film, hd_Film, po_Film, sa_Film⟩,
    ⟨pg_Filter, hd_Filter, po_Filter, sa_Filter⟩,
    ⟨pg_Ink, hd_Ink, po_Ink, sa_Ink⟩,
    ⟨pg_Light, hd_Light, po_Light, sa_Light⟩,
    n_Bleach_off,
    n_Bleach_on,
    n_Bleach_takes,
    n_Chart_leaf,
    n_Chart_mask,
    n_Chart_when_open,
    n_Chart_when_shut,
    n_Film_bare,
    n_Film_inked,
    n_Filter_off,
    n_Filter_on,
    n_Filter_takes,
    n_Ink_off,
    n_Ink_on,
    n_Ink_takes,
    n_Light_bands,
    n_Light_number,
    ⟨mk_Bleach, a_Bleach___init__, i_Bleach___init__, kc_Bleach⟩,
    ⟨mk_Chart, a_Chart___init__, i_Chart___init__, kc_Chart⟩,
    ⟨mk_Film, a_Film___init__, i_Film___init__, kc_Film⟩,
    ⟨mk_Filter, a_Filter___init__, i_Filter___init__, kc_Filter⟩,
    ⟨mk_Light, a_Light___init__, i_Light___init__, kc_Light⟩,
    ⟨am_Bleach_film, i_Ink_film, k_Ink_film⟩,
    ⟨a_Chart_is_plain, i_Chart_is_plain, k_Chart_is_plain⟩,
    ⟨am_Filter_film, i_Ink_film, k_Ink_film⟩,
    ⟨a_Ink_film, i_Ink_film, k_Ink_film⟩,
    ⟨rd_Chart, ga_Chart⟩,
    ⟨rd_Film, ga_Film⟩,
    ⟨rd_Ink, ga_Ink⟩,
    ⟨rd_Light, ga_Light⟩,
    ⟨_, a_Film_nothing, ⟨_, r1_Film_nothing⟩, i_Film_nothing⟩,
    ⟨_, a_Chart_end, ⟨_, r1_Chart_end⟩, rfl, k_Chart_end⟩,
    ⟨_, a_Chart_fork, ⟨_, r1_Chart_fork⟩, rfl, k_Chart_fork⟩,
    ⟨_, v_Light_BANDS, ⟨_, rfl⟩⟩,
    ⟨_, ⟨v_Ink_TAKES, rfl⟩, .inr ⟨_, _, _, lt_Ink_TAKES, rfl, rfl, (show (3 : Nat) ≤ PySem.sizeLine by rw [PySem.sizeLine_eq]; decide), (.cons ⟨_, rfl⟩ (.cons ⟨_, rfl⟩ (.cons ⟨_, rfl⟩ .nil)))⟩⟩,
    sf_Chart,
    a_Chart___eq__,
    i_Chart___eq__,
    sf_Film,
    a_Film___eq__,
    i_Film___eq__,
    sf_Light,
    a_Light___and__,
    i_Light___and__,
    sf_Light,
    a_Light___bool__,
    i_Light___bool__,
    sf_Light,
    a_Light___eq__,
    i_Light___eq__,
    nf_Chart_own_Film,
    nf_Chart_own_Chart,
    nf_Film_own_Film,
    nf_Film_own_Chart,
    ⟨⟨pg_Chart, hd_Chart, po_Chart, sa_Chart⟩, ica_Chart, icm_Chart⟩,
    ⟨⟨pg_Film, hd_Film, po_Film, sa_Film⟩, ica_Film, icm_Film⟩,
    ⟨⟨pg_Light, hd_Light, po_Light, sa_Light⟩, ica_Light, icm_Light⟩,
    ⟨ikn, ikt⟩,
    it_own_Light_own_Light,
    it_own_Film_own_Film,
    it_own_Chart_own_Chart,
    it_own_Film_own_Chart,
    it_ty_bool_ty_bool,
    PySem.W.mg_none_of X G no_bool,
    PySem.W.mg_none_of X G no_int,
    PySem.W.mg_none_of X G no_isinstance,
    PySem.W.mg_none_of X G no_len,
    PySem.W.mg_none_of X G no_range,
    PySem.W.mg_none_of X G no_sorted,
    PySem.W.mg_none_of X G no_super,
    PySem.W.mg_none_of X G no_tuple,
    ⟨⟨cc_Bleach___init__, cd_Bleach___init__, _, _, _, _, _, _, _, _, _, e_Bleach___init__, (by rw [e_Bleach___init__]; exact l_Bleach___init__), c_Bleach___init__, ⟨rfl, ⟨_, _, _, _, _, l_Bleach___init__, rfl, rfl⟩, ⟨_, _, _, _, _, _, lc_Bleach___init__, vf_Bleach___init__, pf_Bleach___init__⟩, ⟨_, _, _, ce_Bleach___init__⟩, Option.isSome_iff_exists.mp ik_Bleach___init__, no_super, (show List.lookup ("super" : Str) (defScope s_Bleach___init__).names = some NameKind.globalImplicit by decide +kernel), (show List.lookup ("__class__" : Str) (defScope s_Bleach___init__).names = some NameKind.free by decide +kernel), (show List.lookup ("self" : Str) (defScope s_Bleach___init__).names = some NameKind.local by decide +kernel), (show (defScope s_Bleach___init__).kind = ScopeKind.function by decide +kernel), topS⟩⟩, hst, si_Bleach___init__, su_Bleach___init__, PySem.W.mg_none_of X G no_super, t2_Ink___init__, fi_Ink___init__, ik_Bleach___init__⟩,
    (by rw [e_Bleach___init__]; exact ⟨fun s us ws _ h1 h2 => .of_eq (match us, ws, h1, h2 with | [_, _], [_], _, _ => rfl), fun r1 r2 => r1.append r2⟩),
    ⟨⟨cc_Filter___init__, cd_Filter___init__, _, _, _, _, _, _, _, _, _, e_Filter___init__, (by rw [e_Filter___init__]; exact l_Filter___init__), c_Filter___init__, ⟨rfl, ⟨_, _, _, _, _, l_Filter___init__, rfl, rfl⟩, ⟨_, _, _, _, _, _, lc_Filter___init__, vf_Filter___init__, pf_Filter___init__⟩, ⟨_, _, _, ce_Filter___init__⟩, Option.isSome_iff_exists.mp ik_Filter___init__, no_super, (show List.lookup ("super" : Str) (defScope s_Filter___init__).names = some NameKind.globalImplicit by decide +kernel), (show List.lookup ("__class__" : Str) (defScope s_Filter___init__).names = some NameKind.free by decide +kernel), (show List.lookup ("self" : Str) (defScope s_Filter___init__).names = some NameKind.local by decide +kernel), (show (defScope s_Filter___init__).kind = ScopeKind.function by decide +kernel), topS⟩⟩, hst, si_Filter___init__, su_Filter___init__, PySem.W.mg_none_of X G no_super, t2_Ink___init__, fi_Ink___init__, ik_Filter___init__⟩,
    (by rw [e_Filter___init__]; exact ⟨fun s us ws _ h1 h2 => .of_eq (match us, ws, h1, h2 with | [_, _], [_], _, _ => rfl), fun r1 r2 => r1.append r2⟩),
    (by rw [e_Bleach___init__]; exact binds_kw (D := kD_Bleach___init__) (kws := [("takes", .str "any")]) (all_cons (a := (("takes", .str "any") : Str × V)) (p := fun q : Str × V => ∃ u, PySem.W.nsIn K kD_Bleach___init__ q.1 = some (some u) ∧ RelV q.2 u) ⟨_, kd_Bleach___init___takes, ⟨_, rfl⟩⟩ all_nil) 2 rfl (fun us ks h1 h2 => match us, ks, h1, h2 with | [_, _], [_], _, _ => ⟨_, _, _, _, _, _, rfl, rfl, rfl⟩)),
    (by rw [e_Filter___init__]; exact binds_kw (D := kD_Filter___init__) (kws := [("takes", .str "any")]) (all_cons (a := (("takes", .str "any") : Str × V)) (p := fun q : Str × V => ∃ u, PySem.W.nsIn K kD_Filter___init__ q.1 = some (some u) ∧ RelV q.2 u) ⟨_, kd_Filter___init___takes, ⟨_, rfl⟩⟩ all_nil) 2 rfl (fun us ks h1 h2 => match us, ks, h1, h2 with | [_, _], [_], _, _ => ⟨_, _, _, _, _, _, rfl, rfl, rfl⟩))⟩
  exact ⟨_, b_law, fun base _ _ => (ok_law T).imp (spd_law hmath)⟩
end
end K29
set_option Elab.async false
set_option linter.all false
namespace DL
/-! ### numbers below 64, bit by bit -/
end DL
set_option Elab.async false
set_option linter.all false
set_option maxRecDepth 100000
set_option maxHeartbeats 4000000
/-! reading meanings by simp: one discriminant at a time -/
namespace DL
open PySem L2
theorem bind_ok {α β : Type} {f : α → GS → Out β} {a : α} {G : GS} : (Out.ok a G).bind f = f a G := rfl
theorem bind_er {α β : Type} {f : α → GS → Out β} {c : String} {fs : List D} {G : GS} : (Out.er c fs G : Out α).bind f = .er c fs G := rfl
theorem bindN_ok {α β : Type} {f : α → GS → Out β} {a : α} {G : GS} : bindN (Out.ok a G) f = f a G := rfl
theorem ofE_ok {α : Type} {a : α} {G : GS} {env : En} {k : α → GS → OutS} : ofE (.ok a G) env k = k a G := rfl
theorem ofE_er {α : Type} {c : String} {fs : List D} {G : GS} {env : En} {k : α → GS → OutS} : ofE (.er c fs G : Out α) env k = .er c fs env G := rfl
theorem seqO_nx {env : En} {G : GS} {k : En → GS → OutS} : seqO (.nx env G) k = k env G := rfl
theorem seqO_rt {e : EV} {G : GS} {k : En → GS → OutS} : seqO (.rt e G) k = .rt e G := rfl
theorem seqO_er {c : String} {fs : List D} {env : En} {G : GS} {k : En → GS → OutS} : seqO (.er c fs env G) k = .er c fs env G := rfl
theorem seqO_bk {env : En} {G : GS} {k : En → GS → OutS} : seqO (.bk env G) k = .bk env G := rfl
theorem seqO_ct {env : En} {G : GS} {k : En → GS → OutS} : seqO (.ct env G) k = .ct env G := rfl
theorem loopO_nx {env : En} {G : GS} {k : En → GS → OutS} : loopO (.nx env G) k = k env G := rfl
theorem loopO_ct {env : En} {G : GS} {k : En → GS → OutS} : loopO (.ct env G) k = k env G := rfl
theorem loopO_bk {env : En} {G : GS} {k : En → GS → OutS} : loopO (.bk env G) k = .nx env G := rfl
theorem loopO_rt {e : EV} {G : GS} {k : En → GS → OutS} : loopO (.rt e G) k = .rt e G := rfl
theorem loopO_er {c : String} {fs : List D} {env : En} {G : GS} {k : En → GS → OutS} : loopO (.er c fs env G) k = .er c fs env G := rfl
theorem lift_s {α : Type} {e : α} {G : GS} : lift (some (e, G)) = .ok e G := rfl
theorem retO_rt {e : EV} {G : GS} : retO (.rt e G) = .ok e G := rfl
theorem retO_nx {env : En} {G : GS} : retO (.nx env G) = .ok (.d .non) G := rfl
theorem retO_er {c : String} {fs : List D} {env : En} {G : GS} : retO (.er c fs env G) = .er c fs G := rfl
theorem mkO_ok {cl : String} {fs : List D} {G : GS} : mkO cl (.ok fs G) = .ok (.d (.ins cl fs)) G := rfl
theorem mkO_er {cl c : String} {fs : List D} {G : GS} : mkO cl (.er c fs G) = .er c fs G := rfl
theorem toOpt_ok {α : Type} {e : α} {G : GS} : toOpt (.ok e G) = some (e, G) := rfl
/-! frames -/
theorem eVar_z {e : EV} {t : En} {G : GS} : eVar 0 (.ev e :: t) G = .ok e G := rfl
theorem eVar_s {i : Nat} {s : Sl} {t : En} {G : GS} : eVar (i + 1) (s :: t) G = eVar i t G := rfl
theorem oL_z {xs : List D} {t : En} : oL 0 (.own (.lst xs) :: t) = some xs := rfl
theorem oL_s {i : Nat} {s : Sl} {t : En} : oL (i + 1) (s :: t) = oL i t := rfl
theorem frz_z {xs : List D} {t : En} : frzE 0 (.own (.lst xs) :: t) = .ev (.d (.lst xs)) :: t := rfl
theorem frz_s {i : Nat} {s : Sl} {t : En} : frzE (i + 1) (s :: t) = s :: frzE i t := by
  unfold frzE
  rw [List.getElem?_cons_succ]
  cases h : t[i]? with
  | none => rfl
  | some sl => cases sl with
    | own o => cases o <;> rfl
    | _ => rfl
theorem wipe_n {env : En} : wipeE env [] = env := rfl
theorem wipe_c {env : En} {v : Nat} {vs : List Nat} : wipeE env (v :: vs) = (wipeE env vs).set v .no := rfl
theorem datas_n : datas [] = some [] := rfl
theorem datas_c {x : D} {r : List EV} : datas (.d x :: r) = (datas r).map (x :: ·) := rfl
theorem map_s {α β : Type} {f : α → β} {a : α} : Option.map f (some a) = some (f a) := rfl
theorem bind_s {α β : Type} {f : α → Option β} {a : α} : Option.bind (some a) f = f a := rfl
theorem setA_n {env : En} : setAll [] [] env = some env := rfl
theorem setA_c {i : Nat} {is : List Nat} {x : D} {xs : List D} {env : En} : setAll (i :: is) (x :: xs) env = setAll is xs (env.set i (.ev (.d x))) := rfl
/-! values -/
theorem p2_d {g : D → D → Option D} {a b : D} {G : GS} : pure2 g (.d a) (.d b) G = (g a b).map fun z => (.d z, G) := rfl
theorem p1_d {g : D → Option D} {a : D} {G : GS} : pure1 g (.d a) G = (g a).map fun z => (.d z, G) := rfl
theorem pN_d {g : List D → Option D} {xs : List EV} {G : GS} : pureN g xs G = (datas xs).bind fun ds => (g ds).map fun z => (.d z, G) := rfl
theorem fEq_i {a b : Int} {G : GS} : fEq (.d (.int a)) (.d (.int b)) G = some (.d (.bl (decide (a = b))), G) := rfl
theorem fEq_s {a b : Str} {G : GS} : fEq (.d (.str a)) (.d (.str b)) G = some (.d (.bl (decide (a = b))), G) := rfl
theorem fEq_b {a b : Bool} {G : GS} : fEq (.d (.bl a)) (.d (.bl b)) G = some (.d (.bl (decide (a = b))), G) := rfl
theorem fEq_ii {k k' : String} {fs fs' : List D} {G : GS} : fEq (.d (.ins k fs)) (.d (.ins k' fs')) G = none := rfl
theorem fNe_i {a b : Int} {G : GS} : fNe (.d (.int a)) (.d (.int b)) G = some (.d (.bl (!decide (a = b))), G) := rfl
theorem fNe_s {a b : Str} {G : GS} : fNe (.d (.str a)) (.d (.str b)) G = some (.d (.bl (!decide (a = b))), G) := rfl
theorem fNe_b {a b : Bool} {G : GS} : fNe (.d (.bl a)) (.d (.bl b)) G = some (.d (.bl (!decide (a = b))), G) := rfl
theorem fSub_i {a b : Int} {G : GS} : fSub (.d (.int a)) (.d (.int b)) G = some (.d (.int (a - b)), G) := rfl
theorem fAdd_i {a b : Int} {G : GS} : fAdd (.d (.int a)) (.d (.int b)) G = some (.d (.int (a + b)), G) := rfl
theorem fAnd_i {a b : Int} {G : GS} : fAnd (.d (.int a)) (.d (.int b)) G = some (.d (.int (Builtin.bitAnd a b)), G) := rfl
theorem fOr_i {a b : Int} {G : GS} : fOr (.d (.int a)) (.d (.int b)) G = some (.d (.int (Builtin.bitOr a b)), G) := rfl
theorem fXor_i {a b : Int} {G : GS} : fXor (.d (.int a)) (.d (.int b)) G = some (.d (.int (Builtin.bitXor a b)), G) := rfl
theorem fLt_i {a b : Int} {G : GS} : fLt (.d (.int a)) (.d (.int b)) G = some (.d (.bl (decide (a < b))), G) := rfl
theorem fLe_i {a b : Int} {G : GS} : fLe (.d (.int a)) (.d (.int b)) G = some (.d (.bl (decide (a ≤ b))), G) := rfl
theorem fGt_i {a b : Int} {G : GS} : fGt (.d (.int a)) (.d (.int b)) G = some (.d (.bl (decide (b < a))), G) := rfl
theorem fGe_i {a b : Int} {G : GS} : fGe (.d (.int a)) (.d (.int b)) G = some (.d (.bl (decide (b ≤ a))), G) := rfl
theorem fMod_i {a b : Int} {G : GS} (h : cPos a b = true) : fMod (.d (.int a)) (.d (.int b)) G = some (.d (.int (a % b)), G) := by show Option.map _ (if cPos a b = true then _ else _) = _; rw [if_pos h]; rfl
theorem fDiv_i {a b : Int} {G : GS} (h : cDiv a b = true) : fDiv (.d (.int a)) (.d (.int b)) G = some (.d (.int (a / b)), G) := by show Option.map _ (if cDiv a b = true then _ else _) = _; rw [if_pos h]; rfl
theorem fIs_d {a : D} {G : GS} : fIs (.d a) (.d .non) G = some (.d (.bl (isNon a)), G) := rfl
theorem fIsNot_d {a : D} {G : GS} : fIsNot (.d a) (.d .non) G = some (.d (.bl (!isNon a)), G) := rfl
theorem fIsB_b {a b : Bool} {G : GS} : fIsNotB (.d (.bl a)) (.d (.bl b)) G = some (.d (.bl (!decide (a = b))), G) := by cases a <;> cases b <;> rfl
theorem isB_b {b : Bool} {G : GS} : isB (.d (.bl b)) G = some (b, G) := rfl
theorem tru_b {b : Bool} {G : GS} : truE (.d (.bl b)) G = some (b, G) := rfl
theorem tru_i {b : Int} {G : GS} : truE (.d (.int b)) G = some (b != 0, G) := rfl
theorem tru_l {xs : List D} {G : GS} : truE (.d (.lst xs)) G = some (!xs.isEmpty, G) := rfl
theorem tru_t {xs : List D} {G : GS} : truE (.d (.tup xs)) G = some (!xs.isEmpty, G) := rfl
def orE {α : Type} (a : Option α) (b : Option α) : Option α := match a with
  | some r => some r
  | none => b
theorem orE_s {α : Type} {r : α} {b : Option α} : orE (some r) b = some r := rfl
theorem orE_n {α : Type} {b : Option α} : orE none b = b := rfl
theorem alt2_e {f g : F2} {x y : EV} {G : GS} : alt2 f g x y G = orE (f x y G) (g x y G) := by show (match f x y G with | some r => some r | none => g x y G) = _; cases f x y G <;> rfl
theorem alt1_e {f g : F1} {x : EV} {G : GS} : alt1 f g x G = orE (f x G) (g x G) := by show (match f x G with | some r => some r | none => g x G) = _; cases f x G <;> rfl
theorem altN_e {f g : FN} {x : List EV} {G : GS} : altN f g x G = orE (f x G) (g x G) := by show (match f x G with | some r => some r | none => g x G) = _; cases f x G <;> rfl
theorem fIx_l {xs : List D} {i : Int} {G : GS} : fIx (.d (.lst xs)) (.d (.int i)) G = (atI xs i).map fun z => (.d z, G) := rfl
theorem fIx_t {xs : List D} {i : Int} {G : GS} : fIx (.d (.tup xs)) (.d (.int i)) G = (atI xs i).map fun z => (.d z, G) := rfl
theorem at_n {α : Type} {xs : List α} {n : Nat} (h : n < xs.length) : atI xs (n : Int) = some xs[n] := L2.atI_nat (List.getElem?_eq_getElem h)
theorem at_0 {α : Type} {a : α} {t : List α} : atI (a :: t) 0 = some a := at_n (n := 0) (by simp)
theorem at_1 {α : Type} {a b : α} {t : List α} : atI (a :: b :: t) 1 = some b := at_n (n := 1) (by simp)
theorem at_2 {α : Type} {a b c : α} {t : List α} : atI (a :: b :: c :: t) 2 = some c := at_n (n := 2) (by simp)
theorem at_3 {α : Type} {a b c d : α} {t : List α} : atI (a :: b :: c :: d :: t) 3 = some d := at_n (n := 3) (by simp)
theorem at_4 {α : Type} {a b c d e : α} {t : List α} : atI (a :: b :: c :: d :: e :: t) 4 = some e := at_n (n := 4) (by simp)
theorem at_5 {α : Type} {a b c d e f : α} {t : List α} : atI (a :: b :: c :: d :: e :: f :: t) 5 = some f := at_n (n := 5) (by simp)
theorem ixN_p {m : Nat} {i : Int} (h0 : 0 ≤ i) (h1 : i.toNat < m) : ixN m i = some i.toNat := by unfold ixN; rw [if_pos h0, if_pos (by omega)]
theorem for_n {k : Nat} {b : SM} {env : En} {G : GS} : forL k b [] env G = .nx env G := rfl
theorem for_c {k : Nat} {b : SM} {d : D} {ds : List D} {env : En} {G : GS} : forL k b (d :: ds) env G = loopO (b (env.set k (.ev (.d d))) G) (forL k b ds) := rfl
theorem lc_n {k : Nat} {tt : BM} {te : EM} {env : En} {G : GS} : lcL k tt te [] env G = .ok [] G := rfl
def kL2 (y : D) : List D → GS → Out (List D) := fun ys G3 => .ok (y :: ys) G3
theorem kL2_e {y : D} {ys : List D} {G : GS} : kL2 y ys G = .ok (y :: ys) G := rfl
def kL1 (k : Nat) (tt : BM) (te : EM) (ds : List D) (env : En) : EV → GS → Out (List D) := fun y G2 => (match y with
      | .d y => bindN (lcL k tt te ds env G2) (kL2 y)
      | _ => .st)
theorem kL1_e {k : Nat} {tt : BM} {te : EM} {ds : List D} {env : En} {y : D} {G : GS} : kL1 k tt te ds env (.d y) G = bindN (lcL k tt te ds env G) (kL2 y) := rfl
def kT (k : Nat) (tt : BM) (te : EM) (d : D) (ds : List D) (env : En) : Bool → GS → Out (List D) := fun b G1 => if b = true then bindN (te (env.set k (.ev (.d d))) G1) (kL1 k tt te ds env) else lcL k tt te ds env G1
theorem kT_t {k : Nat} {tt : BM} {te : EM} {d : D} {ds : List D} {env : En} {G : GS} : kT k tt te d ds env true G = bindN (te (env.set k (.ev (.d d))) G) (kL1 k tt te ds env) := rfl
theorem kT_f {k : Nat} {tt : BM} {te : EM} {d : D} {ds : List D} {env : En} {G : GS} : kT k tt te d ds env false G = lcL k tt te ds env G := rfl
theorem lc_c {k : Nat} {tt : BM} {te : EM} {d : D} {ds : List D} {env : En} {G : GS} : lcL k tt te (d :: ds) env G = bindN (tt (env.set k (.ev (.d d))) G) (kT k tt te d ds env) := rfl
theorem len_lst {xs : List D} {G : GS} : fLen [.d (.lst xs)] G = some (.d (.int xs.length), G) := rfl
theorem len_tup {xs : List D} {G : GS} : fLen [.d (.tup xs)] G = some (.d (.int xs.length), G) := rfl
theorem kfn_c {k : String} {g : Ar × FM} {r : List (String × (Ar × FM))} {k' : String} : kfn ((k, g) :: r) k' = if k = k' then some g else kfn r k' := rfl
theorem kix_c {k : String} {i : Nat} {r : List (String × Nat)} {k' : String} : kix ((k, i) :: r) k' = if k = k' then some i else kix r k' := rfl
/-- the class of an instance, its fields -/
def kOf : EV → Option String
  | .d (.ins k _) => some k
  | _ => none
def fsOf : D → List D
  | .ins _ fs => fs
  | _ => []
theorem kOf_i {k : String} {fs : List D} : kOf (.d (.ins k fs)) = some k := rfl
theorem fsOf_i {k : String} {fs : List D} : fsOf (.ins k fs) = fs := rfl
def kMe (A : Ar) (g : FM) (x : EV) : List EV → GS → Out EV := fun xs G2 => if A (xs.length + 1) = true then g (x :: xs) G2 else .st
theorem kMe_e {A : Ar} {g : FM} {x : EV} {xs : List EV} {G : GS} (h : A (xs.length + 1) = true) : kMe A g x xs G = g (x :: xs) G := if_pos h
def methA (o : Option (Ar × FM)) (x : EV) (r : AM) (env : En) (G : GS) : Out EV := match o with
  | some (A, g) => (r env G).bind (kMe A g x)
  | none => .st
def methK (ms : List (String × (Ar × FM))) (o : Option String) (x : EV) (r : AM) (env : En) (G : GS) : Out EV := match o with
  | some k => methA (kfn ms k) x r env G
  | none => .st
def methO (ms : List (String × (Ar × FM))) (x : EV) (r : AM) (env : En) (G : GS) : Out EV := methK ms (kOf x) x r env G
theorem methO_e {ms : List (String × (Ar × FM))} {x : EV} {r : AM} {env : En} {G : GS} : methO ms x r env G = methK ms (kOf x) x r env G := rfl
theorem methK_s {ms : List (String × (Ar × FM))} {k : String} {x : EV} {r : AM} {env : En} {G : GS} : methK ms (some k) x r env G = methA (kfn ms k) x r env G := rfl
theorem methA_s {A : Ar} {g : FM} {x : EV} {r : AM} {env : En} {G : GS} : methA (some (A, g)) x r env G = (r env G).bind (kMe A g x) := rfl
def ownK (cl : String) (A : Ar) (g : FM) (o o' : Option String) (x y : EV) (G : GS) : Option (EV × GS) := match o, o' with
  | some k, some k' => if k = cl ∧ k' = cl ∧ A 2 = true then toOpt (g [x, y] G) else none
  | _, _ => none
theorem ownK_s {cl k k' : String} {A : Ar} {g : FM} {x y : EV} {G : GS} : ownK cl A g (some k) (some k') x y G = if k = cl ∧ k' = cl ∧ A 2 = true then toOpt (g [x, y] G) else none := rfl
theorem ownK_n {cl : String} {o : Option String} {A : Ar} {g : FM} {x y : EV} {G : GS} : ownK cl A g none o x y G = none := rfl
theorem ownK_m {cl : String} {o : Option String} {A : Ar} {g : FM} {x y : EV} {G : GS} : ownK cl A g o none x y G = none := by cases o <;> rfl
theorem fOwn_k {cl : String} {A : Ar} {g : FM} {x y : EV} {G : GS} : fOwn cl A g x y G = ownK cl A g (kOf x) (kOf y) x y G := by
  cases x with
  | o i => rfl
  | d x => cases y with
    | o i => cases x <;> rfl
    | d y => cases x <;> cases y <;> rfl
def own1K (cl : String) (A : Ar) (g : FM) (o : Option String) (x : EV) (G : GS) : Option (EV × GS) := match o with
  | some k => if k = cl ∧ A 1 = true then toOpt (g [x] G) else none
  | _ => none
theorem own1K_s {cl k : String} {A : Ar} {g : FM} {x : EV} {G : GS} : own1K cl A g (some k) x G = if k = cl ∧ A 1 = true then toOpt (g [x] G) else none := rfl
theorem own1K_n {cl : String} {A : Ar} {g : FM} {x : EV} {G : GS} : own1K cl A g none x G = none := rfl
theorem fOwn1_k {cl : String} {A : Ar} {g : FM} {x : EV} {G : GS} : fOwn1 cl A g x G = own1K cl A g (kOf x) x G := by
  cases x with
  | o i => rfl
  | d x => cases x <;> rfl
def fldK (ks : List (String × Nat)) (o : Option String) (fs : List D) : Option D := match o with
  | some k => (kix ks k).bind fun i => fs[i]?
  | none => none
theorem fldK_s {ks : List (String × Nat)} {k : String} {fs : List D} : fldK ks (some k) fs = (kix ks k).bind fun i => fs[i]? := rfl
theorem gFld_k {ks : List (String × Nat)} {x : D} : gFld ks x = fldK ks (kOf (.d x)) (fsOf x) := by cases x <;> rfl
theorem cPos_e {a b : Int} : cPos a b = decide (0 < b) := rfl
theorem cDiv_e {a b : Int} : cDiv a b = (decide (0 < b) && decide (b < 2 ^ 200)) := rfl
theorem lstMax_e : lstMax = 100000 := rfl
theorem arN_t {n : Nat} : arN n n = true := by unfold arN; exact beq_self_eq_true n
theorem arS_0 {n : Nat} : arS 0 n = true := by unfold arS; exact decide_eq_true (Nat.zero_le n)
theorem bYes_e {env : En} {G : GS} : bYes env G = .ok true G := rfl
/-! the meanings, applied; what follows a value is a name -/
def kSet (i : Nat) (env : En) : EV → GS → OutS := fun e G1 => .nx (env.set i (.ev e)) G1
def kSet2 (i j : Nat) (env : En) : EV → GS → OutS := fun e G1 => .nx ((env.set i (.ev e)).set j (.ev e)) G1
def kDrop (env : En) : EV → GS → OutS := fun _ G1 => .nx env G1
def kIf (a b : SM) (env : En) : Bool → GS → OutS := fun k G1 => if k = true then a env G1 else b env G1
def kOwn (i : Nat) (env : En) : List D × GS → GS → OutS := fun p _ => .nx (env.set i (.own (.lst p.1))) p.2
def kApp (xs : List D) (i : Nat) (env : En) : EV → GS → OutS := fun e G1 => match e with
    | .d x => if xs.length < lstMax then .nx (env.set i (.own (.lst (xs ++ [x])))) G1 else .st
    | _ => .st
def kOsub2 (xs : List D) (i : Nat) (env : En) (x : EV) : EV → GS → OutS := fun j G2 => match x, j with
    | .d x, .d (.int j) => (match ixN xs.length j with
      | some j => .nx (env.set i (.own (.lst (xs.set j x)))) G2
      | none => .st)
    | _, _ => .st
def kOsub1 (xs : List D) (i : Nat) (mi : EM) (env : En) : EV → GS → OutS := fun x G1 => ofE (mi env G1) env (kOsub2 xs i env x)
def kFor (k : Nat) (b : SM) (env : En) : List D → GS → OutS := fun ds G1 => forL k b ds env G1
def unpK (o : Option En) (G : GS) : OutS := match o with
  | some env' => .nx env' G
  | none => .st
def kUnp (is : List Nat) (env : En) : EV → GS → OutS := fun e G1 => match e with
  | .d (.tup xs) => unpK (setAll is xs env) G1
  | _ => .st
def kOp2 (f : F2) (x : EV) : EV → GS → Out EV := fun y G2 => lift (f x y G2)
def kOp1 (f : F2) (b : EM) (env : En) : EV → GS → Out EV := fun x G1 => (b env G1).bind (kOp2 f x)
def kUn (f : F1) : EV → GS → Out EV := fun x G1 => lift (f x G1)
def kC2 (x : EV) : List EV → GS → Out (List EV) := fun xs G2 => .ok (x :: xs) G2
def kC1 (r : AM) (env : En) : EV → GS → Out (List EV) := fun x G1 => (r env G1).bind (kC2 x)
def kA2 (i j : Nat) (xs : List EV) : List EV → GS → Out (List EV) := fun ys G2 => if xs.length = i ∧ ys.length = j then .ok (xs ++ ys) G2 else .st
def kA1 (i j : Nat) (r' : AM) (env : En) : List EV → GS → Out (List EV) := fun xs G1 => (r' env G1).bind (kA2 i j xs)
def kFN (fn : FN) : List EV → GS → Out EV := fun xs G1 => lift (fn xs G1)
def kCall (A : Ar) (g : FM) : List EV → GS → Out EV := fun xs G1 => if A xs.length = true then g xs G1 else .st
def kMake (cl : String) (A : Ar) (gi : IM) : List EV → GS → Out EV := fun xs G1 => if A xs.length = true then mkO cl (gi xs G1) else .st
def kCM (cl : String) (A : Ar) (g : FM) : List EV → GS → Out EV := fun xs G1 => if A (xs.length + 1) = true then g (.d (.cls cl) :: xs) G1 else .st
def kMeth (ms : List (String × (Ar × FM))) (r : AM) (env : En) : EV → GS → Out EV := fun x G1 => methO ms x r env G1
def lstK (o : Option (List D)) (G : GS) : Out EV := match o with
  | some ds => if ds.length ≤ lstMax then .ok (.d (.lst ds)) G else .st
  | none => .st
def kLst : List EV → GS → Out EV := fun xs G1 => lstK (datas xs) G1
def tupK (o : Option (List D)) (G : GS) : Out EV := match o with
  | some ds => if ds.length ≤ lstMax then .ok (.d (.tup ds)) G else .st
  | none => .st
def kTup : List EV → GS → Out EV := fun xs G1 => tupK (datas xs) G1
def nlK (o : Option (List D)) (G : GS) : Out (List D × GS) := match o with
  | some ds => if ds.length ≤ lstMax then .ok (ds, G) G else .st
  | none => .st
def kNl : List EV → GS → Out (List D × GS) := fun xs G1 => nlK (datas xs) G1
def nliK (o : Option (List D)) (G : GS) : Out (List D × GS) := match o with
  | some ds => .ok (ds, G) G
  | none => .st
def kNli : List EV → GS → Out (List D × GS) := fun xs G1 => nliK (lOf xs) G1
def kLc2 : List D → GS → Out EV := fun ys G2 => if ys.length ≤ lstMax then .ok (.d (.lst ys)) G2 else .st
def kLc1 (k : Nat) (vs : List Nat) (t : BM) (e : EM) (env : En) : List D → GS → Out EV := fun ds G1 => bindN (lcL k t e ds (wipeE env vs) G1) kLc2
def kNc2 : List D → GS → Out (List D × GS) := fun ys G2 => if ys.length ≤ lstMax then .ok (ys, G2) G2 else .st
def kNc1 (k : Nat) (vs : List Nat) (t : BM) (e : EM) (env : En) : List D → GS → Out (List D × GS) := fun ds G1 => bindN (lcL k t e ds (wipeE env vs) G1) kNc2
def kSeq : EV → GS → Out (List D) := fun e G1 => match e with
  | .d (.lst xs) => .ok xs G1
  | _ => .st
def kTpl : EV → GS → Out (List D) := fun e G1 => match e with
  | .d (.tup xs) => .ok xs G1
  | _ => .st
def kEIf (a b : EM) (env : En) : Bool → GS → Out EV := fun k G1 => if k = true then a env G1 else b env G1
def kEAnd (b : EM) (env : En) : EV → GS → Out EV := fun x G1 => match x with
  | .d (.bl true) => b env G1
  | .d (.bl false) => .ok (.d (.bl false)) G1
  | _ => .st
def kEOr (b : EM) (env : En) : EV → GS → Out EV := fun x G1 => match x with
  | .d (.bl true) => .ok (.d (.bl true)) G1
  | .d (.bl false) => b env G1
  | _ => .st
def kENot : EV → GS → Out EV := fun x G1 => match x with
  | .d (.bl k) => .ok (.d (.bl (!k))) G1
  | _ => .st
def kB (F : EV → GS → Option (Bool × GS)) : EV → GS → Out Bool := fun e G1 => lift (F e G1)
def kBAnd (b : BM) (env : En) : Bool → GS → Out Bool := fun k G1 => if k = true then b env G1 else .ok false G1
def kBOr (b : BM) (env : En) : Bool → GS → Out Bool := fun k G1 => if k = true then .ok true G1 else b env G1
def kBNot : Bool → GS → Out Bool := fun k G1 => .ok (!k) G1
def kOS : EV → GS → Out (Option Int) := fun x G1 => match x with
  | .d (.int i) => .ok (some i) G1
  | _ => .st
def kSl3 (x : EV) (l : Option Int) : Option Int → GS → Out EV := fun h G3 => match x with
  | .d (.lst xs) => .ok (.d (.lst (cutL xs l h))) G3
  | _ => .st
def kSl2 (hi : OM) (env : En) (x : EV) : Option Int → GS → Out EV := fun l G2 => (hi env G2).bind (kSl3 x l)
def kSl1 (lo hi : OM) (env : En) : EV → GS → Out EV := fun x G1 => (lo env G1).bind (kSl2 hi env x)
def kSt3 (x : EV) (l : Option Int) : Option Int → GS → Out EV := fun h G3 => match x with
  | .d (.tup xs) => .ok (.d (.tup (cutL xs l h))) G3
  | _ => .st
def kSt2 (hi : OM) (env : En) (x : EV) : Option Int → GS → Out EV := fun l G2 => (hi env G2).bind (kSt3 x l)
def kSt1 (lo hi : OM) (env : En) : EV → GS → Out EV := fun x G1 => (lo env G1).bind (kSt2 hi env x)
def ixK (o : Option D) (G : GS) : Out EV := match o with
  | some x => .ok (.d x) G
  | none => .st
def kOix (xs : List D) : EV → GS → Out EV := fun j G1 => match j with
    | .d (.int j) => ixK (atI xs j) G1
    | _ => .st
section
variable {a b m n : SM} {e e' mo me mi : EM} {t ta tb : BM} {r r' : AM} {l : LM} {env env' : En} {G : GS} {i j k : Nat} {f : F2} {f1 : F1} {fn : FN} {A : Ar} {g : FM} {gi : IM} {cl : String} {fm : FM'} {x y : D} {u v : EV} {xs ys ds : List D} {us vs : List EV} {is : List Nat} {lo hi : OM} {ms : List (String × (Ar × FM))} {z : Int} {oz ow : Option Int}
theorem sSeq_e : sSeq a b env G = seqO (a env G) b := rfl
theorem sNil_e : sNil env G = .nx env G := rfl
theorem sSet_e : sSet i e env G = ofE (e env G) env (kSet i env) := rfl
theorem kSet_e : kSet i env u G = .nx (env.set i (.ev u)) G := rfl
theorem sSet2_e : sSet2 i j e env G = ofE (e env G) env (kSet2 i j env) := rfl
theorem kSet2_e : kSet2 i j env u G = .nx ((env.set i (.ev u)).set j (.ev u)) G := rfl
theorem sRet_e : sRet e env G = ofE (e env G) env OutS.rt := rfl
theorem sRetN_e : sRetN env G = .rt (.d .non) G := rfl
theorem sDrop_e : sDrop e env G = ofE (e env G) env (kDrop env) := rfl
theorem kDrop_e : kDrop env u G = .nx env G := rfl
theorem sIf_e : sIf t a b env G = ofE (t env G) env (kIf a b env) := rfl
theorem kIf_t : kIf a b env true G = a env G := rfl
theorem kIf_f : kIf a b env false G = b env G := rfl
theorem sBk_e : sBk env G = .bk env G := rfl
theorem sCt_e : sCt env G = .ct env G := rfl
theorem sFrz_e : sFrz i a env G = a (frzE i env) G := rfl
theorem sOwn_e : sOwn i fm env G = ofE (fm env G) env (kOwn i env) := rfl
theorem kOwn_e : kOwn i env (xs, G) G = .nx (env.set i (.own (.lst xs))) G := rfl
def appK (o : Option (List D)) (i : Nat) (m : EM) (env : En) (G : GS) : OutS := match o with
  | some xs => ofE (m env G) env (kApp xs i env)
  | none => .st
theorem sApp_e : sApp i e env G = appK (oL i env) i e env G := rfl
theorem appK_s : appK (some xs) i e env G = ofE (e env G) env (kApp xs i env) := rfl
theorem kApp_e : kApp xs i env (.d x) G = if xs.length < lstMax then .nx (env.set i (.own (.lst (xs ++ [x])))) G else .st := rfl
def osubK (o : Option (List D)) (i : Nat) (mi me : EM) (env : En) (G : GS) : OutS := match o with
  | some xs => ofE (me env G) env (kOsub1 xs i mi env)
  | none => .st
theorem sOSub_e : sOSub i mi me env G = osubK (oL i env) i mi me env G := rfl
theorem osubK_s : osubK (some xs) i mi me env G = ofE (me env G) env (kOsub1 xs i mi env) := rfl
theorem kOsub1_e : kOsub1 xs i mi env u G = ofE (mi env G) env (kOsub2 xs i env u) := rfl
def osK (o : Option Nat) (xs : List D) (i : Nat) (env : En) (x : D) (G : GS) : OutS := match o with
  | some j => .nx (env.set i (.own (.lst (xs.set j x)))) G
  | none => .st
theorem kOsub2_e : kOsub2 xs i env (.d x) (.d (.int z)) G = osK (ixN xs.length z) xs i env x G := rfl
theorem osK_s : osK (some j) xs i env x G = .nx (env.set i (.own (.lst (xs.set j x)))) G := rfl
def oixK (o : Option (List D)) (mi : EM) (env : En) (G : GS) : Out EV := match o with
  | some xs => (mi env G).bind (kOix xs)
  | none => .st
theorem eOIx_e : eOIx i mi env G = oixK (oL i env) mi env G := rfl
theorem oixK_s : oixK (some xs) mi env G = (mi env G).bind (kOix xs) := rfl
theorem kOix_e : kOix xs (.d (.int z)) G = ixK (atI xs z) G := rfl
theorem ixK_s : ixK (some x) G = .ok (.d x) G := rfl
def olenK (o : Option (List D)) (G : GS) : Out EV := match o with
  | some xs => .ok (.d (.int xs.length)) G
  | none => .st
theorem olenK_s : olenK (some xs) G = .ok (.d (.int xs.length)) G := rfl
theorem eOLen_e : eOLen i env G = olenK (oL i env) G := rfl
theorem sFor_e : sFor k l b env G = ofE (l env G) env (kFor k b env) := rfl
theorem kFor_e : kFor k b env ds G = forL k b ds env G := rfl
theorem sUnp_e : sUnp is e env G = ofE (e env G) env (kUnp is env) := rfl
theorem kUnp_e : kUnp is env (.d (.tup xs)) G = unpK (setAll is xs env) G := rfl
theorem unpK_s : unpK (some env') G = .nx env' G := rfl
theorem eC_e : eC x env G = .ok (.d x) G := rfl
theorem eOp_e : eOp f e e' env G = (e env G).bind (kOp1 f e' env) := rfl
theorem kOp1_e : kOp1 f e env u G = (e env G).bind (kOp2 f u) := rfl
theorem kOp2_e : kOp2 f u v G = lift (f u v G) := rfl
theorem eUn_e : eUn f1 e env G = (e env G).bind (kUn f1) := rfl
theorem kUn_e : kUn f1 u G = lift (f1 u G) := rfl
theorem aNil_e : aNil env G = .ok [] G := rfl
theorem aCons_e : aCons e r env G = (e env G).bind (kC1 r env) := rfl
theorem kC1_e : kC1 r env u G = (r env G).bind (kC2 u) := rfl
theorem kC2_e : kC2 u us G = .ok (u :: us) G := rfl
theorem aApp_e : aApp i j r r' env G = (r env G).bind (kA1 i j r' env) := rfl
theorem kA1_e : kA1 i j r' env us G = (r' env G).bind (kA2 i j us) := rfl
theorem kA2_e (h : us.length = i ∧ vs.length = j) : kA2 i j us vs G = .ok (us ++ vs) G := if_pos h
theorem eFN_e : eFN fn r env G = (r env G).bind (kFN fn) := rfl
theorem kFN_e : kFN fn us G = lift (fn us G) := rfl
theorem eCall_e : eCall A g r env G = (r env G).bind (kCall A g) := rfl
theorem kCall_e (h : A us.length = true) : kCall A g us G = g us G := if_pos h
theorem eMake_e : eMake cl A gi r env G = (r env G).bind (kMake cl A gi) := rfl
theorem kMake_e (h : A us.length = true) : kMake cl A gi us G = mkO cl (gi us G) := if_pos h
theorem eCMeth_e : eCMeth cl A g r env G = (r env G).bind (kCM cl A g) := rfl
theorem kCM_e (h : A (us.length + 1) = true) : kCM cl A g us G = g (.d (.cls cl) :: us) G := if_pos h
theorem eMeth_e : eMeth ms e r env G = (e env G).bind (kMeth ms r env) := by
  unfold eMeth
  congr 1
  funext x G1
  cases x with
  | o i => rfl
  | d x => cases x <;> rfl
theorem kMeth_e : kMeth ms r env u G = methO ms u r env G := rfl
theorem eCallO_e : eCallO ms e r env G = eMeth ms e r env G := rfl
theorem eLst_e : eLst r env G = (r env G).bind kLst := rfl
theorem kLst_e : kLst us G = lstK (datas us) G := rfl
theorem lstK_s : lstK (some ds) G = if ds.length ≤ lstMax then .ok (.d (.lst ds)) G else .st := rfl
theorem eTup_e : eTup r env G = (r env G).bind kTup := rfl
theorem kTup_e : kTup us G = tupK (datas us) G := rfl
theorem tupK_s : tupK (some ds) G = if ds.length ≤ lstMax then .ok (.d (.tup ds)) G else .st := rfl
theorem nLst_e : nLst r env G = (r env G).bind kNl := rfl
theorem kNl_e : kNl us G = nlK (datas us) G := rfl
theorem nlK_s : nlK (some ds) G = if ds.length ≤ lstMax then .ok (ds, G) G else .st := rfl
theorem nList_e : nList r env G = (r env G).bind kNli := rfl
theorem kNli_e : kNli us G = nliK (lOf us) G := rfl
theorem nliK_s : nliK (some ds) G = .ok (ds, G) G := rfl
theorem lOf_l : lOf [.d (.lst ds)] = some ds := rfl
theorem lOf_t : lOf [.d (.tup ds)] = some ds := rfl
theorem nLc_e : nLc k is l t e env G = (l env G).bind (kNc1 k is t e env) := rfl
theorem kNc1_e : kNc1 k is t e env ds G = bindN (lcL k t e ds (wipeE env is) G) kNc2 := rfl
theorem kNc2_e : kNc2 ds G = if ds.length ≤ lstMax then .ok (ds, G) G else .st := rfl
theorem eLc_e : eLc k is l t e env G = (l env G).bind (kLc1 k is t e env) := rfl
theorem kLc1_e : kLc1 k is t e env ds G = bindN (lcL k t e ds (wipeE env is) G) kLc2 := rfl
theorem kLc2_e : kLc2 ds G = if ds.length ≤ lstMax then .ok (.d (.lst ds)) G else .st := rfl
theorem lSeq_e : lSeq e env G = (e env G).bind kSeq := rfl
theorem kSeq_e : kSeq (.d (.lst xs)) G = .ok xs G := rfl
theorem lTup_e : lTup e env G = (e env G).bind kTpl := rfl
theorem kTpl_e : kTpl (.d (.tup xs)) G = .ok xs G := rfl
theorem eIf_e : eIf t e e' env G = (t env G).bind (kEIf e e' env) := rfl
theorem kEIf_t : kEIf e e' env true G = e env G := rfl
theorem kEIf_f : kEIf e e' env false G = e' env G := rfl
theorem eAnd_e : eAnd e e' env G = (e env G).bind (kEAnd e' env) := rfl
theorem kEAnd_t : kEAnd e env (.d (.bl true)) G = e env G := rfl
theorem kEAnd_f : kEAnd e env (.d (.bl false)) G = .ok (.d (.bl false)) G := rfl
theorem eOr_e : eOr e e' env G = (e env G).bind (kEOr e' env) := rfl
theorem kEOr_t : kEOr e env (.d (.bl true)) G = .ok (.d (.bl true)) G := rfl
theorem kEOr_f : kEOr e env (.d (.bl false)) G = e env G := rfl
theorem eNot_e : eNot e env G = (e env G).bind kENot := rfl
theorem kENot_e {k : Bool} : kENot (.d (.bl k)) G = .ok (.d (.bl (!k))) G := rfl
theorem bOf_e {F : EV → GS → Option (Bool × GS)} : bOf F e env G = (e env G).bind (kB F) := rfl
theorem kB_e {F : EV → GS → Option (Bool × GS)} : kB F u G = lift (F u G) := rfl
theorem bAnd_e : bAnd ta tb env G = (ta env G).bind (kBAnd tb env) := rfl
theorem kBAnd_t : kBAnd tb env true G = tb env G := rfl
theorem kBAnd_f : kBAnd tb env false G = .ok false G := rfl
theorem bOr_e : bOr ta tb env G = (ta env G).bind (kBOr tb env) := rfl
theorem kBOr_t : kBOr tb env true G = .ok true G := rfl
theorem kBOr_f : kBOr tb env false G = tb env G := rfl
theorem bNot_e : bNot ta env G = (ta env G).bind kBNot := rfl
theorem kBNot_e {k : Bool} : kBNot k G = .ok (!k) G := rfl
theorem eFld_e {ks : List (String × Nat)} : eFld ks e env G = (e env G).bind (kUn (pure1 (gFld ks))) := rfl
theorem runB_e : runB i m us G = retO (m (env0 i us) G) := rfl
theorem env0_e : env0 i us = us.map .ev ++ List.replicate (i - us.length) .no := rfl
theorem oN_e : oNone env G = .ok none G := rfl
theorem oS_e : oSome e env G = (e env G).bind kOS := rfl
theorem kOS_e : kOS (.d (.int z)) G = .ok (some z) G := rfl
theorem eSl_e : eSl e lo hi env G = (e env G).bind (kSl1 lo hi env) := rfl
theorem kSl1_e : kSl1 lo hi env u G = (lo env G).bind (kSl2 hi env u) := rfl
theorem kSl2_e : kSl2 hi env u oz G = (hi env G).bind (kSl3 u oz) := rfl
theorem kSl3_e : kSl3 (.d (.lst xs)) oz ow G = .ok (.d (.lst (cutL xs oz ow))) G := rfl
theorem eSlT_e : eSlT e lo hi env G = (e env G).bind (kSt1 lo hi env) := rfl
theorem kSt1_e : kSt1 lo hi env u G = (lo env G).bind (kSt2 hi env u) := rfl
theorem kSt2_e : kSt2 hi env u oz G = (hi env G).bind (kSt3 u oz) := rfl
theorem kSt3_e : kSt3 (.d (.tup xs)) oz ow G = .ok (.d (.tup (cutL xs oz ow))) G := rfl
end
/-! raising, catching -/
def kEr (cl : String) (ok : D → Bool) (env : En) : EV → GS → OutS := fun e G1 => match e with
  | .d x => if ok x = true then .er cl [x] env G1 else .st
  | _ => .st
theorem sEr_e {cl : String} {ok : D → Bool} {m : EM} {env : En} {G : GS} : sEr cl ok m env G = ofE (m env G) env (kEr cl ok env) := rfl
def tryK (i : Nat) (cl : String) (ms : SM) (o : OutS) : OutS := match o with
  | .er k fs env1 G1 => if k = cl ∧ fs.isEmpty = false ∧ env1.all plainS = true ∧ i < env1.length then afterO i (ms (env1.set i (.exn cl fs)) G1) else .st
  | o => o
theorem sTryAs_e {i : Nat} {cl : String} {mb ms : SM} {env : En} {G : GS} : sTryAs i cl mb ms env G = tryK i cl ms (mb env G) := rfl
theorem tryK_nx {i : Nat} {cl : String} {ms : SM} {env : En} {G : GS} : tryK i cl ms (.nx env G) = .nx env G := rfl
theorem tryK_rt {i : Nat} {cl : String} {ms : SM} {e : EV} {G : GS} : tryK i cl ms (.rt e G) = .rt e G := rfl
theorem tryK_er {i : Nat} {cl : String} {x : D} {fs : List D} {ms : SM} {env : En} {G : GS} (h : env.all plainS = true) (hi : i < env.length) : tryK i cl ms (.er cl (x :: fs) env G) = afterO i (ms (env.set i (.exn cl (x :: fs))) G) := if_pos ⟨rfl, rfl, h, hi⟩
theorem afterO_rt {i : Nat} {e : EV} {G : GS} : afterO i (.rt e G) = .rt e G := rfl
theorem afterO_nx {i : Nat} {env : En} {G : GS} (h : (env.set i .no).all plainS = true) : afterO i (.nx env G) = .nx (env.set i .no) G := if_pos h
def xfK (o : Option D) (G : GS) : Out EV := match o with
  | some x => .ok (.d x) G
  | none => .st
def xfS (sl : Option Sl) (cl : String) (j : Nat) (G : GS) : Out EV := match sl with
  | some (.exn k fs) => if k = cl then xfK fs[j]? G else .st
  | _ => .st
theorem eXf_e {i : Nat} {cl : String} {j : Nat} {env : En} {G : GS} : eXf i cl j env G = xfS env[i]? cl j G := by
  unfold eXf xfS xfK
  cases (env[i]? : Option Sl) with
  | none => rfl
  | some sl => cases sl <;> rfl
theorem xfS_s {cl : String} {fs : List D} {j : Nat} {G : GS} : xfS (some (.exn cl fs)) cl j G = xfK fs[j]? G := if_pos rfl
theorem xfK_s {x : D} {G : GS} : xfK (some x) G = .ok (.d x) G := rfl
theorem plain_n : plainS .no = true := rfl
theorem plain_e {e : EV} : plainS (.ev e) = true := rfl
/-! comprehensions over what is the picture of a list -/
theorem lc_filt {α : Type} {f g : α → D} {p : α → Bool} {k : Nat} {tt : BM} {te : EM} {env : En} {G : GS} : ∀ (xs : List α), (∀ x ∈ xs, tt (env.set k (.ev (.d (f x)))) G = .ok (p x) G) → (∀ x ∈ xs, p x = true → te (env.set k (.ev (.d (f x)))) G = .ok (.d (g x)) G) → lcL k tt te (xs.map f) env G = .ok ((xs.filter p).map g) G
  | [], _, _ => rfl
  | x :: xs, h, h2 => by
    have ih := lc_filt xs (fun y hy => h y (List.mem_cons_of_mem _ hy)) (fun y hy => h2 y (List.mem_cons_of_mem _ hy))
    rw [List.map_cons, lc_c, h x (List.mem_cons_self ..), bindN_ok]
    cases hp : p x with
    | false => rw [kT_f, ih, List.filter_cons, hp]; rfl
    | true => rw [kT_t, h2 x (List.mem_cons_self ..) hp, bindN_ok, kL1_e, ih, bindN_ok, List.filter_cons, hp]; rfl
def kRng : List EV → GS → Out (List D) := fun xs G1 => match xs with
  | [.d (.int j)] => if -rngMax ≤ j ∧ j ≤ rngMax then .ok (lRng 0 j.toNat) G1 else .st
  | _ => .st
theorem lRng1_e {r : AM} {env : En} {G : GS} : lRng1 r env G = (r env G).bind kRng := rfl
def rangeD (n : Nat) : List D := (List.range n).map fun i : Nat => .int i
theorem kRng_n {n : Nat} {G : GS} (h : n ≤ 1000000) : kRng [.d (.int (n : Nat))] G = .ok (rangeD n) G := by
  show (if -rngMax ≤ (n : Int) ∧ (n : Int) ≤ rngMax then Out.ok (lRng 0 (n : Int).toNat) G else .st) = _
  rw [if_pos (by unfold rngMax; omega)]
  unfold lRng rangeD
  simp
theorem rangeD_len {n : Nat} : (rangeD n).length = n := by simp [rangeD]
theorem kRng_1 {G : GS} : kRng [.d (.int 1)] G = .ok [.int 0] G := rfl
theorem kRng_2 {G : GS} : kRng [.d (.int 2)] G = .ok [.int 0, .int 1] G := rfl
theorem kRng_3 {G : GS} : kRng [.d (.int 3)] G = .ok [.int 0, .int 1, .int 2] G := rfl
theorem kRng_4 {G : GS} : kRng [.d (.int 4)] G = .ok [.int 0, .int 1, .int 2, .int 3] G := rfl
theorem kRng_5 {G : GS} : kRng [.d (.int 5)] G = .ok [.int 0, .int 1, .int 2, .int 3, .int 4] G := rfl
theorem kRng_6 {G : GS} : kRng [.d (.int 6)] G = .ok [.int 0, .int 1, .int 2, .int 3, .int 4, .int 5] G := rfl
end DL
/-! reading by simp: try with several clauses, defaults -/
namespace DL
open PySem
def tryN (T : List TEnt) (o : OutS) : OutS := match o with
  | .er k fs env1 G1 => match T.find? fun t => t.1 == k with
    | some t => if fs.isEmpty = false ∧ env1.all plainS = true ∧ t.2.1 < env1.length then afterO t.2.1 (t.2.2 (env1.set t.2.1 (.exn k fs)) G1) else .st
    | none => .st
  | o => o
theorem sTryN_e {T : List TEnt} {mb : SM} {env : En} {G : GS} : sTryN T mb env G = tryN T (mb env G) := by
  unfold sTryN tryN
  cases mb env G <;> rfl
theorem tryN_nx {T : List TEnt} {env : En} {G : GS} : tryN T (.nx env G) = .nx env G := rfl
theorem tryN_rt {T : List TEnt} {e : EV} {G : GS} : tryN T (.rt e G) = .rt e G := rfl
theorem tryN_h {cl : String} {i : Nat} {ms : SM} {T : List TEnt} {x : D} {fs : List D} {env : En} {G : GS} (h : env.all plainS = true) (hi : i < env.length) : tryN ((cl, i, ms) :: T) (.er cl (x :: fs) env G) = afterO i (ms (env.set i (.exn cl (x :: fs))) G) := by
  show (match ((cl, i, ms) :: T).find? fun t => t.1 == cl with
    | some t => if (x :: fs).isEmpty = false ∧ env.all plainS = true ∧ t.2.1 < env.length then afterO t.2.1 (t.2.2 (env.set t.2.1 (.exn cl (x :: fs))) G) else .st
    | none => .st) = _
  rw [List.find?_cons_of_pos (by simp)]
  exact if_pos ⟨rfl, h, hi⟩
theorem tryN_t {cl k : String} {i : Nat} {ms : SM} {T : List TEnt} {fs : List D} {env : En} {G : GS} (h : ¬ cl = k) : tryN ((cl, i, ms) :: T) (.er k fs env G) = tryN T (.er k fs env G) := by
  show (match ((cl, i, ms) :: T).find? fun t => t.1 == k with
    | some t => if fs.isEmpty = false ∧ env.all plainS = true ∧ t.2.1 < env.length then afterO t.2.1 (t.2.2 (env.set t.2.1 (.exn k fs)) G) else .st
    | none => .st) = _
  rw [List.find?_cons_of_neg (by simpa using h)]
  rfl
theorem dflI_e {ds : List D} {g : IM} {es : List EV} {G : GS} : dflI ds g es G = g (es ++ ds.map EV.d) G := rfl
theorem dflF_e {ds : List D} {g : FM} {es : List EV} {G : GS} : dflF ds g es G = g (es ++ ds.map EV.d) G := rfl
end DL
/-! reading by simp: methods with keywords, properties, not of own truth -/
namespace DL
open PySem
def kMK2 (A : Ar) (g : FM) (x : D) : List EV → GS → Out EV := fun xs G2 => if A (xs.length + 1) = true then g (.d x :: xs) G2 else .st
def kMK (cl : String) (A : Ar) (g : FM) (r : AM) (env : En) : EV → GS → Out EV := fun x G1 => match x with
  | .d (.ins k fs) => if k = cl then (r env G1).bind (kMK2 A g (.ins k fs)) else .st
  | _ => .st
theorem eMethK_e {cl : String} {A : Ar} {g : FM} {mo : EM} {r : AM} {env : En} {G : GS} : eMethK cl A g mo r env G = (mo env G).bind (kMK cl A g r env) := rfl
theorem kMK_e {cl : String} {A : Ar} {g : FM} {r : AM} {env : En} {x : D} {G : GS} (h : kOf (.d x) = some cl) : kMK cl A g r env (.d x) G = (r env G).bind (kMK2 A g x) := by
  cases x with
  | ins k fs => cases h; exact if_pos rfl
  | _ => cases h
theorem kMK2_e {A : Ar} {g : FM} {x : D} {us : List EV} {G : GS} (h : A (us.length + 1) = true) : kMK2 A g x us G = g (.d x :: us) G := if_pos h
def kPr (cl : String) (A : Ar) (g : FM) : EV → GS → Out EV := fun x G1 => match x with
  | .d (.ins k fs) => if k = cl ∧ A 1 = true then lift (toOpt (g [.d (.ins k fs)] G1)) else .st
  | _ => .st
theorem eProp_e {cl : String} {A : Ar} {g : FM} {mo : EM} {env : En} {G : GS} : eProp cl A g mo env G = (mo env G).bind (kPr cl A g) := rfl
theorem kPr_e {cl : String} {A : Ar} {g : FM} {x : D} {G : GS} (h : kOf (.d x) = some cl) (hA : A 1 = true) : kPr cl A g (.d x) G = lift (toOpt (g [.d x] G)) := by
  cases x with
  | ins k fs => cases h; exact if_pos ⟨rfl, hA⟩
  | _ => cases h
def notK : Option (Bool × GS) → Out EV
  | some (b, G2) => .ok (.d (.bl (!b))) G2
  | none => .st
def kNotO (cl : String) (A : Ar) (g : FM) : EV → GS → Out EV := fun x G1 => notK (truO cl A g x G1)
theorem eNotO_e {cl : String} {A : Ar} {g : FM} {me : EM} {env : En} {G : GS} : eNotO cl A g me env G = (me env G).bind (kNotO cl A g) := rfl
theorem kNotO_e {cl : String} {A : Ar} {g : FM} {x : EV} {G : GS} : kNotO cl A g x G = notK (truO cl A g x G) := rfl
theorem notK_s {b : Bool} {G : GS} : notK (some (b, G)) = .ok (.d (.bl (!b))) G := rfl
end DL
set_option Elab.async false
set_option linter.all false
set_option maxRecDepth 100000
set_option maxHeartbeats 4000000
/-! texts of small letters -/
namespace DL
open PySem
/-- small letters only -/
def Low (x : Str) : Prop := ∀ c ∈ x.cps.toList, 97 ≤ c ∧ c ≤ 122
/-- a name: one to six small letters -/
structure Nam (x : Str) : Prop where
  lo : 1 ≤ x.length
  hi : x.length ≤ 6
  low : Low x
end DL
set_option Elab.async false
set_option linter.all false
set_option maxRecDepth 100000
set_option maxHeartbeats 4000000
/-! reading by simp: texts by signs, own lists asked -/
namespace DL
open PySem
def kOIn (neg : Bool) (o : Option (List D)) : EV → GS → Out EV := fun e G1 => match e, o with
  | .d (.str t), some xs => (match texts xs with
    | some zs => .ok (.d (.bl (zs.any (· == t) != neg))) G1
    | none => .st)
  | _, _ => .st
theorem eOIn_e {neg : Bool} {i : Nat} {m : EM} {env : En} {G : GS} : eOIn neg i m env G = (m env G).bind (kOIn neg (oL i env)) := rfl
theorem texts_m : ∀ l : List Str, texts (l.map D.str) = some l
  | [] => rfl
  | x :: l => by show (texts (l.map D.str)).map _ = _; rw [texts_m l]; rfl
theorem kOIn_m {neg : Bool} {l : List Str} {t : Str} {G : GS} : kOIn neg (some (l.map D.str)) (.d (.str t)) G = .ok (.d (.bl (l.any (· == t) != neg))) G := by
  show (match texts (l.map D.str) with
    | some zs => (Out.ok (EV.d (D.bl (zs.any (· == t) != neg))) G : Out EV)
    | none => Out.st) = _
  rw [texts_m]
theorem hole : ∀ (l names : List Str), l.Nodup → (∀ x ∈ l, x ∈ names) → l.length ≤ names.length
  | [], _, _, _ => Nat.zero_le _
  | x :: l, names, hd, h => by
    have hx := h x (List.mem_cons_self ..)
    have hd' := List.nodup_cons.mp hd
    have e := hole l (names.erase x) hd'.2 fun y hy => (List.mem_erase_of_ne (fun z => hd'.1 (by rw [← z]; exact hy))).mpr (h y (List.mem_cons_of_mem _ hy))
    rw [List.length_erase_of_mem hx] at e
    have := List.length_pos_of_mem hx
    rw [List.length_cons]
    omega
end DL
set_option Elab.async false
set_option linter.all false
set_option maxRecDepth 100000
set_option maxHeartbeats 4000000
/-! reading by simp: sorted -/
namespace DL
open PySem
theorem txts_m : ∀ l : List Str, txts (l.map D.str) = some l
  | [] => rfl
  | x :: l => by show (txts (l.map D.str)).map (x :: ·) = _; rw [txts_m l]; rfl
theorem fSortS_m {l : List Str} {G : GS} (h : l.length ≤ 100000) : fSortS [.d (.lst (l.map D.str))] G = some (.d (.lst ((srtS l).map D.str)), G) := by
  show Option.map _ ((txts (l.map D.str)).bind fun ss => if ss.length ≤ lstMax then some (D.lst ((srtS ss).map .str)) else none) = _
  rw [txts_m]
  show Option.map _ (if l.length ≤ lstMax then some (D.lst ((srtS l).map .str)) else none) = _
  rw [if_pos (show l.length ≤ lstMax from h)]
  rfl
theorem srtS_len (l : List Str) : (srtS l).length = l.length := (srtS_perm l).length_eq
end DL
set_option Elab.async false
set_option linter.all false
set_option maxRecDepth 100000
set_option maxHeartbeats 4000000
/-! reading: comprehensions over a list whose rest leaves the store; ascending names without repeats -/
namespace DL
open PySem
/-! ### slices of any kind, own subscripts, read -/
def kSA3 (x : EV) (l : Option Int) (h : Option Int) (G : GS) : Out EV := match x with
  | .d x => (match slD x l h with
    | some y => .ok (.d y) G
    | none => .st)
  | _ => .st
def kSA2 (hi : OM) (env : En) (x : EV) (l : Option Int) (G : GS) : Out EV := (hi env G).bind (kSA3 x l)
def kSA1 (lo hi : OM) (env : En) (x : EV) (G : GS) : Out EV := (lo env G).bind (kSA2 hi env x)
theorem eSlA_e {m : EM} {lo hi : OM} {env : En} {G : GS} : eSlA m lo hi env G = (m env G).bind (kSA1 lo hi env) := rfl
theorem kSA1_e {lo hi : OM} {env : En} {x : EV} {G : GS} : kSA1 lo hi env x G = (lo env G).bind (kSA2 hi env x) := rfl
theorem kSA2_e {hi : OM} {env : En} {x : EV} {l : Option Int} {G : GS} : kSA2 hi env x l G = (hi env G).bind (kSA3 x l) := rfl
theorem kSA3_l {xs : List D} {l h : Option Int} {G : GS} : kSA3 (.d (.lst xs)) l h G = .ok (.d (.lst (cutL xs l h))) G := rfl
theorem kSA3_t {xs : List D} {l h : Option Int} {G : GS} : kSA3 (.d (.tup xs)) l h G = .ok (.d (.tup (cutL xs l h))) G := rfl
def getK (cl : String) (A : Ar) (g : FM) (k : Option String) (x y : EV) (G : GS) : Out EV := match k with
  | some k => if k = cl ∧ A 2 = true then g [x, y] G else .st
  | none => .st
def kGet2 (cl : String) (A : Ar) (g : FM) (x y : EV) (G : GS) : Out EV := getK cl A g (kOf x) x y G
def kGet1 (cl : String) (A : Ar) (g : FM) (mi : EM) (env : En) (x : EV) (G : GS) : Out EV := (mi env G).bind (kGet2 cl A g x)
theorem eGetO_e {cl : String} {A : Ar} {g : FM} {mo mi : EM} {env : En} {G : GS} : eGetO cl A g mo mi env G = (mo env G).bind (kGet1 cl A g mi env) := by
  unfold eGetO kGet1
  congr 1
  funext x G1
  congr 1
  funext y G2
  cases x with
  | d x => cases x <;> rfl
  | o k => rfl
theorem kGet1_e {cl : String} {A : Ar} {g : FM} {mi : EM} {env : En} {x : EV} {G : GS} : kGet1 cl A g mi env x G = (mi env G).bind (kGet2 cl A g x) := rfl
theorem kGet2_e {cl : String} {A : Ar} {g : FM} {x y : EV} {G : GS} : kGet2 cl A g x y G = getK cl A g (kOf x) x y G := rfl
theorem getK_s {cl k : String} {A : Ar} {g : FM} {x y : EV} {G : GS} : getK cl A g (some k) x y G = if k = cl ∧ A 2 = true then g [x, y] G else .st := rfl
end DL
set_option Elab.async false
set_option linter.all false
set_option maxRecDepth 100000
set_option maxHeartbeats 4000000
namespace K29
open PySem DL
/-- the law's box: the cells, the place, the state -/
def bx (cs : List Int) (p : Nat) (s : Int) : GS := [GO.lst (cs.map fun x => .d (.int x)), GO.lst [.o 0, .d (.int p), .d (.int s)]]
theorem at0 {α : Type} (a b c : α) : L2.atI [a, b, c] 0 = some a := rfl
theorem at1 {α : Type} (a b c : α) : L2.atI [a, b, c] 1 = some b := rfl
theorem at2 {α : Type} (a b c : α) : L2.atI [a, b, c] 2 = some c := rfl
theorem ix1 : L2.ixN (0 + 1 + 1 + 1) 1 = some 1 := rfl
theorem ix2 : L2.ixN (0 + 1 + 1 + 1) 2 = some 2 := rfl
theorem atc {cs : List Int} {p : Nat} (h : p < cs.length) : L2.atI (cs.map fun x => EV.d (.int x)) (p : Int) = some (.d (.int cs[p])) := L2.atI_nat (by simp [h])
theorem cdiv {i m : Int} (h0 : 0 < m) (hm : m < 2 ^ 200) : cDiv i m = true := by unfold cDiv; rw [decide_eq_true h0, decide_eq_true hm]; rfl
theorem cpos {i m : Int} (h0 : 0 < m) : cPos i m = true := by unfold cPos; rw [decide_eq_true h0]
theorem cpow : cPow 10 18 = true := by decide +kernel
theorem cmul {i j : Int} (h : -(2 ^ 64) < j ∧ j < 2 ^ 64) : cMul i j = true := by unfold cMul; rw [decide_eq_true (p := -(2 ^ 64) < j ∧ j < 2 ^ 64) h, Bool.or_true]
theorem e18 : Int.toNat 18 = 18 := rfl
theorem ixc {cs : List Int} {p : Nat} (h : p < cs.length) : L2.ixN cs.length (p : Int) = some p := by
  unfold L2.ixN
  rw [if_pos (by omega), if_pos (by omega)]
  simp
theorem set_c {cs : List Int} {p : Nat} {v : Int} : (cs.map fun x => EV.d (.int x)).set p (EV.d (.int v)) = (cs.set p v).map fun x => EV.d (.int x) := by rw [List.map_set]
theorem cm1 {i : Int} : cMul i 48271 = true := cmul ⟨by decide, by decide⟩
theorem cm2 {i : Int} : cMul i 69621 = true := cmul ⟨by decide, by decide⟩
theorem cm3 {i : Int} : cMul i 16807 = true := cmul ⟨by decide, by decide⟩
theorem cm4 {i j : Int} : cMul i (j % 2147483647) = true := cmul ⟨by have := Int.emod_nonneg j (b := 2147483647) (by decide); omega, by have := Int.emod_lt_of_pos j (b := 2147483647) (by decide); omega⟩
theorem cp1 {i : Int} : cPos i 2147483629 = true := cpos (by decide)
theorem cp2 {i : Int} : cPos i 2147483647 = true := cpos (by decide)
theorem cp3 {i : Int} : cPos i 998244353 = true := cpos (by decide)
theorem cd5 {i : Int} : cDiv i 5 = true := cdiv (by decide) (by decide)
def stN (s c p : Int) : Int := (s * 48271 + c % 2147483629 * 69621 + p + 1) % 2147483647
def ouN (st m : Int) : Int := (st * st + st * 16807) % 998244353 / 5 % m
theorem ge_draw (cs : List Int) (p : Nat) (s m : Int) (h0 : 0 < m) (hm : m < 2 ^ 200) : ∃ (v : Int) (cs' : List Int) (p' : Nat) (s' : Int), g__law_draw [.o 1, .d (.int m)] (bx cs p s) = .ok (.d (.int v)) (bx cs' p' s') ∧ 0 ≤ v ∧ v < m := by
  by_cases hc : cs = []
  · subst hc
    exact ⟨0, [], p, s, by kernel_rfl, by omega, h0⟩
  · have hl : decide ((cs.length : Int) = 0) = false := decide_eq_false fun z => hc (List.length_eq_zero_iff.mp (by omega))
    have hq : ∀ i, cPos i m = true := fun i => cpos h0
    have hd : ∀ i, cDiv i m = true := fun i => cdiv h0 hm
    by_cases hp : p < cs.length
    · have hpi : decide ((p : Int) < (cs.length : Int)) = true := decide_eq_true (by omega)
      have ha := atc hp
      have hx := ixc hp
      by_cases hb : (10 : Int) ^ 18 ≤ cs[p]
      · refine ⟨cs[p] % m, cs.set p (cs[p] / m), p, s, ?_, Int.emod_nonneg _ (by omega), Int.emod_lt_of_pos _ h0⟩
        have hb' : decide ((10 : Int) ^ 18 ≤ cs[p]) = true := decide_eq_true hb
        generalize cs[p] = c at *
        simp only [g__law_draw, m__law_draw, runB, env0, bx, List.map, List.length, List.replicate, List.append, List.cons_append, List.nil_append, sSeq, sSet, sIf, sRet, sNil, sSub, seqO, ofE, Out.bind, eOp, eVar, eC, aNil, aCons, eFN, fIx, fLen, bOf, isB, bAnd, lift, retO, pure2, gII, gIC, gEq, gAdd,
          fEq, fLt, fGe, fPow, fDiv, fMod, fMul, fAdd, fInt, pureN, gInt, datas, Option.map, Option.bind, List.set, List.getElem?_cons_zero, List.getElem?_cons_succ, List.length_map, at0, at1, at2, ix1, ix2, cpow, e18, if_true, if_false, reduceIte, Bool.false_eq_true, Nat.succ_eq_add_one, Nat.sub_zero, hl, hpi, ha, hx, hb', hq, hd, set_c]
      · have hb' : decide ((10 : Int) ^ 18 ≤ cs[p]) = false := decide_eq_false hb
        generalize cs[p] = c at *
        refine ⟨ouN (stN s c p) m, cs, p + 1, stN s c p, ?_, Int.emod_nonneg _ (Int.ne_of_gt h0), Int.emod_lt_of_pos _ h0⟩
        · simp only [g__law_draw, m__law_draw, runB, env0, bx, List.map, List.length, List.replicate, List.append, List.cons_append, List.nil_append, sSeq, sSet, sIf, sRet, sNil, sSub, seqO, ofE, Out.bind, eOp, eVar, eC, aNil, aCons, eFN, fIx, fLen, bOf, isB, bAnd, lift, retO, pure2, gII, gIC, gEq, gAdd,
          fEq, fLt, fGe, fPow, fDiv, fMod, fMul, fAdd, fInt, pureN, gInt, datas, Option.map, Option.bind, List.set, List.getElem?_cons_zero, List.getElem?_cons_succ, List.length_map, at0, at1, at2, ix1, ix2, cpow, e18, if_true, if_false, reduceIte, Bool.false_eq_true, Nat.succ_eq_add_one, Nat.sub_zero, hl, hpi, ha, hx, hb', hq, hd, set_c, cm1, cm2, cm3, cm4, cp1, cp2, cp3, cd5, Int.natCast_add, Int.natCast_one]
          rfl
    · have hpi : decide ((p : Int) < (cs.length : Int)) = false := decide_eq_false (by omega)
      refine ⟨ouN (stN s 0 p) m, cs, p + 1, stN s 0 p, ?_, Int.emod_nonneg _ (Int.ne_of_gt h0), Int.emod_lt_of_pos _ h0⟩
      · simp only [g__law_draw, m__law_draw, runB, env0, bx, List.map, List.length, List.replicate, List.append, List.cons_append, List.nil_append, sSeq, sSet, sIf, sRet, sNil, sSub, seqO, ofE, Out.bind, eOp, eVar, eC, aNil, aCons, eFN, fIx, fLen, bOf, isB, bAnd, lift, retO, pure2, gII, gIC, gEq, gAdd,
          fEq, fLt, fGe, fPow, fDiv, fMod, fMul, fAdd, fInt, pureN, gInt, datas, Option.map, Option.bind, List.set, List.getElem?_cons_zero, List.getElem?_cons_succ, List.length_map, at0, at1, at2, ix1, ix2, cpow, e18, if_true, if_false, reduceIte, Bool.false_eq_true, Nat.succ_eq_add_one, Nat.sub_zero, hl, hpi, hq, hd, set_c, cm1, cm2, cm3, cm4, cp1, cp2, cp3, cd5, Int.natCast_add, Int.natCast_one]
        rfl
theorem lc_int (s0 : Sl) : ∀ (ns : List Int) (G : GS), lcL 1 bYes (eFN fInt (aCons (eVar 1) aNil)) (ns.map .int) [s0, .no] G = .ok (ns.map .int) G
  | [], G => rfl
  | n :: ns, G => by
    have h := lc_int s0 ns G
    simp only [List.map]
    unfold lcL
    have e1 : eFN fInt (aCons (eVar 1) aNil) [s0, .ev (.d (.int n))] G = .ok (.d (.int n)) G := rfl
    simp only [bYes, bindN, List.set, if_true, e1, h]
theorem box_ok (ns : List Int) (h : ns.length ≤ 63) : g__law_box [scr ns] [] = .ok (.o 1) (bx ns 0 1) := by
  have hc : cutL (ns.map DL.D.int) none (some 63) = ns.map DL.D.int := by
    unfold cutL
    rw [show HT.sIx (ns.map DL.D.int).length 0 none = 0 from rfl, show HT.sIx (ns.map DL.D.int).length (ns.map DL.D.int).length (some 63) = min 63 (ns.map DL.D.int).length from rfl, List.drop_zero, List.length_map, Nat.min_eq_right h, Nat.sub_zero, List.take_of_length_le (by simp)]
  have hl : (ns.map DL.D.int).length ≤ lstMax := by rw [List.length_map]; exact Nat.le_trans h (by decide)
  have h3 : (3 : Nat) ≤ lstMax := by decide
  have e : bx ns 0 1 = [GO.lst ((ns.map DL.D.int).map .d), GO.lst [.o 0, .d (.int 0), .d (.int 1)]] := by
    unfold bx
    rw [List.map_map]
    rfl
  have z : eLcO 1 [1] (lSeq (eSl (eVar 0) oNone (oSome (eC (.int 63))))) bYes (eFN fInt (aCons (eVar 1) aNil)) (env0 2 [scr ns]) [] = .ok (.o 0) [GO.lst ((ns.map DL.D.int).map .d)] := by
    have w : eSl (eVar 0) oNone (oSome (eC (.int 63))) (env0 2 [scr ns]) [] = .ok (.d (.lst (cutL (ns.map DL.D.int) none (some 63)))) [] := rfl
    unfold eLcO eLcF lSeq
    rw [w, hc]
    show bindN (lcL 1 bYes (eFN fInt (aCons (eVar 1) aNil)) (ns.map .int) [.ev (scr ns), .no] []) _ = _
    rw [lc_int]
    show (if (ns.map DL.D.int).length ≤ lstMax then _ else _) = _
    rw [if_pos hl]
    rfl
  have z2 : aCons (eLcO 1 [1] (lSeq (eSl (eVar 0) oNone (oSome (eC (.int 63))))) bYes (eFN fInt (aCons (eVar 1) aNil))) (aCons (eC (.int 0)) (aCons (eC (.int 1)) aNil)) (env0 2 [scr ns]) [] = .ok [.o 0, .d (.int 0), .d (.int 1)] [GO.lst ((ns.map DL.D.int).map .d)] := by
    show Out.bind (eLcO 1 [1] (lSeq (eSl (eVar 0) oNone (oSome (eC (.int 63))))) bYes (eFN fInt (aCons (eVar 1) aNil)) (env0 2 [scr ns]) []) _ = _
    rw [z]
    rfl
  have z3 : eObj (aCons (eLcO 1 [1] (lSeq (eSl (eVar 0) oNone (oSome (eC (.int 63))))) bYes (eFN fInt (aCons (eVar 1) aNil))) (aCons (eC (.int 0)) (aCons (eC (.int 1)) aNil))) (env0 2 [scr ns]) [] = .ok (.o 1) (bx ns 0 1) := by
    unfold eObj
    rw [z2, e]
    exact if_pos (e := Out.st) h3
  show retO (ofE (eObj (aCons (eLcO 1 [1] (lSeq (eSl (eVar 0) oNone (oSome (eC (.int 63))))) bYes (eFN fInt (aCons (eVar 1) aNil))) (aCons (eC (.int 0)) (aCons (eC (.int 1)) aNil))) (env0 2 [scr ns]) []) _ _) = _
  rw [z3]
  rfl
def bandsD (n : Nat) : List DL.D := ((List.range 6).filter fun k => n.testBit k).map fun (k : Nat) => DL.D.int (k : Int)
def lightD (n : Nat) : DL.D := .ins "Light" [.tup (bandsD n), .int n]
theorem of_tab {α : Type} {N : Nat} {f g : Nat → α} (h : (List.range N).map f = (List.range N).map g) {n : Nat} (hn : n < N) : f n = g n := by
  have z := congrArg (fun l : List α => l[n]?) h
  simpa [hn] using z
theorem nat_of {v m : Int} (h0 : 0 ≤ v) (h1 : v < m) : ∃ n : Nat, v = (n : Int) ∧ (n : Int) < m := ⟨v.toNat, by omega, by omega⟩
theorem op_eq {f : F2} {a b : EM} {env : En} {G G1 G2 : GS} {x y : EV} (h1 : a env G = .ok x G1) (h2 : b env G1 = .ok y G2) : eOp f a b env G = lift (f x y G2) := by unfold eOp; rw [h1]; show Out.bind (b env G1) _ = _; rw [h2]; rfl
theorem sret_eq {m : EM} {env : En} {G G1 : GS} {e : EV} (h : m env G = .ok e G1) : sRet m env G = .rt e G1 := by unfold sRet; rw [h]; rfl
def whS : Nat → Str | 0 => "any" | 1 => "bare" | _ => "inked"
def kdS : Nat → Str | 0 => "filter" | 1 => "bleach" | 2 => "opaque" | _ => "ink"
abbrev Bx := List Int × Nat × Int
def bS (b : Bx) : GS := bx b.1 b.2.1 b.2.2
theorem draw_b (b : Bx) (m : Int) (h0 : 0 < m) (hm : m < 2 ^ 200) : ∃ (v : Nat) (b' : Bx), g__law_draw [.o 1, .d (.int m)] (bS b) = .ok (.d (.int (v : Nat))) (bS b') ∧ (v : Int) < m := by
  obtain ⟨v, cs', p', s', e, h1, h2⟩ := ge_draw b.1 b.2.1 b.2.2 m h0 hm
  obtain ⟨n, rfl, hn⟩ := nat_of h1 h2
  exact ⟨n, (cs', p', s'), e, hn⟩
theorem draw_s (b : Bx) (m : Int) (h0 : 0 < m) (hm : m < 1000) : ∃ (v : Nat) (b' : Bx), g__law_draw [.o 1, .d (.int m)] (bS b) = .ok (.d (.int (v : Nat))) (bS b') ∧ (v : Int) < m := draw_b b m h0 (Int.lt_trans hm (by decide))
def maskD : Option Str → DL.D | none => .non | some s => .str s
structure One where
  mask : Option Str
  side : Bool
  j : Nat
  k : Nat
  off : Nat
  on : Nat
structure One.Ok (x : One) : Prop where
  hj : x.j < 4
  hk : x.k < 3
  ho : x.off < 64
  hn : x.on < 64
  hz : x.off &&& x.on = 0
  hf : x.j = 0 → x.on = 0
  hb : x.j = 1 → x.off = 0
  hq : x.j = 2 → x.off = 63 - x.on
def One.D (x : One) : DL.D := .tup [maskD x.mask, .bl x.side, .str (whS x.k), .int (x.off : Nat), .int (x.on : Nat), .str (kdS x.j)]
theorem rt_of {m : SM} {n : Nat} {es : List EV} {G G1 : GS} {e : EV} (h : m (env0 n es) G = .rt e G1) : runB n m es G = .ok e G1 := congrArg retO h
/-- does an ink of this condition print where it is inked (w), or not -/
def tk : Nat → Bool → Bool | 0, _ => true | 1, w => !w | _, w => w
def efO (k : Nat) (w : Bool) (off : Nat) : Nat := if tk k w = true then off else 0
def efN (k : Nat) (w : Bool) (on : Nat) : Nat := if tk k w = true then on else 0
def efM (k : Nat) (w : Bool) : Bool := if tk k w = true then true else w
def eD (o n : Nat) (m : Bool) : DL.D := .tup [lightD o, lightD n, .bl m]
def fmD (o n : Nat) (m : Bool) (o2 n2 : Nat) (m2 : Bool) : DL.D := .ins "Film" [eD o n m, eD o2 n2 m2]
structure FN where
  o : Nat
  n : Nat
  m : Bool
  o2 : Nat
  n2 : Nat
structure FN.Ok (f : FN) : Prop where
  o : f.o < 64
  n : f.n < 64
  o2 : f.o2 < 64
  n2 : f.n2 < 64
def FN.D (f : FN) : DL.D := fmD f.o f.n f.m f.o2 f.n2 true
def FN.app (f : FN) (c : Nat) (w : Bool) : Nat × Bool := if w = true then ((c &&& (63 - f.o2)) ||| f.n2, true) else ((c &&& (63 - f.o)) ||| f.n, f.m)
def inkF (k off on : Nat) : FN := ⟨efO k false off, efN k false on, efM k false, efO k true off, efN k true on⟩
theorem inkF_ok {k off on : Nat} (ho : off < 64) (hn : on < 64) : (inkF k off on).Ok := by
  refine ⟨?_, ?_, ?_, ?_⟩
  · show efO k false off < 64
    unfold efO; split <;> omega
  · show efN k false on < 64
    unfold efN; split <;> omega
  · show efO k true off < 64
    unfold efO; split <;> omega
  · show efN k true on < 64
    unfold efN; split <;> omega
def One.f (x : One) : FN := inkF x.k x.off x.on
theorem One.Ok.f {x : One} (h : x.Ok) : x.f.Ok := inkF_ok h.ho h.hn
def One.act (x : One) (lit : List Str) : Bool := match x.mask with
  | none => true
  | some m => !decide ((lit.any (· == m) != false) = x.side)
def One.app (x : One) (lit : List Str) (s : Nat × Bool) : Nat × Bool := if x.act lit = true then x.f.app s.1 s.2 else s
def run (lit : List Str) : List One → Nat × Bool → Nat × Bool
  | [], s => s
  | x :: xs, s => run lit xs (x.app lit s)
def sg (c : Nat) : Str := ⟨#[c]⟩
theorem join_sg : ∀ ws : List Nat, (Str.join "" (ws.map sg)).cps.toList = ws
  | [] => rfl
  | [c] => rfl
  | c :: d :: r => by
    have h := join_sg (d :: r)
    show ((sg c ++ ("" : Str) ++ Str.join "" ((d :: r).map sg)).cps).toList = _
    show (((sg c).cps ++ ("" : Str).cps) ++ (Str.join "" ((d :: r).map sg)).cps).toList = _
    rw [Array.toList_append, Array.toList_append, h]
    rfl
theorem abc_at : ∀ u : Nat, u < 26 → L2.atI ("abcdefghijklmnopqrstuvwxyz" : Str).cps.toList (u : Int) = some (u + 97) := by
  have h : (List.range 26).map (fun u : Nat => L2.atI ("abcdefghijklmnopqrstuvwxyz" : Str).cps.toList (u : Int)) = (List.range 26).map fun u => some (u + 97) := by kernel_rfl
  exact fun u hu => of_tab h hu
theorem abc_ix {u : Nat} (hu : u < 26) (G : GS) : fIxT (.d (.str "abcdefghijklmnopqrstuvwxyz")) (.d (.int (u : Nat))) G = some (.d (.str (sg (u + 97))), G) := by
  show (if ("abcdefghijklmnopqrstuvwxyz" : Str).length ≤ lstMax then (match L2.atI ("abcdefghijklmnopqrstuvwxyz" : Str).cps.toList (u : Int) with
    | some c => some (EV.d (.str ⟨#[c]⟩), G)
    | none => none) else none) = _
  rw [abc_at u hu, if_pos (by decide)]
  rfl
theorem signs_loop (s1 : Sl) : ∀ (ds : List DL.D) (b : Bx), ∃ (ws : List Nat) (b' : Bx), ws.length = ds.length ∧ (∀ c ∈ ws, 97 ≤ c ∧ c ≤ 122) ∧
    lcL 2 bYes (eOp fIxT (eC (.str "abcdefghijklmnopqrstuvwxyz")) (eCall (arN 2) g__law_draw (aCons (eVar 0) (aCons (eC (.int 26)) (aNil))))) ds [.ev (.o 1), s1, .no] (bS b) = .ok (ws.map fun c => .str (sg c)) (bS b')
  | [], b => ⟨[], b, rfl, (fun _ h => nomatch h), rfl⟩
  | d :: ds, b => by
    obtain ⟨u, b1, e1, h1⟩ := draw_s b 26 (by decide) (by decide)
    obtain ⟨ws, b2, hl, ho, e2⟩ := signs_loop s1 ds b1
    have hu : u < 26 := by omega
    have ix := abc_ix hu
    refine ⟨(u + 97) :: ws, b2, by simp [hl], fun c hc => ?_, by simp -implicitDefEqProofs only [bind_ok, bind_er, bindN_ok, ofE_ok, ofE_er, seqO_nx, seqO_rt, seqO_er, seqO_bk, seqO_ct, loopO_nx, loopO_ct, loopO_bk, loopO_rt, loopO_er, lift_s, retO_rt, retO_nx, retO_er, mkO_ok, mkO_er, toOpt_ok, eVar_z, eVar_s, oL_z, oL_s, frz_z, frz_s, wipe_n, wipe_c, datas_n, datas_c, map_s, bind_s, setA_n, setA_c, p2_d, p1_d, pN_d, fEq_i, fEq_s, fEq_b, fEq_ii, fNe_i, fNe_s, fNe_b, fSub_i, fAdd_i, fAnd_i, fOr_i, fXor_i, fLt_i, fLe_i, fGt_i, fGe_i, fIs_d, fIsNot_d, fIsB_b, isB_b, tru_b, tru_i, tru_l, tru_t, orE_s, orE_n, alt2_e, alt1_e, altN_e, fIx_l, fIx_t, at_0, at_1, at_2, at_3, at_4, at_5, for_n, for_c, lc_n, len_lst, len_tup, kfn_c, kix_c, sSeq_e, sNil_e, sSet_e, sSet2_e, sRet_e, sRetN_e, sDrop_e, sIf_e, sBk_e, sCt_e, sFrz_e, sOwn_e, sFor_e, sUnp_e, eC_e, eOp_e, eUn_e, aNil_e, aCons_e, aApp_e, eFN_e, eCall_e, eMake_e, eCMeth_e, eCallO_e, eLst_e, eTup_e, nLst_e, nLc_e, eLc_e, lSeq_e, lTup_e, eIf_e, eAnd_e, eOr_e, eNot_e, bOf_e, bAnd_e, bOr_e, bNot_e, eFld_e, runB_e, env0_e, oN_e, List.set_cons_zero, List.set_cons_succ, List.map_cons, List.map_nil, List.cons_append, List.nil_append, List.replicate_succ, List.replicate_zero, List.length_cons, List.length_nil, List.getElem?_cons_zero, List.getElem?_cons_succ, reduceIte, if_true, if_false, Bool.false_eq_true, arN_t, decide_true, decide_false, isNon, Bool.not_true, Bool.not_false, Bool.true_and, Bool.false_and, Bool.and_true, Bool.and_false, bYes_e, lstMax_e, Nat.reduceAdd, Nat.reduceSub, Nat.reduceLeDiff, Int.reduceLT, Int.reduceLE, Int.reduceEq, String.reduceEq, and_self, decide_eq_true_eq, and_true, true_and, cPos_e, cDiv_e, fMod_i, fDiv_i, Int.reduceMod, Int.reduceDiv, Int.reduceSub, Int.reduceAdd, Int.reducePow, kOf_i, fsOf_i, fOwn_k, fOwn1_k, gFld_k, methO_e, methK_s, methA_s, ownK_s, ownK_n, ownK_m, own1K_s, own1K_n, fldK_s, sApp_e, appK_s, sOSub_e, osubK_s, eOIx_e, oixK_s, eOLen_e, olenK_s, ixN_p, Int.reduceToNat, Nat.reduceLT, oS_e, eSl_e, eSlT_e, kSet_e, kSet2_e, kDrop_e, kIf_t, kIf_f, kOwn_e, kApp_e, kOsub1_e, kOsub2_e, osK_s, kOix_e, ixK_s, kFor_e, kUnp_e, unpK_s, kOp1_e, kOp2_e, kUn_e, kC1_e, kC2_e, kA1_e, kA2_e, kFN_e, kCall_e, kMake_e, kCM_e, kMeth_e, kLst_e, lstK_s, kTup_e, tupK_s, kNl_e, nlK_s, nList_e, kNli_e, nliK_s, lOf_l, lOf_t, kNc1_e, kNc2_e, kLc1_e, kLc2_e, kSeq_e, kTpl_e, kEIf_t, kEIf_f, kEAnd_t, kEAnd_f, kEOr_t, kEOr_f, kENot_e, kB_e, kBAnd_t, kBAnd_f, kBOr_t, kBOr_f, kBNot_e, kOS_e, kSl1_e, kSl2_e, kSl3_e, kSt1_e, kSt2_e, kSt3_e, eMeth_e, kMe_e, lc_c, kL1_e, kL2_e, kT_t, kT_f, Int.cast_ofNat_Int, Int.natCast_zero, Int.natCast_one, lRng1_e, kRng_1, kRng_2, kRng_3, kRng_4, kRng_5, kRng_6, List.length_map, arS_0, sEr_e, sTryAs_e, tryK_nx, tryK_rt, tryK_er, afterO_rt, afterO_nx, eXf_e, xfS_s, xfK_s, plain_n, plain_e, List.all_cons, List.all_nil, eq_self, sTryN_e, tryN_nx, tryN_rt, tryN_h, tryN_t, dflI_e, dflF_e, not_false_eq_true, eMethK_e, kMK_e, kMK2_e, eProp_e, kPr_e, eNotO_e, kNotO_e, notK_s, eSlA_e, kSA1_e, kSA2_e, kSA3_l, kSA3_t, eGetO_e, kGet1_e, kGet2_e, getK_s, e1, ix, e2]⟩
    rcases List.mem_cons.mp hc with rfl | hc
    · omega
    · exact ho c hc
theorem txts_sg : ∀ ws : List Nat, txts (ws.map fun c => DL.D.str (sg c)) = some (ws.map sg)
  | [] => rfl
  | c :: ws => by
    show (txts (ws.map fun c => DL.D.str (sg c))).map _ = _
    rw [txts_sg ws]
    rfl
theorem sum_sg : ∀ ws : List Nat, ((ws.map sg).map (·.length)).sum = ws.length
  | [] => rfl
  | c :: ws => by
    show 1 + ((ws.map sg).map (·.length)).sum = _
    rw [sum_sg ws, List.length_cons]
    omega
theorem join_ok {m : EM} {ws : List Nat} {env : En} {G G1 : GS} (hl : ws.length ≤ 1000) (h : m env G = .ok (.d (.lst (ws.map fun c => .str (sg c)))) G1) : eJoin (eC (.str "")) m env G = .ok (.d (.str (Str.join "" (ws.map sg)))) G1 := by
  unfold eJoin
  show (m env G).bind _ = _
  rw [h]
  show lift ((joinD "" (ws.map fun c => DL.D.str (sg c))).map fun z => (EV.d z, G1)) = _
  unfold joinD
  rw [txts_sg]
  show lift ((if ((ws.map sg).map (·.length)).sum + (ws.map sg).length * ("" : Str).length ≤ 16777216 then some (DL.D.str (Txt.join "" (ws.map sg))) else none).map fun z => (EV.d z, G1)) = _
  rw [if_pos (by rw [sum_sg]; have : ("" : Str).length = 0 := rfl; rw [this, Nat.mul_zero]; omega)]
  show Out.ok (EV.d (DL.D.str (Txt.join "" (ws.map sg)))) G1 = _
  rw [show Txt.join "" (ws.map sg) = Str.join "" (ws.map sg) from StrLaws.glued_eq_join _ _]
theorem name_gen (b : Bx) : ∃ (w : Str) (b' : Bx), Nam w ∧ g__law_name [.o 1] (bS b) = .ok (.d (.str w)) (bS b') := by
  obtain ⟨v, b1, e1, h1⟩ := draw_s b 6 (by decide) (by decide)
  have lv : 1 + v ≤ 1000000 := by omega
  obtain ⟨ws, b2, wl, wo, e2⟩ := signs_loop (.ev (.d (.int ((1 + v : Nat) : Int)))) (rangeD (1 + v)) b1
  rw [rangeD_len] at wl
  have l1 : ws.length ≤ 100000 := by omega
  have jl := join_sg ws
  have len : (Str.join "" (ws.map sg)).length = ws.length := by
    show (Str.join "" (ws.map sg)).cps.size = _
    rw [← Array.length_toList, jl]
  refine ⟨Str.join "" (ws.map sg), b2, ⟨by omega, by omega, fun c hc => wo c (by rwa [jl] at hc)⟩, ?_⟩
  have cst : ((1 : Int) + (v : Nat)) = ((1 + v : Nat) : Int) := by omega
  have j := fun (m : EM) (env : En) (G G1 : GS) (h : m env G = .ok (.d (.lst (ws.map fun c => .str (sg c)))) G1) => join_ok (by omega) h
  have key : eLc 2 [2] (lRng1 (aCons (eVar 1) (aNil))) (bYes) (eOp fIxT (eC (.str "abcdefghijklmnopqrstuvwxyz")) (eCall (arN 2) g__law_draw (aCons (eVar 0) (aCons (eC (.int 26)) (aNil))))) [.ev (.o 1), .ev (.d (.int ((1 + v : Nat) : Int))), .no] (bS b1) = .ok (.d (.lst (ws.map fun c => .str (sg c)))) (bS b2) := by
    simp -implicitDefEqProofs only [bind_ok, bind_er, bindN_ok, ofE_ok, ofE_er, seqO_nx, seqO_rt, seqO_er, seqO_bk, seqO_ct, loopO_nx, loopO_ct, loopO_bk, loopO_rt, loopO_er, lift_s, retO_rt, retO_nx, retO_er, mkO_ok, mkO_er, toOpt_ok, eVar_z, eVar_s, oL_z, oL_s, frz_z, frz_s, wipe_n, wipe_c, datas_n, datas_c, map_s, bind_s, setA_n, setA_c, p2_d, p1_d, pN_d, fEq_i, fEq_s, fEq_b, fEq_ii, fNe_i, fNe_s, fNe_b, fSub_i, fAdd_i, fAnd_i, fOr_i, fXor_i, fLt_i, fLe_i, fGt_i, fGe_i, fIs_d, fIsNot_d, fIsB_b, isB_b, tru_b, tru_i, tru_l, tru_t, orE_s, orE_n, alt2_e, alt1_e, altN_e, fIx_l, fIx_t, at_0, at_1, at_2, at_3, at_4, at_5, for_n, for_c, lc_n, len_lst, len_tup, kfn_c, kix_c, sSeq_e, sNil_e, sSet_e, sSet2_e, sRet_e, sRetN_e, sDrop_e, sIf_e, sBk_e, sCt_e, sFrz_e, sOwn_e, sFor_e, sUnp_e, eC_e, eOp_e, eUn_e, aNil_e, aCons_e, aApp_e, eFN_e, eCall_e, eMake_e, eCMeth_e, eCallO_e, eLst_e, eTup_e, nLst_e, nLc_e, eLc_e, lSeq_e, lTup_e, eIf_e, eAnd_e, eOr_e, eNot_e, bOf_e, bAnd_e, bOr_e, bNot_e, eFld_e, runB_e, env0_e, oN_e, List.set_cons_zero, List.set_cons_succ, List.map_cons, List.map_nil, List.cons_append, List.nil_append, List.replicate_succ, List.replicate_zero, List.length_cons, List.length_nil, List.getElem?_cons_zero, List.getElem?_cons_succ, reduceIte, if_true, if_false, Bool.false_eq_true, arN_t, decide_true, decide_false, isNon, Bool.not_true, Bool.not_false, Bool.true_and, Bool.false_and, Bool.and_true, Bool.and_false, bYes_e, lstMax_e, Nat.reduceAdd, Nat.reduceSub, Nat.reduceLeDiff, Int.reduceLT, Int.reduceLE, Int.reduceEq, String.reduceEq, and_self, decide_eq_true_eq, and_true, true_and, cPos_e, cDiv_e, fMod_i, fDiv_i, Int.reduceMod, Int.reduceDiv, Int.reduceSub, Int.reduceAdd, Int.reducePow, kOf_i, fsOf_i, fOwn_k, fOwn1_k, gFld_k, methO_e, methK_s, methA_s, ownK_s, ownK_n, ownK_m, own1K_s, own1K_n, fldK_s, sApp_e, appK_s, sOSub_e, osubK_s, eOIx_e, oixK_s, eOLen_e, olenK_s, ixN_p, Int.reduceToNat, Nat.reduceLT, oS_e, eSl_e, eSlT_e, kSet_e, kSet2_e, kDrop_e, kIf_t, kIf_f, kOwn_e, kApp_e, kOsub1_e, kOsub2_e, osK_s, kOix_e, ixK_s, kFor_e, kUnp_e, unpK_s, kOp1_e, kOp2_e, kUn_e, kC1_e, kC2_e, kA1_e, kA2_e, kFN_e, kCall_e, kMake_e, kCM_e, kMeth_e, kLst_e, lstK_s, kTup_e, tupK_s, kNl_e, nlK_s, nList_e, kNli_e, nliK_s, lOf_l, lOf_t, kNc1_e, kNc2_e, kLc1_e, kLc2_e, kSeq_e, kTpl_e, kEIf_t, kEIf_f, kEAnd_t, kEAnd_f, kEOr_t, kEOr_f, kENot_e, kB_e, kBAnd_t, kBAnd_f, kBOr_t, kBOr_f, kBNot_e, kOS_e, kSl1_e, kSl2_e, kSl3_e, kSt1_e, kSt2_e, kSt3_e, eMeth_e, kMe_e, lc_c, kL1_e, kL2_e, kT_t, kT_f, Int.cast_ofNat_Int, Int.natCast_zero, Int.natCast_one, lRng1_e, kRng_1, kRng_2, kRng_3, kRng_4, kRng_5, kRng_6, List.length_map, arS_0, sEr_e, sTryAs_e, tryK_nx, tryK_rt, tryK_er, afterO_rt, afterO_nx, eXf_e, xfS_s, xfK_s, plain_n, plain_e, List.all_cons, List.all_nil, eq_self, sTryN_e, tryN_nx, tryN_rt, tryN_h, tryN_t, dflI_e, dflF_e, not_false_eq_true, eMethK_e, kMK_e, kMK2_e, eProp_e, kPr_e, eNotO_e, kNotO_e, notK_s, eSlA_e, kSA1_e, kSA2_e, kSA3_l, kSA3_t, eGetO_e, kGet1_e, kGet2_e, getK_s, kRng_n lv, e2, l1]
  have k2 := j _ _ _ _ key
  simp -implicitDefEqProofs only [bind_ok, bind_er, bindN_ok, ofE_ok, ofE_er, seqO_nx, seqO_rt, seqO_er, seqO_bk, seqO_ct, loopO_nx, loopO_ct, loopO_bk, loopO_rt, loopO_er, lift_s, retO_rt, retO_nx, retO_er, mkO_ok, mkO_er, toOpt_ok, eVar_z, eVar_s, oL_z, oL_s, frz_z, frz_s, wipe_n, wipe_c, datas_n, datas_c, map_s, bind_s, setA_n, setA_c, p2_d, p1_d, pN_d, fEq_i, fEq_s, fEq_b, fEq_ii, fNe_i, fNe_s, fNe_b, fSub_i, fAdd_i, fAnd_i, fOr_i, fXor_i, fLt_i, fLe_i, fGt_i, fGe_i, fIs_d, fIsNot_d, fIsB_b, isB_b, tru_b, tru_i, tru_l, tru_t, orE_s, orE_n, alt2_e, alt1_e, altN_e, fIx_l, fIx_t, at_0, at_1, at_2, at_3, at_4, at_5, for_n, for_c, lc_n, len_lst, len_tup, kfn_c, kix_c, sSeq_e, sNil_e, sSet_e, sSet2_e, sRet_e, sRetN_e, sDrop_e, sIf_e, sBk_e, sCt_e, sFrz_e, sOwn_e, sFor_e, sUnp_e, eC_e, eOp_e, eUn_e, aNil_e, aCons_e, aApp_e, eFN_e, eCall_e, eMake_e, eCMeth_e, eCallO_e, eLst_e, eTup_e, nLst_e, nLc_e, eLc_e, lSeq_e, lTup_e, eIf_e, eAnd_e, eOr_e, eNot_e, bOf_e, bAnd_e, bOr_e, bNot_e, eFld_e, runB_e, env0_e, oN_e, List.set_cons_zero, List.set_cons_succ, List.map_cons, List.map_nil, List.cons_append, List.nil_append, List.replicate_succ, List.replicate_zero, List.length_cons, List.length_nil, List.getElem?_cons_zero, List.getElem?_cons_succ, reduceIte, if_true, if_false, Bool.false_eq_true, arN_t, decide_true, decide_false, isNon, Bool.not_true, Bool.not_false, Bool.true_and, Bool.false_and, Bool.and_true, Bool.and_false, bYes_e, lstMax_e, Nat.reduceAdd, Nat.reduceSub, Nat.reduceLeDiff, Int.reduceLT, Int.reduceLE, Int.reduceEq, String.reduceEq, and_self, decide_eq_true_eq, and_true, true_and, cPos_e, cDiv_e, fMod_i, fDiv_i, Int.reduceMod, Int.reduceDiv, Int.reduceSub, Int.reduceAdd, Int.reducePow, kOf_i, fsOf_i, fOwn_k, fOwn1_k, gFld_k, methO_e, methK_s, methA_s, ownK_s, ownK_n, ownK_m, own1K_s, own1K_n, fldK_s, sApp_e, appK_s, sOSub_e, osubK_s, eOIx_e, oixK_s, eOLen_e, olenK_s, ixN_p, Int.reduceToNat, Nat.reduceLT, oS_e, eSl_e, eSlT_e, kSet_e, kSet2_e, kDrop_e, kIf_t, kIf_f, kOwn_e, kApp_e, kOsub1_e, kOsub2_e, osK_s, kOix_e, ixK_s, kFor_e, kUnp_e, unpK_s, kOp1_e, kOp2_e, kUn_e, kC1_e, kC2_e, kA1_e, kA2_e, kFN_e, kCall_e, kMake_e, kCM_e, kMeth_e, kLst_e, lstK_s, kTup_e, tupK_s, kNl_e, nlK_s, nList_e, kNli_e, nliK_s, lOf_l, lOf_t, kNc1_e, kNc2_e, kLc1_e, kLc2_e, kSeq_e, kTpl_e, kEIf_t, kEIf_f, kEAnd_t, kEAnd_f, kEOr_t, kEOr_f, kENot_e, kB_e, kBAnd_t, kBAnd_f, kBOr_t, kBOr_f, kBNot_e, kOS_e, kSl1_e, kSl2_e, kSl3_e, kSt1_e, kSt2_e, kSt3_e, eMeth_e, kMe_e, lc_c, kL1_e, kL2_e, kT_t, kT_f, Int.cast_ofNat_Int, Int.natCast_zero, Int.natCast_one, lRng1_e, kRng_1, kRng_2, kRng_3, kRng_4, kRng_5, kRng_6, List.length_map, arS_0, sEr_e, sTryAs_e, tryK_nx, tryK_rt, tryK_er, afterO_rt, afterO_nx, eXf_e, xfS_s, xfK_s, plain_n, plain_e, List.all_cons, List.all_nil, eq_self, sTryN_e, tryN_nx, tryN_rt, tryN_h, tryN_t, dflI_e, dflF_e, not_false_eq_true, eMethK_e, kMK_e, kMK2_e, eProp_e, kPr_e, eNotO_e, kNotO_e, notK_s, eSlA_e, kSA1_e, kSA2_e, kSA3_l, kSA3_t, eGetO_e, kGet1_e, kGet2_e, getK_s, g__law_name, m__law_name, e1, cst, ↓k2]
def nine : List Str := ["qa", "b", "zeb", "mo", "aq", "xylox", "ba", "k", "mm"]
theorem nine_nd : nine.Nodup := by decide +kernel
theorem nine_nam : ∀ x ∈ nine, Nam x := by
  have h : ∀ x ∈ nine, 1 ≤ x.length ∧ x.length ≤ 6 ∧ ∀ c ∈ x.cps.toList, 97 ≤ c ∧ c ≤ 122 := by decide +kernel
  exact fun x hx => ⟨(h x hx).1, (h x hx).2.1, (h x hx).2.2⟩
def nBody : SM := sSeq (sSet 4 (eCall (arN 1) g__law_name (aCons (eVar 0) (aNil)))) (sSeq (sIf (bOf isB (eOIn false 2 (eVar 4))) (sSet 4 (eOp fIx (eLc 5 [5] (lSeq (eLst (aCons (eC (.str "qa")) (aCons (eC (.str "b")) (aCons (eC (.str "zeb")) (aCons (eC (.str "mo")) (aCons (eC (.str "aq")) (aCons (eC (.str "xylox")) (aCons (eC (.str "ba")) (aCons (eC (.str "k")) (aCons (eC (.str "mm")) (aNil)))))))))))) (bOf isB (eOIn true 2 (eVar 5))) (eVar 5)) (eC (.int 0)))) (sNil)) (sApp 2 (eVar 4)))
theorem map_appS (l : List Str) (x : Str) : l.map DL.D.str ++ [.str x] = (l ++ [x]).map DL.D.str := by rw [List.map_append]; rfl
theorem n_step (s1 s3 s4 : Sl) (l : List Str) (hl : l.length < 9) (h : ∀ x ∈ l, Nam x) (hd : l.Nodup) (b : Bx) : ∃ (x : Str) (b' : Bx), Nam x ∧ x ∉ l ∧
    nBody [.ev (.o 1), s1, .own (.lst (l.map .str)), s3, s4, .no] (bS b) = .nx [.ev (.o 1), s1, .own (.lst ((l ++ [x]).map .str)), s3, .ev (.d (.str x)), .no] (bS b') := by
  obtain ⟨w, b1, nw, e1⟩ := name_gen b
  have l1 : l.length < 100000 := by omega
  by_cases hw : w ∈ l
  · have a : l.any (· == w) = true := List.any_eq_true.mpr ⟨w, hw, beq_self_eq_true w⟩
    have fl : ∀ (s0 s1' s3' s4' : Sl) (G : GS), lcL 5 (bOf isB (eOIn true 2 (eVar 5))) (eVar 5) (nine.map .str) [s0, s1', .own (.lst (l.map .str)), s3', s4', .no] G = .ok ((nine.filter fun x => (l.any (· == x) != true)).map .str) G := fun s0 s1' s3' s4' G => lc_filt nine (fun x _ => by simp -implicitDefEqProofs only [bind_ok, bind_er, bindN_ok, ofE_ok, ofE_er, seqO_nx, seqO_rt, seqO_er, seqO_bk, seqO_ct, loopO_nx, loopO_ct, loopO_bk, loopO_rt, loopO_er, lift_s, retO_rt, retO_nx, retO_er, mkO_ok, mkO_er, toOpt_ok, eVar_z, eVar_s, oL_z, oL_s, frz_z, frz_s, wipe_n, wipe_c, datas_n, datas_c, map_s, bind_s, setA_n, setA_c, p2_d, p1_d, pN_d, fEq_i, fEq_s, fEq_b, fEq_ii, fNe_i, fNe_s, fNe_b, fSub_i, fAdd_i, fAnd_i, fOr_i, fXor_i, fLt_i, fLe_i, fGt_i, fGe_i, fIs_d, fIsNot_d, fIsB_b, isB_b, tru_b, tru_i, tru_l, tru_t, orE_s, orE_n, alt2_e, alt1_e, altN_e, fIx_l, fIx_t, at_0, at_1, at_2, at_3, at_4, at_5, for_n, for_c, lc_n, len_lst, len_tup, kfn_c, kix_c, sSeq_e, sNil_e, sSet_e, sSet2_e, sRet_e, sRetN_e, sDrop_e, sIf_e, sBk_e, sCt_e, sFrz_e, sOwn_e, sFor_e, sUnp_e, eC_e, eOp_e, eUn_e, aNil_e, aCons_e, aApp_e, eFN_e, eCall_e, eMake_e, eCMeth_e, eCallO_e, eLst_e, eTup_e, nLst_e, nLc_e, eLc_e, lSeq_e, lTup_e, eIf_e, eAnd_e, eOr_e, eNot_e, bOf_e, bAnd_e, bOr_e, bNot_e, eFld_e, runB_e, env0_e, oN_e, List.set_cons_zero, List.set_cons_succ, List.map_cons, List.map_nil, List.cons_append, List.nil_append, List.replicate_succ, List.replicate_zero, List.length_cons, List.length_nil, List.getElem?_cons_zero, List.getElem?_cons_succ, reduceIte, if_true, if_false, Bool.false_eq_true, arN_t, decide_true, decide_false, isNon, Bool.not_true, Bool.not_false, Bool.true_and, Bool.false_and, Bool.and_true, Bool.and_false, bYes_e, lstMax_e, Nat.reduceAdd, Nat.reduceSub, Nat.reduceLeDiff, Int.reduceLT, Int.reduceLE, Int.reduceEq, String.reduceEq, and_self, decide_eq_true_eq, and_true, true_and, cPos_e, cDiv_e, fMod_i, fDiv_i, Int.reduceMod, Int.reduceDiv, Int.reduceSub, Int.reduceAdd, Int.reducePow, kOf_i, fsOf_i, fOwn_k, fOwn1_k, gFld_k, methO_e, methK_s, methA_s, ownK_s, ownK_n, ownK_m, own1K_s, own1K_n, fldK_s, sApp_e, appK_s, sOSub_e, osubK_s, eOIx_e, oixK_s, eOLen_e, olenK_s, ixN_p, Int.reduceToNat, Nat.reduceLT, oS_e, eSl_e, eSlT_e, kSet_e, kSet2_e, kDrop_e, kIf_t, kIf_f, kOwn_e, kApp_e, kOsub1_e, kOsub2_e, osK_s, kOix_e, ixK_s, kFor_e, kUnp_e, unpK_s, kOp1_e, kOp2_e, kUn_e, kC1_e, kC2_e, kA1_e, kA2_e, kFN_e, kCall_e, kMake_e, kCM_e, kMeth_e, kLst_e, lstK_s, kTup_e, tupK_s, kNl_e, nlK_s, nList_e, kNli_e, nliK_s, lOf_l, lOf_t, kNc1_e, kNc2_e, kLc1_e, kLc2_e, kSeq_e, kTpl_e, kEIf_t, kEIf_f, kEAnd_t, kEAnd_f, kEOr_t, kEOr_f, kENot_e, kB_e, kBAnd_t, kBAnd_f, kBOr_t, kBOr_f, kBNot_e, kOS_e, kSl1_e, kSl2_e, kSl3_e, kSt1_e, kSt2_e, kSt3_e, eMeth_e, kMe_e, lc_c, kL1_e, kL2_e, kT_t, kT_f, Int.cast_ofNat_Int, Int.natCast_zero, Int.natCast_one, lRng1_e, kRng_1, kRng_2, kRng_3, kRng_4, kRng_5, kRng_6, List.length_map, arS_0, sEr_e, sTryAs_e, tryK_nx, tryK_rt, tryK_er, afterO_rt, afterO_nx, eXf_e, xfS_s, xfK_s, plain_n, plain_e, List.all_cons, List.all_nil, eq_self, sTryN_e, tryN_nx, tryN_rt, tryN_h, tryN_t, dflI_e, dflF_e, not_false_eq_true, eMethK_e, kMK_e, kMK2_e, eProp_e, kPr_e, eNotO_e, kNotO_e, notK_s, eSlA_e, kSA1_e, kSA2_e, kSA3_l, kSA3_t, eGetO_e, kGet1_e, kGet2_e, getK_s, eOIn_e, kOIn_m]) fun x _ _ => by simp -implicitDefEqProofs only [bind_ok, bind_er, bindN_ok, ofE_ok, ofE_er, seqO_nx, seqO_rt, seqO_er, seqO_bk, seqO_ct, loopO_nx, loopO_ct, loopO_bk, loopO_rt, loopO_er, lift_s, retO_rt, retO_nx, retO_er, mkO_ok, mkO_er, toOpt_ok, eVar_z, eVar_s, oL_z, oL_s, frz_z, frz_s, wipe_n, wipe_c, datas_n, datas_c, map_s, bind_s, setA_n, setA_c, p2_d, p1_d, pN_d, fEq_i, fEq_s, fEq_b, fEq_ii, fNe_i, fNe_s, fNe_b, fSub_i, fAdd_i, fAnd_i, fOr_i, fXor_i, fLt_i, fLe_i, fGt_i, fGe_i, fIs_d, fIsNot_d, fIsB_b, isB_b, tru_b, tru_i, tru_l, tru_t, orE_s, orE_n, alt2_e, alt1_e, altN_e, fIx_l, fIx_t, at_0, at_1, at_2, at_3, at_4, at_5, for_n, for_c, lc_n, len_lst, len_tup, kfn_c, kix_c, sSeq_e, sNil_e, sSet_e, sSet2_e, sRet_e, sRetN_e, sDrop_e, sIf_e, sBk_e, sCt_e, sFrz_e, sOwn_e, sFor_e, sUnp_e, eC_e, eOp_e, eUn_e, aNil_e, aCons_e, aApp_e, eFN_e, eCall_e, eMake_e, eCMeth_e, eCallO_e, eLst_e, eTup_e, nLst_e, nLc_e, eLc_e, lSeq_e, lTup_e, eIf_e, eAnd_e, eOr_e, eNot_e, bOf_e, bAnd_e, bOr_e, bNot_e, eFld_e, runB_e, env0_e, oN_e, List.set_cons_zero, List.set_cons_succ, List.map_cons, List.map_nil, List.cons_append, List.nil_append, List.replicate_succ, List.replicate_zero, List.length_cons, List.length_nil, List.getElem?_cons_zero, List.getElem?_cons_succ, reduceIte, if_true, if_false, Bool.false_eq_true, arN_t, decide_true, decide_false, isNon, Bool.not_true, Bool.not_false, Bool.true_and, Bool.false_and, Bool.and_true, Bool.and_false, bYes_e, lstMax_e, Nat.reduceAdd, Nat.reduceSub, Nat.reduceLeDiff, Int.reduceLT, Int.reduceLE, Int.reduceEq, String.reduceEq, and_self, decide_eq_true_eq, and_true, true_and, cPos_e, cDiv_e, fMod_i, fDiv_i, Int.reduceMod, Int.reduceDiv, Int.reduceSub, Int.reduceAdd, Int.reducePow, kOf_i, fsOf_i, fOwn_k, fOwn1_k, gFld_k, methO_e, methK_s, methA_s, ownK_s, ownK_n, ownK_m, own1K_s, own1K_n, fldK_s, sApp_e, appK_s, sOSub_e, osubK_s, eOIx_e, oixK_s, eOLen_e, olenK_s, ixN_p, Int.reduceToNat, Nat.reduceLT, oS_e, eSl_e, eSlT_e, kSet_e, kSet2_e, kDrop_e, kIf_t, kIf_f, kOwn_e, kApp_e, kOsub1_e, kOsub2_e, osK_s, kOix_e, ixK_s, kFor_e, kUnp_e, unpK_s, kOp1_e, kOp2_e, kUn_e, kC1_e, kC2_e, kA1_e, kA2_e, kFN_e, kCall_e, kMake_e, kCM_e, kMeth_e, kLst_e, lstK_s, kTup_e, tupK_s, kNl_e, nlK_s, nList_e, kNli_e, nliK_s, lOf_l, lOf_t, kNc1_e, kNc2_e, kLc1_e, kLc2_e, kSeq_e, kTpl_e, kEIf_t, kEIf_f, kEAnd_t, kEAnd_f, kEOr_t, kEOr_f, kENot_e, kB_e, kBAnd_t, kBAnd_f, kBOr_t, kBOr_f, kBNot_e, kOS_e, kSl1_e, kSl2_e, kSl3_e, kSt1_e, kSt2_e, kSt3_e, eMeth_e, kMe_e, lc_c, kL1_e, kL2_e, kT_t, kT_f, Int.cast_ofNat_Int, Int.natCast_zero, Int.natCast_one, lRng1_e, kRng_1, kRng_2, kRng_3, kRng_4, kRng_5, kRng_6, List.length_map, arS_0, sEr_e, sTryAs_e, tryK_nx, tryK_rt, tryK_er, afterO_rt, afterO_nx, eXf_e, xfS_s, xfK_s, plain_n, plain_e, List.all_cons, List.all_nil, eq_self, sTryN_e, tryN_nx, tryN_rt, tryN_h, tryN_t, dflI_e, dflF_e, not_false_eq_true, eMethK_e, kMK_e, kMK2_e, eProp_e, kPr_e, eNotO_e, kNotO_e, notK_s, eSlA_e, kSA1_e, kSA2_e, kSA3_l, kSA3_t, eGetO_e, kGet1_e, kGet2_e, getK_s]
    cases hf : nine.filter fun x => (l.any (· == x) != true) with
    | nil =>
      refine absurd (hole nine l nine_nd fun x hx => ?_) (by show ¬ 9 ≤ l.length; omega)
      have := List.filter_eq_nil_iff.mp hf x hx
      have a2 : l.any (· == x) = true := by
        cases q : l.any (· == x) with
        | true => rfl
        | false => rw [q] at this; exact absurd rfl this
      obtain ⟨y, hy, e⟩ := List.any_eq_true.mp a2
      rw [← eq_of_beq e]
      exact hy
    | cons y ys =>
      have hy : y ∈ nine.filter fun x => (l.any (· == x) != true) := by rw [hf]; exact List.mem_cons_self ..
      obtain ⟨hy1, hy2⟩ := List.mem_filter.mp hy
      have ny : y ∉ l := fun hm => by
        have a3 : l.any (· == y) = true := List.any_eq_true.mpr ⟨y, hm, beq_self_eq_true y⟩
        rw [a3] at hy2
        cases hy2
      refine ⟨y, b1, nine_nam y hy1, ny, ?_⟩
      have lf : (y :: ys).length ≤ 9 := by rw [← hf]; exact Nat.le_trans (List.length_filter_le ..) (by decide)
      have lf' : ys.length + 1 ≤ 100000 := by rw [List.length_cons] at lf; omega
      have ne : [DL.D.str "qa", .str "b", .str "zeb", .str "mo", .str "aq", .str "xylox", .str "ba", .str "k", .str "mm"] = nine.map DL.D.str := rfl
      have n9 : nine.length ≤ 100000 := by decide
      rw [hf] at fl
      have bt : (true != false) = true := rfl
      simp -implicitDefEqProofs only [bind_ok, bind_er, bindN_ok, ofE_ok, ofE_er, seqO_nx, seqO_rt, seqO_er, seqO_bk, seqO_ct, loopO_nx, loopO_ct, loopO_bk, loopO_rt, loopO_er, lift_s, retO_rt, retO_nx, retO_er, mkO_ok, mkO_er, toOpt_ok, eVar_z, eVar_s, oL_z, oL_s, frz_z, frz_s, wipe_n, wipe_c, datas_n, datas_c, map_s, bind_s, setA_n, setA_c, p2_d, p1_d, pN_d, fEq_i, fEq_s, fEq_b, fEq_ii, fNe_i, fNe_s, fNe_b, fSub_i, fAdd_i, fAnd_i, fOr_i, fXor_i, fLt_i, fLe_i, fGt_i, fGe_i, fIs_d, fIsNot_d, fIsB_b, isB_b, tru_b, tru_i, tru_l, tru_t, orE_s, orE_n, alt2_e, alt1_e, altN_e, fIx_l, fIx_t, at_0, at_1, at_2, at_3, at_4, at_5, for_n, for_c, lc_n, len_lst, len_tup, kfn_c, kix_c, sSeq_e, sNil_e, sSet_e, sSet2_e, sRet_e, sRetN_e, sDrop_e, sIf_e, sBk_e, sCt_e, sFrz_e, sOwn_e, sFor_e, sUnp_e, eC_e, eOp_e, eUn_e, aNil_e, aCons_e, aApp_e, eFN_e, eCall_e, eMake_e, eCMeth_e, eCallO_e, eLst_e, eTup_e, nLst_e, nLc_e, eLc_e, lSeq_e, lTup_e, eIf_e, eAnd_e, eOr_e, eNot_e, bOf_e, bAnd_e, bOr_e, bNot_e, eFld_e, runB_e, env0_e, oN_e, List.set_cons_zero, List.set_cons_succ, List.map_cons, List.map_nil, List.cons_append, List.nil_append, List.replicate_succ, List.replicate_zero, List.length_cons, List.length_nil, List.getElem?_cons_zero, List.getElem?_cons_succ, reduceIte, if_true, if_false, Bool.false_eq_true, arN_t, decide_true, decide_false, isNon, Bool.not_true, Bool.not_false, Bool.true_and, Bool.false_and, Bool.and_true, Bool.and_false, bYes_e, lstMax_e, Nat.reduceAdd, Nat.reduceSub, Nat.reduceLeDiff, Int.reduceLT, Int.reduceLE, Int.reduceEq, String.reduceEq, and_self, decide_eq_true_eq, and_true, true_and, cPos_e, cDiv_e, fMod_i, fDiv_i, Int.reduceMod, Int.reduceDiv, Int.reduceSub, Int.reduceAdd, Int.reducePow, kOf_i, fsOf_i, fOwn_k, fOwn1_k, gFld_k, methO_e, methK_s, methA_s, ownK_s, ownK_n, ownK_m, own1K_s, own1K_n, fldK_s, sApp_e, appK_s, sOSub_e, osubK_s, eOIx_e, oixK_s, eOLen_e, olenK_s, ixN_p, Int.reduceToNat, Nat.reduceLT, oS_e, eSl_e, eSlT_e, kSet_e, kSet2_e, kDrop_e, kIf_t, kIf_f, kOwn_e, kApp_e, kOsub1_e, kOsub2_e, osK_s, kOix_e, ixK_s, kFor_e, kUnp_e, unpK_s, kOp1_e, kOp2_e, kUn_e, kC1_e, kC2_e, kA1_e, kA2_e, kFN_e, kCall_e, kMake_e, kCM_e, kMeth_e, kLst_e, lstK_s, kTup_e, tupK_s, kNl_e, nlK_s, nList_e, kNli_e, nliK_s, lOf_l, lOf_t, kNc1_e, kNc2_e, kLc1_e, kLc2_e, kSeq_e, kTpl_e, kEIf_t, kEIf_f, kEAnd_t, kEAnd_f, kEOr_t, kEOr_f, kENot_e, kB_e, kBAnd_t, kBAnd_f, kBOr_t, kBOr_f, kBNot_e, kOS_e, kSl1_e, kSl2_e, kSl3_e, kSt1_e, kSt2_e, kSt3_e, eMeth_e, kMe_e, lc_c, kL1_e, kL2_e, kT_t, kT_f, Int.cast_ofNat_Int, Int.natCast_zero, Int.natCast_one, lRng1_e, kRng_1, kRng_2, kRng_3, kRng_4, kRng_5, kRng_6, List.length_map, arS_0, sEr_e, sTryAs_e, tryK_nx, tryK_rt, tryK_er, afterO_rt, afterO_nx, eXf_e, xfS_s, xfK_s, plain_n, plain_e, List.all_cons, List.all_nil, eq_self, sTryN_e, tryN_nx, tryN_rt, tryN_h, tryN_t, dflI_e, dflF_e, not_false_eq_true, eMethK_e, kMK_e, kMK2_e, eProp_e, kPr_e, eNotO_e, kNotO_e, notK_s, eSlA_e, kSA1_e, kSA2_e, kSA3_l, kSA3_t, eGetO_e, kGet1_e, kGet2_e, getK_s, nBody, e1, eOIn_e, kOIn_m, a, bt, ne, n9, fl, lf', l1, map_appS]
  · have a : l.any (· == w) = false := by
      rw [List.any_eq_false]
      exact fun x hx e => hw (by rw [← eq_of_beq e]; exact hx)
    refine ⟨w, b1, nw, hw, ?_⟩
    have bf : (false != false) = false := rfl
    simp -implicitDefEqProofs only [bind_ok, bind_er, bindN_ok, ofE_ok, ofE_er, seqO_nx, seqO_rt, seqO_er, seqO_bk, seqO_ct, loopO_nx, loopO_ct, loopO_bk, loopO_rt, loopO_er, lift_s, retO_rt, retO_nx, retO_er, mkO_ok, mkO_er, toOpt_ok, eVar_z, eVar_s, oL_z, oL_s, frz_z, frz_s, wipe_n, wipe_c, datas_n, datas_c, map_s, bind_s, setA_n, setA_c, p2_d, p1_d, pN_d, fEq_i, fEq_s, fEq_b, fEq_ii, fNe_i, fNe_s, fNe_b, fSub_i, fAdd_i, fAnd_i, fOr_i, fXor_i, fLt_i, fLe_i, fGt_i, fGe_i, fIs_d, fIsNot_d, fIsB_b, isB_b, tru_b, tru_i, tru_l, tru_t, orE_s, orE_n, alt2_e, alt1_e, altN_e, fIx_l, fIx_t, at_0, at_1, at_2, at_3, at_4, at_5, for_n, for_c, lc_n, len_lst, len_tup, kfn_c, kix_c, sSeq_e, sNil_e, sSet_e, sSet2_e, sRet_e, sRetN_e, sDrop_e, sIf_e, sBk_e, sCt_e, sFrz_e, sOwn_e, sFor_e, sUnp_e, eC_e, eOp_e, eUn_e, aNil_e, aCons_e, aApp_e, eFN_e, eCall_e, eMake_e, eCMeth_e, eCallO_e, eLst_e, eTup_e, nLst_e, nLc_e, eLc_e, lSeq_e, lTup_e, eIf_e, eAnd_e, eOr_e, eNot_e, bOf_e, bAnd_e, bOr_e, bNot_e, eFld_e, runB_e, env0_e, oN_e, List.set_cons_zero, List.set_cons_succ, List.map_cons, List.map_nil, List.cons_append, List.nil_append, List.replicate_succ, List.replicate_zero, List.length_cons, List.length_nil, List.getElem?_cons_zero, List.getElem?_cons_succ, reduceIte, if_true, if_false, Bool.false_eq_true, arN_t, decide_true, decide_false, isNon, Bool.not_true, Bool.not_false, Bool.true_and, Bool.false_and, Bool.and_true, Bool.and_false, bYes_e, lstMax_e, Nat.reduceAdd, Nat.reduceSub, Nat.reduceLeDiff, Int.reduceLT, Int.reduceLE, Int.reduceEq, String.reduceEq, and_self, decide_eq_true_eq, and_true, true_and, cPos_e, cDiv_e, fMod_i, fDiv_i, Int.reduceMod, Int.reduceDiv, Int.reduceSub, Int.reduceAdd, Int.reducePow, kOf_i, fsOf_i, fOwn_k, fOwn1_k, gFld_k, methO_e, methK_s, methA_s, ownK_s, ownK_n, ownK_m, own1K_s, own1K_n, fldK_s, sApp_e, appK_s, sOSub_e, osubK_s, eOIx_e, oixK_s, eOLen_e, olenK_s, ixN_p, Int.reduceToNat, Nat.reduceLT, oS_e, eSl_e, eSlT_e, kSet_e, kSet2_e, kDrop_e, kIf_t, kIf_f, kOwn_e, kApp_e, kOsub1_e, kOsub2_e, osK_s, kOix_e, ixK_s, kFor_e, kUnp_e, unpK_s, kOp1_e, kOp2_e, kUn_e, kC1_e, kC2_e, kA1_e, kA2_e, kFN_e, kCall_e, kMake_e, kCM_e, kMeth_e, kLst_e, lstK_s, kTup_e, tupK_s, kNl_e, nlK_s, nList_e, kNli_e, nliK_s, lOf_l, lOf_t, kNc1_e, kNc2_e, kLc1_e, kLc2_e, kSeq_e, kTpl_e, kEIf_t, kEIf_f, kEAnd_t, kEAnd_f, kEOr_t, kEOr_f, kENot_e, kB_e, kBAnd_t, kBAnd_f, kBOr_t, kBOr_f, kBNot_e, kOS_e, kSl1_e, kSl2_e, kSl3_e, kSt1_e, kSt2_e, kSt3_e, eMeth_e, kMe_e, lc_c, kL1_e, kL2_e, kT_t, kT_f, Int.cast_ofNat_Int, Int.natCast_zero, Int.natCast_one, lRng1_e, kRng_1, kRng_2, kRng_3, kRng_4, kRng_5, kRng_6, List.length_map, arS_0, sEr_e, sTryAs_e, tryK_nx, tryK_rt, tryK_er, afterO_rt, afterO_nx, eXf_e, xfS_s, xfK_s, plain_n, plain_e, List.all_cons, List.all_nil, eq_self, sTryN_e, tryN_nx, tryN_rt, tryN_h, tryN_t, dflI_e, dflF_e, not_false_eq_true, eMethK_e, kMK_e, kMK2_e, eProp_e, kPr_e, eNotO_e, kNotO_e, notK_s, eSlA_e, kSA1_e, kSA2_e, kSA3_l, kSA3_t, eGetO_e, kGet1_e, kGet2_e, getK_s, nBody, e1, eOIn_e, kOIn_m, a, bf, l1, map_appS]
theorem n_loop (s1 : Sl) : ∀ (ds : List DL.D) (s3 s4 : Sl) (l : List Str) (b : Bx), l.length + ds.length ≤ 9 → (∀ x ∈ l, Nam x) → l.Nodup → ∃ (l' : List Str) (b' : Bx) (s3' s4' : Sl), l'.length = l.length + ds.length ∧ (∀ x ∈ l', Nam x) ∧ l'.Nodup ∧
    forL 3 nBody ds [.ev (.o 1), s1, .own (.lst (l.map .str)), s3, s4, .no] (bS b) = .nx [.ev (.o 1), s1, .own (.lst (l'.map .str)), s3', s4', .no] (bS b')
  | [], s3, s4, l, b, _, h, hd => ⟨l, b, s3, s4, rfl, h, hd, rfl⟩
  | d :: ds, s3, s4, l, b, hl, h, hd => by
    rw [List.length_cons] at hl
    obtain ⟨x, b1, nx, nl, e1⟩ := n_step s1 (.ev (.d d)) s4 l (by omega) h hd b
    have hd' : (l ++ [x]).Nodup := by
      rw [List.nodup_append]
      refine ⟨hd, by simp, fun a ha c hc e => ?_⟩
      rw [List.mem_singleton] at hc
      subst hc
      subst e
      exact nl ha
    obtain ⟨l', b2, s3', s4', ll, lo, ld, e2⟩ := n_loop s1 ds (.ev (.d d)) (.ev (.d (.str x))) (l ++ [x]) b1 (by rw [List.length_append, List.length_singleton]; omega) (fun y hy => (List.mem_append.mp hy).elim (h y) fun hy => by rw [List.mem_singleton] at hy; rw [hy]; exact nx) hd'
    refine ⟨l', b2, s3', s4', by rw [ll, List.length_append, List.length_singleton, List.length_cons]; omega, lo, ld, Eq.trans ?_ e2⟩
    show loopO (nBody ([.ev (.o 1), s1, .own (.lst (l.map .str)), .ev (.d d), s4, .no] : En) (bS b)) (forL 3 nBody ds) = _
    rw [e1]
    rfl
theorem names_gen (many : Nat) (hm : many ≤ 9) (b : Bx) : ∃ (l : List Str) (b' : Bx), l.length = many ∧ (∀ x ∈ l, Nam x) ∧ l.Nodup ∧ g__law_names [.o 1, .d (.int (many : Nat))] (bS b) = .ok (.d (.lst (l.map .str))) (bS b') := by
  have lv : many ≤ 1000000 := by omega
  obtain ⟨l, b2, s3, s4, ll, lo, ld, e2⟩ := n_loop (.ev (.d (.int (many : Nat)))) (rangeD many) .no .no [] b (by rw [rangeD_len]; simp; exact hm) (fun _ h => nomatch h) List.nodup_nil
  rw [rangeD_len] at ll
  refine ⟨l, b2, by simpa using ll, lo, ld, ?_⟩
  unfold nBody at e2
  rw [List.map_nil] at e2
  simp -implicitDefEqProofs only [bind_ok, bind_er, bindN_ok, ofE_ok, ofE_er, seqO_nx, seqO_rt, seqO_er, seqO_bk, seqO_ct, loopO_nx, loopO_ct, loopO_bk, loopO_rt, loopO_er, lift_s, retO_rt, retO_nx, retO_er, mkO_ok, mkO_er, toOpt_ok, eVar_z, eVar_s, oL_z, oL_s, frz_z, frz_s, wipe_n, wipe_c, datas_n, datas_c, map_s, bind_s, setA_n, setA_c, p2_d, p1_d, pN_d, fEq_i, fEq_s, fEq_b, fEq_ii, fNe_i, fNe_s, fNe_b, fSub_i, fAdd_i, fAnd_i, fOr_i, fXor_i, fLt_i, fLe_i, fGt_i, fGe_i, fIs_d, fIsNot_d, fIsB_b, isB_b, tru_b, tru_i, tru_l, tru_t, orE_s, orE_n, alt2_e, alt1_e, altN_e, fIx_l, fIx_t, at_0, at_1, at_2, at_3, at_4, at_5, for_n, for_c, lc_n, len_lst, len_tup, kfn_c, kix_c, sSeq_e, sNil_e, sSet_e, sSet2_e, sRet_e, sRetN_e, sDrop_e, sIf_e, sBk_e, sCt_e, sFrz_e, sOwn_e, sFor_e, sUnp_e, eC_e, eOp_e, eUn_e, aNil_e, aCons_e, aApp_e, eFN_e, eCall_e, eMake_e, eCMeth_e, eCallO_e, eLst_e, eTup_e, nLst_e, nLc_e, eLc_e, lSeq_e, lTup_e, eIf_e, eAnd_e, eOr_e, eNot_e, bOf_e, bAnd_e, bOr_e, bNot_e, eFld_e, runB_e, env0_e, oN_e, List.set_cons_zero, List.set_cons_succ, List.map_cons, List.map_nil, List.cons_append, List.nil_append, List.replicate_succ, List.replicate_zero, List.length_cons, List.length_nil, List.getElem?_cons_zero, List.getElem?_cons_succ, reduceIte, if_true, if_false, Bool.false_eq_true, arN_t, decide_true, decide_false, isNon, Bool.not_true, Bool.not_false, Bool.true_and, Bool.false_and, Bool.and_true, Bool.and_false, bYes_e, lstMax_e, Nat.reduceAdd, Nat.reduceSub, Nat.reduceLeDiff, Int.reduceLT, Int.reduceLE, Int.reduceEq, String.reduceEq, and_self, decide_eq_true_eq, and_true, true_and, cPos_e, cDiv_e, fMod_i, fDiv_i, Int.reduceMod, Int.reduceDiv, Int.reduceSub, Int.reduceAdd, Int.reducePow, kOf_i, fsOf_i, fOwn_k, fOwn1_k, gFld_k, methO_e, methK_s, methA_s, ownK_s, ownK_n, ownK_m, own1K_s, own1K_n, fldK_s, sApp_e, appK_s, sOSub_e, osubK_s, eOIx_e, oixK_s, eOLen_e, olenK_s, ixN_p, Int.reduceToNat, Nat.reduceLT, oS_e, eSl_e, eSlT_e, kSet_e, kSet2_e, kDrop_e, kIf_t, kIf_f, kOwn_e, kApp_e, kOsub1_e, kOsub2_e, osK_s, kOix_e, ixK_s, kFor_e, kUnp_e, unpK_s, kOp1_e, kOp2_e, kUn_e, kC1_e, kC2_e, kA1_e, kA2_e, kFN_e, kCall_e, kMake_e, kCM_e, kMeth_e, kLst_e, lstK_s, kTup_e, tupK_s, kNl_e, nlK_s, nList_e, kNli_e, nliK_s, lOf_l, lOf_t, kNc1_e, kNc2_e, kLc1_e, kLc2_e, kSeq_e, kTpl_e, kEIf_t, kEIf_f, kEAnd_t, kEAnd_f, kEOr_t, kEOr_f, kENot_e, kB_e, kBAnd_t, kBAnd_f, kBOr_t, kBOr_f, kBNot_e, kOS_e, kSl1_e, kSl2_e, kSl3_e, kSt1_e, kSt2_e, kSt3_e, eMeth_e, kMe_e, lc_c, kL1_e, kL2_e, kT_t, kT_f, Int.cast_ofNat_Int, Int.natCast_zero, Int.natCast_one, lRng1_e, kRng_1, kRng_2, kRng_3, kRng_4, kRng_5, kRng_6, List.length_map, arS_0, sEr_e, sTryAs_e, tryK_nx, tryK_rt, tryK_er, afterO_rt, afterO_nx, eXf_e, xfS_s, xfK_s, plain_n, plain_e, List.all_cons, List.all_nil, eq_self, sTryN_e, tryN_nx, tryN_rt, tryN_h, tryN_t, dflI_e, dflF_e, not_false_eq_true, eMethK_e, kMK_e, kMK2_e, eProp_e, kPr_e, eNotO_e, kNotO_e, notK_s, eSlA_e, kSA1_e, kSA2_e, kSA3_l, kSA3_t, eGetO_e, kGet1_e, kGet2_e, getK_s, g__law_names, m__law_names, kRng_n lv, ↓e2]
theorem and_bl {m n : EM} {env : En} {G : GS} {p q : Bool} (h1 : m env G = .ok (.d (.bl p)) G) (h2 : n env G = .ok (.d (.bl q)) G) : eAnd m n env G = .ok (.d (.bl (p && q))) G := by
  unfold eAnd
  rw [h1]
  cases p with
  | true => exact h2
  | false => rfl
def Ly (s : Str) : Prop := PyData.canLay0 (.str s) = true
theorem op_some {f : F2} {a b : EM} {env : En} {G G1 : GS} {x y z : EV} (h1 : a env G = .ok x G) (h2 : b env G = .ok y G) (h : f x y G = some (z, G1)) : eOp f a b env G = .ok z G1 := by rw [op_eq h1 h2, h]; rfl
noncomputable section
theorem lt_eq (a b : Nat) (G : GS) : g_Light___eq__ [.d (lightD a), .d (lightD b)] G = .ok (.d (.bl (decide ((a : Int) = (b : Int))))) G := by kernel_rfl
theorem fq_tup (o n o' n' : Nat) (m m' : Bool) (G : GS) : alt2 (fEq) (fEqT "Light" (arN 2) g_Light___eq__) (.d (eD o n m)) (.d (eD o' n' m')) G = some (.d (.bl (decide (o = o') && (decide (n = n') && (m == m')))), G) := by
  have e1 : fEq (.d (eD o n m)) (.d (eD o' n' m')) G = none := by kernel_rfl
  have l : ∀ a b : Nat, elE "Light" (arN 2) g_Light___eq__ (lightD a) (lightD b) G = some (decide (a = b)) := fun a b => by
    refine elE_ins rfl ?_ ?_
    · refine (lt_eq a b G).trans ?_
      rw [show decide ((a : Int) = (b : Int)) = decide (a = b) from decide_eq_decide.mpr Int.ofNat_inj]
    · by_cases h : a = b
      · exact .inl (decide_eq_true h)
      · refine .inr ?_
        show (decide ((a : Int) ≠ (b : Int)) || false) = true
        rw [decide_eq_true (show (a : Int) ≠ (b : Int) by omega)]
        rfl
  have e2 : fEqT "Light" (arN 2) g_Light___eq__ (.d (eD o n m)) (.d (eD o' n' m')) G = some (.d (.bl (decide (o = o') && (decide (n = n') && (m == m')))), G) := by
    show (((elE "Light" (arN 2) g_Light___eq__ (lightD o) (lightD o') G).bind fun b => if b = true then ((elE "Light" (arN 2) g_Light___eq__ (lightD n) (lightD n') G).bind fun b => if b = true then ((some (m == m')).bind fun b => if b = true then some true else some false) else some false) else some false).map fun b => (EV.d (DL.D.bl (b && true)), G)) = _
    rw [l, l]
    cases decide (o = o') <;> cases decide (n = n') <;> cases m <;> cases m' <;> rfl
  unfold alt2
  rw [e1]
  exact e2
theorem film_eq (o n o2 n2 o' n' o2' n2' : Nat) (m m2 m' m2' : Bool) (G : GS) : g_Film___eq__ [.d (fmD o n m o2 n2 m2), .d (fmD o' n' m' o2' n2' m2')] G = .ok (.d (.bl ((decide (o = o') && (decide (n = n') && (m == m'))) && (decide (o2 = o2') && (decide (n2 = n2') && (m2 == m2')))))) G := by
  have i1 : eFN (fIsi TB) (aCons (eVar 1) (aCons (eC (.cls "Film")) (aNil))) (env0 2 [.d (fmD o n m o2 n2 m2), .d (fmD o' n' m' o2' n2' m2')]) G = .ok (.d (.bl true)) G := by kernel_rfl
  have e := and_bl i1 (and_bl (op_some (a := eFld [("Film", 0)] (eVar 0)) (b := eFld [("Film", 0)] (eVar 1)) (env := env0 2 [.d (fmD o n m o2 n2 m2), .d (fmD o' n' m' o2' n2' m2')]) rfl rfl (fq_tup o n o' n' m m' G)) (op_some (a := eFld [("Film", 1)] (eVar 0)) (b := eFld [("Film", 1)] (eVar 1)) rfl rfl (fq_tup o2 n2 o2' n2' m2 m2' G)))
  refine (rt_of (m := m_Film___eq__) (n := 2) (sret_eq e)).trans ?_
  rw [Bool.true_and]
end
end K29
set_option Elab.async false
set_option linter.all false
set_option maxRecDepth 100000
set_option maxHeartbeats 4000000
/-! reading by simp: errors of no field, nameless clauses, lists of numbers -/
namespace DL
open PySem
/-! == of lists of numbers -/
/-! cuts of pictures -/
theorem cut_map {α β : Type} (f : α → β) (xs : List α) (l h : Option Int) : cutL (xs.map f) l h = (cutL xs l h).map f := by
  unfold cutL
  rw [List.length_map, List.map_take, List.map_drop]
theorem cut_le {α : Type} (xs : List α) (l h : Option Int) : (cutL xs l h).length ≤ xs.length := by
  unfold cutL
  rw [List.length_take, List.length_drop]
  omega
end DL
set_option Elab.async false
set_option linter.all false
set_option maxRecDepth 100000
set_option maxHeartbeats 4000000
namespace K29
open PySem DL
/-! ### trees -/
inductive Tr where
  | lf (i : Nat)
  | fk (m : Str) (a b : Tr)
/-- the three films -/
def fl : Nat → DL.D
  | 0 => fmD 0 0 false 0 0 true
  | 1 => fmD 1 0 true 1 0 true
  | _ => fmD 0 33 true 0 33 true
def Tr.D : Tr → DL.D
  | .lf i => .tup [.non, .int (i : Nat)]
  | .fk m a b => .tup [.str m, a.D, b.D]
def Tr.C : Tr → DL.D
  | .lf i => .ins "Chart" [.non, fl i, .non, .non]
  | .fk m a b => .ins "Chart" [.str m, .non, a.C, b.C]
def Tr.dep : Tr → Nat
  | .lf _ => 0
  | .fk _ a b => max a.dep b.dep + 1
def Tr.L : Tr → Prop
  | .lf i => i < 3
  | .fk _ a b => a.L ∧ b.L
def Tr.N : Tr → Prop
  | .lf _ => True
  | .fk m a b => Nam m ∧ a.N ∧ b.N
def Tr.eqB : Tr → Tr → Bool
  | .lf i, .lf j => decide (i = j)
  | .fk m a b, .fk m' a' b' => decide (m = m') && (a.eqB a' && b.eqB b')
  | _, _ => false
theorem dep_a {m : Str} {a b : Tr} {n : Nat} (h : (Tr.fk m a b).dep ≤ n + 1) : a.dep ≤ n ∧ b.dep ≤ n := by
  have h' : max a.dep b.dep + 1 ≤ n + 1 := h
  omega
/-! ### == of charts -/
noncomputable section
theorem film_ij (i j : Nat) (hi : i < 3) (hj : j < 3) (h : F2) (G : GS) : alt2 (alt2 (fEq) (fEqO NT_Film "Film" (arN 2) g_Film___eq__)) h (.d (fl i)) (.d (fl j)) G = some (.d (.bl (decide (i = j))), G) := by
  have e1 : ∀ o n o2 n2 o' n' o2' n2' m m2 m' m2', fEq (.d (fmD o n m o2 n2 m2)) (.d (fmD o' n' m' o2' n2' m2')) G = none := fun _ _ _ _ _ _ _ _ _ _ _ _ => rfl
  have e2 : ∀ o n o2 n2 o' n' o2' n2' m m2 m' m2', fEqO NT_Film "Film" (arN 2) g_Film___eq__ (.d (fmD o n m o2 n2 m2)) (.d (fmD o' n' m' o2' n2' m2')) G = resB (toOpt (g_Film___eq__ [.d (fmD o n m o2 n2 m2), .d (fmD o' n' m' o2' n2' m2')] G)) := fun o n o2 n2 o' n' o2' n2' m m2 m' m2' => by
    show (if "Film" = "Film" ∧ arN 2 2 = true ∧ noC (fmD o' n' m' o2' n2' m2') = true ∧ tgOf (fmD o' n' m' o2' n2' m2') ∈ NT_Film then resB (toOpt (g_Film___eq__ [.d (fmD o n m o2 n2 m2), .d (fmD o' n' m' o2' n2' m2')] G)) else none) = _
    exact if_pos ⟨rfl, rfl, rfl, by unfold NT_Film; simp [tgOf, fmD]⟩
  have key : ∀ o n o2 n2 o' n' o2' n2' m m2 m' m2' (k : Bool), ((decide (o = o') && (decide (n = n') && (m == m'))) && (decide (o2 = o2') && (decide (n2 = n2') && (m2 == m2')))) = k → alt2 (alt2 (fEq) (fEqO NT_Film "Film" (arN 2) g_Film___eq__)) h (.d (fmD o n m o2 n2 m2)) (.d (fmD o' n' m' o2' n2' m2')) G = some (.d (.bl k), G) := fun o n o2 n2 o' n' o2' n2' m m2 m' m2' k hk => by
    rw [alt2_e, alt2_e, e1, orE_n, e2, film_eq, hk]
    rfl
  have i3 : i = 0 ∨ i = 1 ∨ i = 2 := by omega
  have j3 : j = 0 ∨ j = 1 ∨ j = 2 := by omega
  rcases i3 with rfl | rfl | rfl <;> rcases j3 with rfl | rfl | rfl <;> exact key _ _ _ _ _ _ _ _ _ _ _ _ _ (by decide)
theorem chart_op (nt : List Tg) (f : F2) (g : FM) (x y : DL.D) (fs fs' : List DL.D) (hx : x = .ins "Chart" fs) (hy : y = .ins "Chart" fs') (hf : f (.d x) (.d y) = fun _ => none) (hn : (Tg.own "Chart") ∈ nt) {k : Bool} {G : GS} (h : g [.d x, .d y] G = .ok (.d (.bl k)) G) : alt2 f (fEqO nt "Chart" (arN 2) g) (.d x) (.d y) G = some (.d (.bl k), G) := by
  subst hx hy
  rw [alt2_e, hf, orE_n]
  show (if "Chart" = "Chart" ∧ arN 2 2 = true ∧ noC (.ins "Chart" fs') = true ∧ tgOf (.ins "Chart" fs') ∈ nt then resB (toOpt (g [.d (.ins "Chart" fs), .d (.ins "Chart" fs')] G)) else none) = _
  rw [if_pos ⟨rfl, rfl, rfl, hn⟩, h]
  rfl
theorem C_ins : ∀ t : Tr, ∃ fs, t.C = .ins "Chart" fs
  | .lf _ => ⟨_, rfl⟩
  | .fk _ _ _ => ⟨_, rfl⟩
theorem f_no (x y : Tr) : alt2 (fEq) (fEqO NT_Film "Film" (arN 2) g_Film___eq__) (.d x.C) (.d y.C) = fun _ => none := by
  cases x <;> cases y <;> rfl
theorem f_no1 (x y : Tr) : fEq (.d x.C) (.d y.C) = fun _ => none := by
  cases x <;> cases y <;> rfl
theorem in_chart : (Tg.own "Chart") ∈ NT_Chart := by unfold NT_Chart; simp
theorem chart_eq : ∀ (n : Nat) (x y : Tr), x.dep ≤ n → x.L → y.L → ∀ G : GS, gF_Chart___eq__ (n + 1) [.d x.C, .d y.C] G = .ok (.d (.bl (x.eqB y))) G
  | n, .lf i, .lf j, _, hi, hj, G => by
    have f := film_ij i j hi hj (fEqO NT_Chart "Chart" (arN 2) (gF_Chart___eq__ n)) G
    have is_ : fIsi TB [.d (.ins "Chart" [.non, fl j, .non, .non]), .d (.cls "Chart")] G = some (.d (.bl true), G) := by kernel_rfl
    have nn : ∀ h : F2, alt2 (alt2 (fEq) (fEqO NT_Film "Film" (arN 2) g_Film___eq__)) h (.d .non) (.d .non) G = some (.d (.bl true), G) := fun _ => rfl
    unfold Tr.C Tr.eqB
    cases h : decide (i = j) with
    | true => rw [h] at f; simp -implicitDefEqProofs only [bind_ok, bind_er, bindN_ok, ofE_ok, ofE_er, seqO_nx, seqO_rt, seqO_er, seqO_bk, seqO_ct, loopO_nx, loopO_ct, loopO_bk, loopO_rt, loopO_er, lift_s, retO_rt, retO_nx, retO_er, mkO_ok, mkO_er, toOpt_ok, eVar_z, eVar_s, oL_z, oL_s, frz_z, frz_s, wipe_n, wipe_c, datas_n, datas_c, map_s, bind_s, setA_n, setA_c, p2_d, p1_d, pN_d, fEq_i, fEq_s, fEq_b, fEq_ii, fNe_i, fNe_s, fNe_b, fSub_i, fAdd_i, fAnd_i, fOr_i, fXor_i, fLt_i, fLe_i, fGt_i, fGe_i, fIs_d, fIsNot_d, fIsB_b, isB_b, tru_b, tru_i, tru_l, tru_t, orE_s, orE_n, alt2_e, alt1_e, altN_e, fIx_l, fIx_t, at_0, at_1, at_2, at_3, at_4, at_5, for_n, for_c, lc_n, len_lst, len_tup, kfn_c, kix_c, sSeq_e, sNil_e, sSet_e, sSet2_e, sRet_e, sRetN_e, sDrop_e, sIf_e, sBk_e, sCt_e, sFrz_e, sOwn_e, sFor_e, sUnp_e, eC_e, eOp_e, eUn_e, aNil_e, aCons_e, aApp_e, eFN_e, eCall_e, eMake_e, eCMeth_e, eCallO_e, eLst_e, eTup_e, nLst_e, nLc_e, eLc_e, lSeq_e, lTup_e, eIf_e, eAnd_e, eOr_e, eNot_e, bOf_e, bAnd_e, bOr_e, bNot_e, eFld_e, runB_e, env0_e, oN_e, List.set_cons_zero, List.set_cons_succ, List.map_cons, List.map_nil, List.cons_append, List.nil_append, List.replicate_succ, List.replicate_zero, List.length_cons, List.length_nil, List.getElem?_cons_zero, List.getElem?_cons_succ, reduceIte, if_true, if_false, Bool.false_eq_true, arN_t, decide_true, decide_false, isNon, Bool.not_true, Bool.not_false, Bool.true_and, Bool.false_and, Bool.and_true, Bool.and_false, bYes_e, lstMax_e, Nat.reduceAdd, Nat.reduceSub, Nat.reduceLeDiff, Int.reduceLT, Int.reduceLE, Int.reduceEq, String.reduceEq, and_self, decide_eq_true_eq, and_true, true_and, cPos_e, cDiv_e, fMod_i, fDiv_i, Int.reduceMod, Int.reduceDiv, Int.reduceSub, Int.reduceAdd, Int.reducePow, kOf_i, fsOf_i, fOwn_k, fOwn1_k, gFld_k, methO_e, methK_s, methA_s, ownK_s, ownK_n, ownK_m, own1K_s, own1K_n, fldK_s, sApp_e, appK_s, sOSub_e, osubK_s, eOIx_e, oixK_s, eOLen_e, olenK_s, ixN_p, Int.reduceToNat, Nat.reduceLT, oS_e, eSl_e, eSlT_e, kSet_e, kSet2_e, kDrop_e, kIf_t, kIf_f, kOwn_e, kApp_e, kOsub1_e, kOsub2_e, osK_s, kOix_e, ixK_s, kFor_e, kUnp_e, unpK_s, kOp1_e, kOp2_e, kUn_e, kC1_e, kC2_e, kA1_e, kA2_e, kFN_e, kCall_e, kMake_e, kCM_e, kMeth_e, kLst_e, lstK_s, kTup_e, tupK_s, kNl_e, nlK_s, nList_e, kNli_e, nliK_s, lOf_l, lOf_t, kNc1_e, kNc2_e, kLc1_e, kLc2_e, kSeq_e, kTpl_e, kEIf_t, kEIf_f, kEAnd_t, kEAnd_f, kEOr_t, kEOr_f, kENot_e, kB_e, kBAnd_t, kBAnd_f, kBOr_t, kBOr_f, kBNot_e, kOS_e, kSl1_e, kSl2_e, kSl3_e, kSt1_e, kSt2_e, kSt3_e, eMeth_e, kMe_e, lc_c, kL1_e, kL2_e, kT_t, kT_f, Int.cast_ofNat_Int, Int.natCast_zero, Int.natCast_one, lRng1_e, kRng_1, kRng_2, kRng_3, kRng_4, kRng_5, kRng_6, List.length_map, arS_0, sEr_e, sTryAs_e, tryK_nx, tryK_rt, tryK_er, afterO_rt, afterO_nx, eXf_e, xfS_s, xfK_s, plain_n, plain_e, List.all_cons, List.all_nil, eq_self, sTryN_e, tryN_nx, tryN_rt, tryN_h, tryN_t, dflI_e, dflF_e, not_false_eq_true, eMethK_e, kMK_e, kMK2_e, eProp_e, kPr_e, eNotO_e, kNotO_e, notK_s, eSlA_e, kSA1_e, kSA2_e, kSA3_l, kSA3_t, eGetO_e, kGet1_e, kGet2_e, getK_s, gF_Chart___eq__, mR_Chart___eq__, is_, ↓nn, ↓f]
    | false => rw [h] at f; simp -implicitDefEqProofs only [bind_ok, bind_er, bindN_ok, ofE_ok, ofE_er, seqO_nx, seqO_rt, seqO_er, seqO_bk, seqO_ct, loopO_nx, loopO_ct, loopO_bk, loopO_rt, loopO_er, lift_s, retO_rt, retO_nx, retO_er, mkO_ok, mkO_er, toOpt_ok, eVar_z, eVar_s, oL_z, oL_s, frz_z, frz_s, wipe_n, wipe_c, datas_n, datas_c, map_s, bind_s, setA_n, setA_c, p2_d, p1_d, pN_d, fEq_i, fEq_s, fEq_b, fEq_ii, fNe_i, fNe_s, fNe_b, fSub_i, fAdd_i, fAnd_i, fOr_i, fXor_i, fLt_i, fLe_i, fGt_i, fGe_i, fIs_d, fIsNot_d, fIsB_b, isB_b, tru_b, tru_i, tru_l, tru_t, orE_s, orE_n, alt2_e, alt1_e, altN_e, fIx_l, fIx_t, at_0, at_1, at_2, at_3, at_4, at_5, for_n, for_c, lc_n, len_lst, len_tup, kfn_c, kix_c, sSeq_e, sNil_e, sSet_e, sSet2_e, sRet_e, sRetN_e, sDrop_e, sIf_e, sBk_e, sCt_e, sFrz_e, sOwn_e, sFor_e, sUnp_e, eC_e, eOp_e, eUn_e, aNil_e, aCons_e, aApp_e, eFN_e, eCall_e, eMake_e, eCMeth_e, eCallO_e, eLst_e, eTup_e, nLst_e, nLc_e, eLc_e, lSeq_e, lTup_e, eIf_e, eAnd_e, eOr_e, eNot_e, bOf_e, bAnd_e, bOr_e, bNot_e, eFld_e, runB_e, env0_e, oN_e, List.set_cons_zero, List.set_cons_succ, List.map_cons, List.map_nil, List.cons_append, List.nil_append, List.replicate_succ, List.replicate_zero, List.length_cons, List.length_nil, List.getElem?_cons_zero, List.getElem?_cons_succ, reduceIte, if_true, if_false, Bool.false_eq_true, arN_t, decide_true, decide_false, isNon, Bool.not_true, Bool.not_false, Bool.true_and, Bool.false_and, Bool.and_true, Bool.and_false, bYes_e, lstMax_e, Nat.reduceAdd, Nat.reduceSub, Nat.reduceLeDiff, Int.reduceLT, Int.reduceLE, Int.reduceEq, String.reduceEq, and_self, decide_eq_true_eq, and_true, true_and, cPos_e, cDiv_e, fMod_i, fDiv_i, Int.reduceMod, Int.reduceDiv, Int.reduceSub, Int.reduceAdd, Int.reducePow, kOf_i, fsOf_i, fOwn_k, fOwn1_k, gFld_k, methO_e, methK_s, methA_s, ownK_s, ownK_n, ownK_m, own1K_s, own1K_n, fldK_s, sApp_e, appK_s, sOSub_e, osubK_s, eOIx_e, oixK_s, eOLen_e, olenK_s, ixN_p, Int.reduceToNat, Nat.reduceLT, oS_e, eSl_e, eSlT_e, kSet_e, kSet2_e, kDrop_e, kIf_t, kIf_f, kOwn_e, kApp_e, kOsub1_e, kOsub2_e, osK_s, kOix_e, ixK_s, kFor_e, kUnp_e, unpK_s, kOp1_e, kOp2_e, kUn_e, kC1_e, kC2_e, kA1_e, kA2_e, kFN_e, kCall_e, kMake_e, kCM_e, kMeth_e, kLst_e, lstK_s, kTup_e, tupK_s, kNl_e, nlK_s, nList_e, kNli_e, nliK_s, lOf_l, lOf_t, kNc1_e, kNc2_e, kLc1_e, kLc2_e, kSeq_e, kTpl_e, kEIf_t, kEIf_f, kEAnd_t, kEAnd_f, kEOr_t, kEOr_f, kENot_e, kB_e, kBAnd_t, kBAnd_f, kBOr_t, kBOr_f, kBNot_e, kOS_e, kSl1_e, kSl2_e, kSl3_e, kSt1_e, kSt2_e, kSt3_e, eMeth_e, kMe_e, lc_c, kL1_e, kL2_e, kT_t, kT_f, Int.cast_ofNat_Int, Int.natCast_zero, Int.natCast_one, lRng1_e, kRng_1, kRng_2, kRng_3, kRng_4, kRng_5, kRng_6, List.length_map, arS_0, sEr_e, sTryAs_e, tryK_nx, tryK_rt, tryK_er, afterO_rt, afterO_nx, eXf_e, xfS_s, xfK_s, plain_n, plain_e, List.all_cons, List.all_nil, eq_self, sTryN_e, tryN_nx, tryN_rt, tryN_h, tryN_t, dflI_e, dflF_e, not_false_eq_true, eMethK_e, kMK_e, kMK2_e, eProp_e, kPr_e, eNotO_e, kNotO_e, notK_s, eSlA_e, kSA1_e, kSA2_e, kSA3_l, kSA3_t, eGetO_e, kGet1_e, kGet2_e, getK_s, gF_Chart___eq__, mR_Chart___eq__, is_, ↓nn, ↓f]
  | n, .lf i, .fk m a b, _, _, _, G => by
    have is_ : fIsi TB [.d (.ins "Chart" [.str m, .non, a.C, b.C]), .d (.cls "Chart")] G = some (.d (.bl true), G) := by kernel_rfl
    have ns : ∀ h : F2, alt2 (alt2 (fEq) (fEqO NT_Film "Film" (arN 2) g_Film___eq__)) h (.d .non) (.d (.str m)) G = some (.d (.bl false), G) := fun _ => rfl
    unfold Tr.C Tr.eqB
    simp -implicitDefEqProofs only [bind_ok, bind_er, bindN_ok, ofE_ok, ofE_er, seqO_nx, seqO_rt, seqO_er, seqO_bk, seqO_ct, loopO_nx, loopO_ct, loopO_bk, loopO_rt, loopO_er, lift_s, retO_rt, retO_nx, retO_er, mkO_ok, mkO_er, toOpt_ok, eVar_z, eVar_s, oL_z, oL_s, frz_z, frz_s, wipe_n, wipe_c, datas_n, datas_c, map_s, bind_s, setA_n, setA_c, p2_d, p1_d, pN_d, fEq_i, fEq_s, fEq_b, fEq_ii, fNe_i, fNe_s, fNe_b, fSub_i, fAdd_i, fAnd_i, fOr_i, fXor_i, fLt_i, fLe_i, fGt_i, fGe_i, fIs_d, fIsNot_d, fIsB_b, isB_b, tru_b, tru_i, tru_l, tru_t, orE_s, orE_n, alt2_e, alt1_e, altN_e, fIx_l, fIx_t, at_0, at_1, at_2, at_3, at_4, at_5, for_n, for_c, lc_n, len_lst, len_tup, kfn_c, kix_c, sSeq_e, sNil_e, sSet_e, sSet2_e, sRet_e, sRetN_e, sDrop_e, sIf_e, sBk_e, sCt_e, sFrz_e, sOwn_e, sFor_e, sUnp_e, eC_e, eOp_e, eUn_e, aNil_e, aCons_e, aApp_e, eFN_e, eCall_e, eMake_e, eCMeth_e, eCallO_e, eLst_e, eTup_e, nLst_e, nLc_e, eLc_e, lSeq_e, lTup_e, eIf_e, eAnd_e, eOr_e, eNot_e, bOf_e, bAnd_e, bOr_e, bNot_e, eFld_e, runB_e, env0_e, oN_e, List.set_cons_zero, List.set_cons_succ, List.map_cons, List.map_nil, List.cons_append, List.nil_append, List.replicate_succ, List.replicate_zero, List.length_cons, List.length_nil, List.getElem?_cons_zero, List.getElem?_cons_succ, reduceIte, if_true, if_false, Bool.false_eq_true, arN_t, decide_true, decide_false, isNon, Bool.not_true, Bool.not_false, Bool.true_and, Bool.false_and, Bool.and_true, Bool.and_false, bYes_e, lstMax_e, Nat.reduceAdd, Nat.reduceSub, Nat.reduceLeDiff, Int.reduceLT, Int.reduceLE, Int.reduceEq, String.reduceEq, and_self, decide_eq_true_eq, and_true, true_and, cPos_e, cDiv_e, fMod_i, fDiv_i, Int.reduceMod, Int.reduceDiv, Int.reduceSub, Int.reduceAdd, Int.reducePow, kOf_i, fsOf_i, fOwn_k, fOwn1_k, gFld_k, methO_e, methK_s, methA_s, ownK_s, ownK_n, ownK_m, own1K_s, own1K_n, fldK_s, sApp_e, appK_s, sOSub_e, osubK_s, eOIx_e, oixK_s, eOLen_e, olenK_s, ixN_p, Int.reduceToNat, Nat.reduceLT, oS_e, eSl_e, eSlT_e, kSet_e, kSet2_e, kDrop_e, kIf_t, kIf_f, kOwn_e, kApp_e, kOsub1_e, kOsub2_e, osK_s, kOix_e, ixK_s, kFor_e, kUnp_e, unpK_s, kOp1_e, kOp2_e, kUn_e, kC1_e, kC2_e, kA1_e, kA2_e, kFN_e, kCall_e, kMake_e, kCM_e, kMeth_e, kLst_e, lstK_s, kTup_e, tupK_s, kNl_e, nlK_s, nList_e, kNli_e, nliK_s, lOf_l, lOf_t, kNc1_e, kNc2_e, kLc1_e, kLc2_e, kSeq_e, kTpl_e, kEIf_t, kEIf_f, kEAnd_t, kEAnd_f, kEOr_t, kEOr_f, kENot_e, kB_e, kBAnd_t, kBAnd_f, kBOr_t, kBOr_f, kBNot_e, kOS_e, kSl1_e, kSl2_e, kSl3_e, kSt1_e, kSt2_e, kSt3_e, eMeth_e, kMe_e, lc_c, kL1_e, kL2_e, kT_t, kT_f, Int.cast_ofNat_Int, Int.natCast_zero, Int.natCast_one, lRng1_e, kRng_1, kRng_2, kRng_3, kRng_4, kRng_5, kRng_6, List.length_map, arS_0, sEr_e, sTryAs_e, tryK_nx, tryK_rt, tryK_er, afterO_rt, afterO_nx, eXf_e, xfS_s, xfK_s, plain_n, plain_e, List.all_cons, List.all_nil, eq_self, sTryN_e, tryN_nx, tryN_rt, tryN_h, tryN_t, dflI_e, dflF_e, not_false_eq_true, eMethK_e, kMK_e, kMK2_e, eProp_e, kPr_e, eNotO_e, kNotO_e, notK_s, eSlA_e, kSA1_e, kSA2_e, kSA3_l, kSA3_t, eGetO_e, kGet1_e, kGet2_e, getK_s, gF_Chart___eq__, mR_Chart___eq__, is_, ↓ns]
  | n, .fk m a b, .lf j, _, _, _, G => by
    have is_ : fIsi TB [.d (.ins "Chart" [.non, fl j, .non, .non]), .d (.cls "Chart")] G = some (.d (.bl true), G) := by kernel_rfl
    have sn : ∀ h : F2, alt2 (alt2 (fEq) (fEqO NT_Film "Film" (arN 2) g_Film___eq__)) h (.d (.str m)) (.d .non) G = some (.d (.bl false), G) := fun _ => rfl
    unfold Tr.C Tr.eqB
    simp -implicitDefEqProofs only [bind_ok, bind_er, bindN_ok, ofE_ok, ofE_er, seqO_nx, seqO_rt, seqO_er, seqO_bk, seqO_ct, loopO_nx, loopO_ct, loopO_bk, loopO_rt, loopO_er, lift_s, retO_rt, retO_nx, retO_er, mkO_ok, mkO_er, toOpt_ok, eVar_z, eVar_s, oL_z, oL_s, frz_z, frz_s, wipe_n, wipe_c, datas_n, datas_c, map_s, bind_s, setA_n, setA_c, p2_d, p1_d, pN_d, fEq_i, fEq_s, fEq_b, fEq_ii, fNe_i, fNe_s, fNe_b, fSub_i, fAdd_i, fAnd_i, fOr_i, fXor_i, fLt_i, fLe_i, fGt_i, fGe_i, fIs_d, fIsNot_d, fIsB_b, isB_b, tru_b, tru_i, tru_l, tru_t, orE_s, orE_n, alt2_e, alt1_e, altN_e, fIx_l, fIx_t, at_0, at_1, at_2, at_3, at_4, at_5, for_n, for_c, lc_n, len_lst, len_tup, kfn_c, kix_c, sSeq_e, sNil_e, sSet_e, sSet2_e, sRet_e, sRetN_e, sDrop_e, sIf_e, sBk_e, sCt_e, sFrz_e, sOwn_e, sFor_e, sUnp_e, eC_e, eOp_e, eUn_e, aNil_e, aCons_e, aApp_e, eFN_e, eCall_e, eMake_e, eCMeth_e, eCallO_e, eLst_e, eTup_e, nLst_e, nLc_e, eLc_e, lSeq_e, lTup_e, eIf_e, eAnd_e, eOr_e, eNot_e, bOf_e, bAnd_e, bOr_e, bNot_e, eFld_e, runB_e, env0_e, oN_e, List.set_cons_zero, List.set_cons_succ, List.map_cons, List.map_nil, List.cons_append, List.nil_append, List.replicate_succ, List.replicate_zero, List.length_cons, List.length_nil, List.getElem?_cons_zero, List.getElem?_cons_succ, reduceIte, if_true, if_false, Bool.false_eq_true, arN_t, decide_true, decide_false, isNon, Bool.not_true, Bool.not_false, Bool.true_and, Bool.false_and, Bool.and_true, Bool.and_false, bYes_e, lstMax_e, Nat.reduceAdd, Nat.reduceSub, Nat.reduceLeDiff, Int.reduceLT, Int.reduceLE, Int.reduceEq, String.reduceEq, and_self, decide_eq_true_eq, and_true, true_and, cPos_e, cDiv_e, fMod_i, fDiv_i, Int.reduceMod, Int.reduceDiv, Int.reduceSub, Int.reduceAdd, Int.reducePow, kOf_i, fsOf_i, fOwn_k, fOwn1_k, gFld_k, methO_e, methK_s, methA_s, ownK_s, ownK_n, ownK_m, own1K_s, own1K_n, fldK_s, sApp_e, appK_s, sOSub_e, osubK_s, eOIx_e, oixK_s, eOLen_e, olenK_s, ixN_p, Int.reduceToNat, Nat.reduceLT, oS_e, eSl_e, eSlT_e, kSet_e, kSet2_e, kDrop_e, kIf_t, kIf_f, kOwn_e, kApp_e, kOsub1_e, kOsub2_e, osK_s, kOix_e, ixK_s, kFor_e, kUnp_e, unpK_s, kOp1_e, kOp2_e, kUn_e, kC1_e, kC2_e, kA1_e, kA2_e, kFN_e, kCall_e, kMake_e, kCM_e, kMeth_e, kLst_e, lstK_s, kTup_e, tupK_s, kNl_e, nlK_s, nList_e, kNli_e, nliK_s, lOf_l, lOf_t, kNc1_e, kNc2_e, kLc1_e, kLc2_e, kSeq_e, kTpl_e, kEIf_t, kEIf_f, kEAnd_t, kEAnd_f, kEOr_t, kEOr_f, kENot_e, kB_e, kBAnd_t, kBAnd_f, kBOr_t, kBOr_f, kBNot_e, kOS_e, kSl1_e, kSl2_e, kSl3_e, kSt1_e, kSt2_e, kSt3_e, eMeth_e, kMe_e, lc_c, kL1_e, kL2_e, kT_t, kT_f, Int.cast_ofNat_Int, Int.natCast_zero, Int.natCast_one, lRng1_e, kRng_1, kRng_2, kRng_3, kRng_4, kRng_5, kRng_6, List.length_map, arS_0, sEr_e, sTryAs_e, tryK_nx, tryK_rt, tryK_er, afterO_rt, afterO_nx, eXf_e, xfS_s, xfK_s, plain_n, plain_e, List.all_cons, List.all_nil, eq_self, sTryN_e, tryN_nx, tryN_rt, tryN_h, tryN_t, dflI_e, dflF_e, not_false_eq_true, eMethK_e, kMK_e, kMK2_e, eProp_e, kPr_e, eNotO_e, kNotO_e, notK_s, eSlA_e, kSA1_e, kSA2_e, kSA3_l, kSA3_t, eGetO_e, kGet1_e, kGet2_e, getK_s, gF_Chart___eq__, mR_Chart___eq__, is_, ↓sn]
  | 0, .fk m a b, .fk m' a' b', h, _, _, G => absurd h (by show ¬ max a.dep b.dep + 1 ≤ 0; omega)
  | n + 1, .fk m a b, .fk m' a' b', h, hx, hy, G => by
    obtain ⟨da, db⟩ := dep_a h
    have ea := chart_eq n a a' da hx.1 hy.1 G
    have eb := chart_eq n b b' db hx.2 hy.2 G
    obtain ⟨f1, g1⟩ := C_ins a
    obtain ⟨f2, g2⟩ := C_ins a'
    obtain ⟨f3, g3⟩ := C_ins b
    obtain ⟨f4, g4⟩ := C_ins b'
    have oa := chart_op NT_Chart _ (gF_Chart___eq__ (n + 1)) a.C a'.C _ _ g1 g2 (f_no a a') in_chart ea
    have ob := chart_op NT_Chart _ (gF_Chart___eq__ (n + 1)) b.C b'.C _ _ g3 g4 (f_no b b') in_chart eb
    have is_ : fIsi TB [.d (.ins "Chart" [.str m', .non, a'.C, b'.C]), .d (.cls "Chart")] G = some (.d (.bl true), G) := by kernel_rfl
    have nn : ∀ h : F2, alt2 (alt2 (fEq) (fEqO NT_Film "Film" (arN 2) g_Film___eq__)) h (.d .non) (.d .non) G = some (.d (.bl true), G) := fun _ => rfl
    have ss : ∀ h : F2, alt2 (alt2 (fEq) (fEqO NT_Film "Film" (arN 2) g_Film___eq__)) h (.d (.str m)) (.d (.str m')) G = some (.d (.bl (decide (m = m'))), G) := fun _ => rfl
    show runB 2 (mR_Chart___eq__ (gF_Chart___eq__ (n + 1))) [.d (.ins "Chart" [.str m, .non, a.C, b.C]), .d (.ins "Chart" [.str m', .non, a'.C, b'.C])] G = .ok (.d (.bl (decide (m = m') && (a.eqB a' && b.eqB b')))) G
    cases h1 : decide (m = m') <;> rw [h1] at ss <;> cases h2 : a.eqB a' <;> rw [h2] at oa <;> cases h3 : b.eqB b' <;> rw [h3] at ob <;> simp -implicitDefEqProofs only [bind_ok, bind_er, bindN_ok, ofE_ok, ofE_er, seqO_nx, seqO_rt, seqO_er, seqO_bk, seqO_ct, loopO_nx, loopO_ct, loopO_bk, loopO_rt, loopO_er, lift_s, retO_rt, retO_nx, retO_er, mkO_ok, mkO_er, toOpt_ok, eVar_z, eVar_s, oL_z, oL_s, frz_z, frz_s, wipe_n, wipe_c, datas_n, datas_c, map_s, bind_s, setA_n, setA_c, p2_d, p1_d, pN_d, fEq_i, fEq_s, fEq_b, fEq_ii, fNe_i, fNe_s, fNe_b, fSub_i, fAdd_i, fAnd_i, fOr_i, fXor_i, fLt_i, fLe_i, fGt_i, fGe_i, fIs_d, fIsNot_d, fIsB_b, isB_b, tru_b, tru_i, tru_l, tru_t, orE_s, orE_n, alt2_e, alt1_e, altN_e, fIx_l, fIx_t, at_0, at_1, at_2, at_3, at_4, at_5, for_n, for_c, lc_n, len_lst, len_tup, kfn_c, kix_c, sSeq_e, sNil_e, sSet_e, sSet2_e, sRet_e, sRetN_e, sDrop_e, sIf_e, sBk_e, sCt_e, sFrz_e, sOwn_e, sFor_e, sUnp_e, eC_e, eOp_e, eUn_e, aNil_e, aCons_e, aApp_e, eFN_e, eCall_e, eMake_e, eCMeth_e, eCallO_e, eLst_e, eTup_e, nLst_e, nLc_e, eLc_e, lSeq_e, lTup_e, eIf_e, eAnd_e, eOr_e, eNot_e, bOf_e, bAnd_e, bOr_e, bNot_e, eFld_e, runB_e, env0_e, oN_e, List.set_cons_zero, List.set_cons_succ, List.map_cons, List.map_nil, List.cons_append, List.nil_append, List.replicate_succ, List.replicate_zero, List.length_cons, List.length_nil, List.getElem?_cons_zero, List.getElem?_cons_succ, reduceIte, if_true, if_false, Bool.false_eq_true, arN_t, decide_true, decide_false, isNon, Bool.not_true, Bool.not_false, Bool.true_and, Bool.false_and, Bool.and_true, Bool.and_false, bYes_e, lstMax_e, Nat.reduceAdd, Nat.reduceSub, Nat.reduceLeDiff, Int.reduceLT, Int.reduceLE, Int.reduceEq, String.reduceEq, and_self, decide_eq_true_eq, and_true, true_and, cPos_e, cDiv_e, fMod_i, fDiv_i, Int.reduceMod, Int.reduceDiv, Int.reduceSub, Int.reduceAdd, Int.reducePow, kOf_i, fsOf_i, fOwn_k, fOwn1_k, gFld_k, methO_e, methK_s, methA_s, ownK_s, ownK_n, ownK_m, own1K_s, own1K_n, fldK_s, sApp_e, appK_s, sOSub_e, osubK_s, eOIx_e, oixK_s, eOLen_e, olenK_s, ixN_p, Int.reduceToNat, Nat.reduceLT, oS_e, eSl_e, eSlT_e, kSet_e, kSet2_e, kDrop_e, kIf_t, kIf_f, kOwn_e, kApp_e, kOsub1_e, kOsub2_e, osK_s, kOix_e, ixK_s, kFor_e, kUnp_e, unpK_s, kOp1_e, kOp2_e, kUn_e, kC1_e, kC2_e, kA1_e, kA2_e, kFN_e, kCall_e, kMake_e, kCM_e, kMeth_e, kLst_e, lstK_s, kTup_e, tupK_s, kNl_e, nlK_s, nList_e, kNli_e, nliK_s, lOf_l, lOf_t, kNc1_e, kNc2_e, kLc1_e, kLc2_e, kSeq_e, kTpl_e, kEIf_t, kEIf_f, kEAnd_t, kEAnd_f, kEOr_t, kEOr_f, kENot_e, kB_e, kBAnd_t, kBAnd_f, kBOr_t, kBOr_f, kBNot_e, kOS_e, kSl1_e, kSl2_e, kSl3_e, kSt1_e, kSt2_e, kSt3_e, eMeth_e, kMe_e, lc_c, kL1_e, kL2_e, kT_t, kT_f, Int.cast_ofNat_Int, Int.natCast_zero, Int.natCast_one, lRng1_e, kRng_1, kRng_2, kRng_3, kRng_4, kRng_5, kRng_6, List.length_map, arS_0, sEr_e, sTryAs_e, tryK_nx, tryK_rt, tryK_er, afterO_rt, afterO_nx, eXf_e, xfS_s, xfK_s, plain_n, plain_e, List.all_cons, List.all_nil, eq_self, sTryN_e, tryN_nx, tryN_rt, tryN_h, tryN_t, dflI_e, dflF_e, not_false_eq_true, eMethK_e, kMK_e, kMK2_e, eProp_e, kPr_e, eNotO_e, kNotO_e, notK_s, eSlA_e, kSA1_e, kSA2_e, kSA3_l, kSA3_t, eGetO_e, kGet1_e, kGet2_e, getK_s, mR_Chart___eq__, is_, ↓nn, ↓ss, ↓oa, ↓ob]
end
end K29
set_option Elab.async false
set_option linter.all false
set_option maxRecDepth 100000
set_option maxHeartbeats 4000000
namespace K29
open PySem DL
/-! ### == of the law's trees -/
def Tr.Y : Tr → Prop
  | .lf _ => True
  | .fk m a b => Ly m ∧ a.Y ∧ b.Y
def Tr.py : Tr → PyData
  | .lf i => .tuple [.none, .int (i : Nat)]
  | .fk m a b => .tuple [.str m, a.py, b.py]
theorem toPy_t : ∀ t : Tr, toPy t.D = some t.py
  | .lf i => rfl
  | .fk m a b => by
    show (((some (PyData.str m)).bind fun x => ((toPy a.D).bind fun y => ((toPy b.D).bind fun z => (some []).map (z :: ·)).map (y :: ·)).map (x :: ·)).map PyData.tuple) = _
    rw [toPy_t a, toPy_t b]
    rfl
theorem lay_t : ∀ t : Tr, t.Y → t.py.canLay0 = true
  | .lf i, _ => rfl
  | .fk m a b, h => by
    show (PyData.canLay0 (.str m) && (a.py.canLay0 && (b.py.canLay0 && true))) = true
    rw [show PyData.canLay0 (.str m) = true from h.1, lay_t a h.2.1, lay_t b h.2.2]
    rfl
theorem dep_t : ∀ t : Tr, t.py.depth ≤ t.dep + 1
  | .lf i => Nat.le_refl 1
  | .fk m a b => by
    have ha := dep_t a
    have hb := dep_t b
    show max 0 (max a.py.depth (max b.py.depth 0)) + 1 ≤ max a.dep b.dep + 1 + 1
    omega
theorem eqv_t : ∀ x y : Tr, PyData.eqv x.py y.py = x.eqB y
  | .lf i, .lf j => by
    show (true && (((i : Int) == (j : Int)) && true)) = decide (i = j)
    rw [Bool.true_and, Bool.and_true, Bool.eq_iff_iff]
    simp
    omega
  | .lf i, .fk m a b => rfl
  | .fk m a b, .lf j => rfl
  | .fk m a b, .fk m' a' b' => by
    show ((m == m') && (PyData.eqv a.py a'.py && (PyData.eqv b.py b'.py && true))) = (decide (m = m') && (a.eqB a' && b.eqB b'))
    rw [eqv_t a a', eqv_t b b', Bool.and_true]
    congr 1
theorem gEq_t (x y : Tr) (hx : x.Y) (hy : y.Y) (dx : x.dep ≤ 20) (dy : y.dep ≤ 20) : gEq x.D y.D = some (x.eqB y) := by
  have e : gEq x.D y.D = match toPy x.D, toPy y.D with
    | some p, some q => if (SeqAt.shaped p && SeqAt.shaped q) = true then some (PyData.eqv p q) else none
    | _, _ => none := by
    cases x <;> cases y <;> rfl
  have s : ∀ t : Tr, t.Y → t.dep ≤ 20 → SeqAt.shaped t.py = true := fun t h d => by
    show (t.py.canLay0 && decide (t.py.depth ≤ 64)) = true
    have := dep_t t
    rw [lay_t t h, decide_eq_true (show t.py.depth ≤ 64 by omega)]
    rfl
  rw [e, toPy_t, toPy_t]
  show (if (SeqAt.shaped x.py && SeqAt.shaped y.py) = true then some (PyData.eqv x.py y.py) else none) = _
  rw [s x hx dx, s y hy dy, eqv_t]
  rfl
theorem fEq_t {x y : Tr} (hx : x.Y) (hy : y.Y) (dx : x.dep ≤ 20) (dy : y.dep ≤ 20) (G : GS) : fEq (.d x.D) (.d y.D) G = some (.d (.bl (x.eqB y)), G) := by
  show Option.map _ ((gEq x.D y.D).map DL.D.bl) = _
  rw [gEq_t x y hx hy dx dy]
  rfl
theorem fNe_t {x y : Tr} (hx : x.Y) (hy : y.Y) (dx : x.dep ≤ 20) (dy : y.dep ≤ 20) (G : GS) : fNe (.d x.D) (.d y.D) G = some (.d (.bl (!x.eqB y)), G) := by
  show Option.map _ ((gEq x.D y.D).map fun k => DL.D.bl (!k)) = _
  rw [gEq_t x y hx hy dx dy]
  rfl
theorem nam_ly {m : Str} (h : Nam m) : Ly m := by
  show m.cps.all (· < 0x110000) = true
  rw [← Array.all_toList, List.all_eq_true]
  intro d hd
  have := h.low d hd
  exact decide_eq_true (by omega)
theorem N_Y : ∀ t : Tr, t.N → t.Y
  | .lf _, _ => trivial
  | .fk _ a b, h => ⟨nam_ly h.1, N_Y a h.2.1, N_Y b h.2.2⟩
/-! ### plainness -/
def leT (m s : Str) : Bool := !decide (s.cps.toList < m.cps.toList)
def abv : Option Str → Str → Bool
  | some s, m => leT m s
  | none, _ => false
def plT : Option Str → Tr → Bool
  | _, .lf _ => true
  | ab, .fk m a b => !abv ab m && (!a.eqB b && (plT (some m) a && plT (some m) b))
def abD : Option Str → DL.D
  | some s => .str s
  | none => .non
theorem leS_ok (m s : Str) (G : GS) : fLeS (.d (.str m)) (.d (.str s)) G = some (.d (.bl (leT m s)), G) := rfl
noncomputable section
theorem plain_ok : ∀ (n : Nat) (ab : Option Str) (t : Tr), t.dep ≤ n → n ≤ 7 → t.L → ∀ G : GS, gF__is_plain_behind (n + 1) [.d (abD ab), .d t.C] G = .ok (.d (.bl (plT ab t))) G
  | n, ab, .lf i, _, _, _, G => by
    unfold Tr.C plT
    have n0 : fIs (.d .non) (.d .non) G = some (.d (.bl true), G) := rfl
    simp -implicitDefEqProofs only [bind_ok, bind_er, bindN_ok, ofE_ok, ofE_er, seqO_nx, seqO_rt, seqO_er, seqO_bk, seqO_ct, loopO_nx, loopO_ct, loopO_bk, loopO_rt, loopO_er, lift_s, retO_rt, retO_nx, retO_er, mkO_ok, mkO_er, toOpt_ok, eVar_z, eVar_s, oL_z, oL_s, frz_z, frz_s, wipe_n, wipe_c, datas_n, datas_c, map_s, bind_s, setA_n, setA_c, p2_d, p1_d, pN_d, fEq_i, fEq_s, fEq_b, fEq_ii, fNe_i, fNe_s, fNe_b, fSub_i, fAdd_i, fAnd_i, fOr_i, fXor_i, fLt_i, fLe_i, fGt_i, fGe_i, fIs_d, fIsNot_d, fIsB_b, isB_b, tru_b, tru_i, tru_l, tru_t, orE_s, orE_n, alt2_e, alt1_e, altN_e, fIx_l, fIx_t, at_0, at_1, at_2, at_3, at_4, at_5, for_n, for_c, lc_n, len_lst, len_tup, kfn_c, kix_c, sSeq_e, sNil_e, sSet_e, sSet2_e, sRet_e, sRetN_e, sDrop_e, sIf_e, sBk_e, sCt_e, sFrz_e, sOwn_e, sFor_e, sUnp_e, eC_e, eOp_e, eUn_e, aNil_e, aCons_e, aApp_e, eFN_e, eCall_e, eMake_e, eCMeth_e, eCallO_e, eLst_e, eTup_e, nLst_e, nLc_e, eLc_e, lSeq_e, lTup_e, eIf_e, eAnd_e, eOr_e, eNot_e, bOf_e, bAnd_e, bOr_e, bNot_e, eFld_e, runB_e, env0_e, oN_e, List.set_cons_zero, List.set_cons_succ, List.map_cons, List.map_nil, List.cons_append, List.nil_append, List.replicate_succ, List.replicate_zero, List.length_cons, List.length_nil, List.getElem?_cons_zero, List.getElem?_cons_succ, reduceIte, if_true, if_false, Bool.false_eq_true, arN_t, decide_true, decide_false, isNon, Bool.not_true, Bool.not_false, Bool.true_and, Bool.false_and, Bool.and_true, Bool.and_false, bYes_e, lstMax_e, Nat.reduceAdd, Nat.reduceSub, Nat.reduceLeDiff, Int.reduceLT, Int.reduceLE, Int.reduceEq, String.reduceEq, and_self, decide_eq_true_eq, and_true, true_and, cPos_e, cDiv_e, fMod_i, fDiv_i, Int.reduceMod, Int.reduceDiv, Int.reduceSub, Int.reduceAdd, Int.reducePow, kOf_i, fsOf_i, fOwn_k, fOwn1_k, gFld_k, methO_e, methK_s, methA_s, ownK_s, ownK_n, ownK_m, own1K_s, own1K_n, fldK_s, sApp_e, appK_s, sOSub_e, osubK_s, eOIx_e, oixK_s, eOLen_e, olenK_s, ixN_p, Int.reduceToNat, Nat.reduceLT, oS_e, eSl_e, eSlT_e, kSet_e, kSet2_e, kDrop_e, kIf_t, kIf_f, kOwn_e, kApp_e, kOsub1_e, kOsub2_e, osK_s, kOix_e, ixK_s, kFor_e, kUnp_e, unpK_s, kOp1_e, kOp2_e, kUn_e, kC1_e, kC2_e, kA1_e, kA2_e, kFN_e, kCall_e, kMake_e, kCM_e, kMeth_e, kLst_e, lstK_s, kTup_e, tupK_s, kNl_e, nlK_s, nList_e, kNli_e, nliK_s, lOf_l, lOf_t, kNc1_e, kNc2_e, kLc1_e, kLc2_e, kSeq_e, kTpl_e, kEIf_t, kEIf_f, kEAnd_t, kEAnd_f, kEOr_t, kEOr_f, kENot_e, kB_e, kBAnd_t, kBAnd_f, kBOr_t, kBOr_f, kBNot_e, kOS_e, kSl1_e, kSl2_e, kSl3_e, kSt1_e, kSt2_e, kSt3_e, eMeth_e, kMe_e, lc_c, kL1_e, kL2_e, kT_t, kT_f, Int.cast_ofNat_Int, Int.natCast_zero, Int.natCast_one, lRng1_e, kRng_1, kRng_2, kRng_3, kRng_4, kRng_5, kRng_6, List.length_map, arS_0, sEr_e, sTryAs_e, tryK_nx, tryK_rt, tryK_er, afterO_rt, afterO_nx, eXf_e, xfS_s, xfK_s, plain_n, plain_e, List.all_cons, List.all_nil, eq_self, sTryN_e, tryN_nx, tryN_rt, tryN_h, tryN_t, dflI_e, dflF_e, not_false_eq_true, eMethK_e, kMK_e, kMK2_e, eProp_e, kPr_e, eNotO_e, kNotO_e, notK_s, eSlA_e, kSA1_e, kSA2_e, kSA3_l, kSA3_t, eGetO_e, kGet1_e, kGet2_e, getK_s, gF__is_plain_behind, mR__is_plain_behind, n0]
  | 0, ab, .fk m a b, h, _, _, G => absurd h (by show ¬ max a.dep b.dep + 1 ≤ 0; omega)
  | n + 1, ab, .fk m a b, h, hn, hl, G => by
    obtain ⟨da, db⟩ := dep_a h
    have ea := plain_ok n (some m) a da (by omega) hl.1 G
    have eb := plain_ok n (some m) b db (by omega) hl.2 G
    have q : g_Chart___eq__ [.d a.C, .d b.C] G = .ok (.d (.bl (a.eqB b))) G := chart_eq 7 a b (by omega) hl.1 hl.2 G
    obtain ⟨f1, g1⟩ := C_ins a
    obtain ⟨f2, g2⟩ := C_ins b
    have oa := chart_op NT_Chart (fEq) g_Chart___eq__ a.C b.C _ _ g1 g2 (f_no1 a b) in_chart q
    have n0 : fIs (.d (.str m)) (.d .non) G = some (.d (.bl false), G) := rfl
    have a0 : abD (some m) = .str m := rfl
    rw [a0] at ea eb
    show runB 2 (mR__is_plain_behind (gF__is_plain_behind (n + 1))) [.d (abD ab), .d (.ins "Chart" [.str m, .non, a.C, b.C])] G = .ok (.d (.bl (!abv ab m && (!a.eqB b && (plT (some m) a && plT (some m) b))))) G
    cases ab with
    | none =>
      have n1 : fIsNot (.d .non) (.d .non) G = some (.d (.bl false), G) := rfl
      unfold abD abv
      cases h1 : a.eqB b <;> rw [h1] at oa <;> cases h2 : plT (some m) a <;> rw [h2] at ea <;> cases h3 : plT (some m) b <;> rw [h3] at eb <;> simp -implicitDefEqProofs only [bind_ok, bind_er, bindN_ok, ofE_ok, ofE_er, seqO_nx, seqO_rt, seqO_er, seqO_bk, seqO_ct, loopO_nx, loopO_ct, loopO_bk, loopO_rt, loopO_er, lift_s, retO_rt, retO_nx, retO_er, mkO_ok, mkO_er, toOpt_ok, eVar_z, eVar_s, oL_z, oL_s, frz_z, frz_s, wipe_n, wipe_c, datas_n, datas_c, map_s, bind_s, setA_n, setA_c, p2_d, p1_d, pN_d, fEq_i, fEq_s, fEq_b, fEq_ii, fNe_i, fNe_s, fNe_b, fSub_i, fAdd_i, fAnd_i, fOr_i, fXor_i, fLt_i, fLe_i, fGt_i, fGe_i, fIs_d, fIsNot_d, fIsB_b, isB_b, tru_b, tru_i, tru_l, tru_t, orE_s, orE_n, alt2_e, alt1_e, altN_e, fIx_l, fIx_t, at_0, at_1, at_2, at_3, at_4, at_5, for_n, for_c, lc_n, len_lst, len_tup, kfn_c, kix_c, sSeq_e, sNil_e, sSet_e, sSet2_e, sRet_e, sRetN_e, sDrop_e, sIf_e, sBk_e, sCt_e, sFrz_e, sOwn_e, sFor_e, sUnp_e, eC_e, eOp_e, eUn_e, aNil_e, aCons_e, aApp_e, eFN_e, eCall_e, eMake_e, eCMeth_e, eCallO_e, eLst_e, eTup_e, nLst_e, nLc_e, eLc_e, lSeq_e, lTup_e, eIf_e, eAnd_e, eOr_e, eNot_e, bOf_e, bAnd_e, bOr_e, bNot_e, eFld_e, runB_e, env0_e, oN_e, List.set_cons_zero, List.set_cons_succ, List.map_cons, List.map_nil, List.cons_append, List.nil_append, List.replicate_succ, List.replicate_zero, List.length_cons, List.length_nil, List.getElem?_cons_zero, List.getElem?_cons_succ, reduceIte, if_true, if_false, Bool.false_eq_true, arN_t, decide_true, decide_false, isNon, Bool.not_true, Bool.not_false, Bool.true_and, Bool.false_and, Bool.and_true, Bool.and_false, bYes_e, lstMax_e, Nat.reduceAdd, Nat.reduceSub, Nat.reduceLeDiff, Int.reduceLT, Int.reduceLE, Int.reduceEq, String.reduceEq, and_self, decide_eq_true_eq, and_true, true_and, cPos_e, cDiv_e, fMod_i, fDiv_i, Int.reduceMod, Int.reduceDiv, Int.reduceSub, Int.reduceAdd, Int.reducePow, kOf_i, fsOf_i, fOwn_k, fOwn1_k, gFld_k, methO_e, methK_s, methA_s, ownK_s, ownK_n, ownK_m, own1K_s, own1K_n, fldK_s, sApp_e, appK_s, sOSub_e, osubK_s, eOIx_e, oixK_s, eOLen_e, olenK_s, ixN_p, Int.reduceToNat, Nat.reduceLT, oS_e, eSl_e, eSlT_e, kSet_e, kSet2_e, kDrop_e, kIf_t, kIf_f, kOwn_e, kApp_e, kOsub1_e, kOsub2_e, osK_s, kOix_e, ixK_s, kFor_e, kUnp_e, unpK_s, kOp1_e, kOp2_e, kUn_e, kC1_e, kC2_e, kA1_e, kA2_e, kFN_e, kCall_e, kMake_e, kCM_e, kMeth_e, kLst_e, lstK_s, kTup_e, tupK_s, kNl_e, nlK_s, nList_e, kNli_e, nliK_s, lOf_l, lOf_t, kNc1_e, kNc2_e, kLc1_e, kLc2_e, kSeq_e, kTpl_e, kEIf_t, kEIf_f, kEAnd_t, kEAnd_f, kEOr_t, kEOr_f, kENot_e, kB_e, kBAnd_t, kBAnd_f, kBOr_t, kBOr_f, kBNot_e, kOS_e, kSl1_e, kSl2_e, kSl3_e, kSt1_e, kSt2_e, kSt3_e, eMeth_e, kMe_e, lc_c, kL1_e, kL2_e, kT_t, kT_f, Int.cast_ofNat_Int, Int.natCast_zero, Int.natCast_one, lRng1_e, kRng_1, kRng_2, kRng_3, kRng_4, kRng_5, kRng_6, List.length_map, arS_0, sEr_e, sTryAs_e, tryK_nx, tryK_rt, tryK_er, afterO_rt, afterO_nx, eXf_e, xfS_s, xfK_s, plain_n, plain_e, List.all_cons, List.all_nil, eq_self, sTryN_e, tryN_nx, tryN_rt, tryN_h, tryN_t, dflI_e, dflF_e, not_false_eq_true, eMethK_e, kMK_e, kMK2_e, eProp_e, kPr_e, eNotO_e, kNotO_e, notK_s, eSlA_e, kSA1_e, kSA2_e, kSA3_l, kSA3_t, eGetO_e, kGet1_e, kGet2_e, getK_s, mR__is_plain_behind, n0, n1, ↓oa, ea, eb]
    | some s =>
      have n1 : fIsNot (.d (.str s)) (.d .non) G = some (.d (.bl true), G) := rfl
      have l := leS_ok m s G
      unfold abD abv
      cases h0 : leT m s <;> rw [h0] at l <;> cases h1 : a.eqB b <;> rw [h1] at oa <;> cases h2 : plT (some m) a <;> rw [h2] at ea <;> cases h3 : plT (some m) b <;> rw [h3] at eb <;> simp -implicitDefEqProofs only [bind_ok, bind_er, bindN_ok, ofE_ok, ofE_er, seqO_nx, seqO_rt, seqO_er, seqO_bk, seqO_ct, loopO_nx, loopO_ct, loopO_bk, loopO_rt, loopO_er, lift_s, retO_rt, retO_nx, retO_er, mkO_ok, mkO_er, toOpt_ok, eVar_z, eVar_s, oL_z, oL_s, frz_z, frz_s, wipe_n, wipe_c, datas_n, datas_c, map_s, bind_s, setA_n, setA_c, p2_d, p1_d, pN_d, fEq_i, fEq_s, fEq_b, fEq_ii, fNe_i, fNe_s, fNe_b, fSub_i, fAdd_i, fAnd_i, fOr_i, fXor_i, fLt_i, fLe_i, fGt_i, fGe_i, fIs_d, fIsNot_d, fIsB_b, isB_b, tru_b, tru_i, tru_l, tru_t, orE_s, orE_n, alt2_e, alt1_e, altN_e, fIx_l, fIx_t, at_0, at_1, at_2, at_3, at_4, at_5, for_n, for_c, lc_n, len_lst, len_tup, kfn_c, kix_c, sSeq_e, sNil_e, sSet_e, sSet2_e, sRet_e, sRetN_e, sDrop_e, sIf_e, sBk_e, sCt_e, sFrz_e, sOwn_e, sFor_e, sUnp_e, eC_e, eOp_e, eUn_e, aNil_e, aCons_e, aApp_e, eFN_e, eCall_e, eMake_e, eCMeth_e, eCallO_e, eLst_e, eTup_e, nLst_e, nLc_e, eLc_e, lSeq_e, lTup_e, eIf_e, eAnd_e, eOr_e, eNot_e, bOf_e, bAnd_e, bOr_e, bNot_e, eFld_e, runB_e, env0_e, oN_e, List.set_cons_zero, List.set_cons_succ, List.map_cons, List.map_nil, List.cons_append, List.nil_append, List.replicate_succ, List.replicate_zero, List.length_cons, List.length_nil, List.getElem?_cons_zero, List.getElem?_cons_succ, reduceIte, if_true, if_false, Bool.false_eq_true, arN_t, decide_true, decide_false, isNon, Bool.not_true, Bool.not_false, Bool.true_and, Bool.false_and, Bool.and_true, Bool.and_false, bYes_e, lstMax_e, Nat.reduceAdd, Nat.reduceSub, Nat.reduceLeDiff, Int.reduceLT, Int.reduceLE, Int.reduceEq, String.reduceEq, and_self, decide_eq_true_eq, and_true, true_and, cPos_e, cDiv_e, fMod_i, fDiv_i, Int.reduceMod, Int.reduceDiv, Int.reduceSub, Int.reduceAdd, Int.reducePow, kOf_i, fsOf_i, fOwn_k, fOwn1_k, gFld_k, methO_e, methK_s, methA_s, ownK_s, ownK_n, ownK_m, own1K_s, own1K_n, fldK_s, sApp_e, appK_s, sOSub_e, osubK_s, eOIx_e, oixK_s, eOLen_e, olenK_s, ixN_p, Int.reduceToNat, Nat.reduceLT, oS_e, eSl_e, eSlT_e, kSet_e, kSet2_e, kDrop_e, kIf_t, kIf_f, kOwn_e, kApp_e, kOsub1_e, kOsub2_e, osK_s, kOix_e, ixK_s, kFor_e, kUnp_e, unpK_s, kOp1_e, kOp2_e, kUn_e, kC1_e, kC2_e, kA1_e, kA2_e, kFN_e, kCall_e, kMake_e, kCM_e, kMeth_e, kLst_e, lstK_s, kTup_e, tupK_s, kNl_e, nlK_s, nList_e, kNli_e, nliK_s, lOf_l, lOf_t, kNc1_e, kNc2_e, kLc1_e, kLc2_e, kSeq_e, kTpl_e, kEIf_t, kEIf_f, kEAnd_t, kEAnd_f, kEOr_t, kEOr_f, kENot_e, kB_e, kBAnd_t, kBAnd_f, kBOr_t, kBOr_f, kBNot_e, kOS_e, kSl1_e, kSl2_e, kSl3_e, kSt1_e, kSt2_e, kSt3_e, eMeth_e, kMe_e, lc_c, kL1_e, kL2_e, kT_t, kT_f, Int.cast_ofNat_Int, Int.natCast_zero, Int.natCast_one, lRng1_e, kRng_1, kRng_2, kRng_3, kRng_4, kRng_5, kRng_6, List.length_map, arS_0, sEr_e, sTryAs_e, tryK_nx, tryK_rt, tryK_er, afterO_rt, afterO_nx, eXf_e, xfS_s, xfK_s, plain_n, plain_e, List.all_cons, List.all_nil, eq_self, sTryN_e, tryN_nx, tryN_rt, tryN_h, tryN_t, dflI_e, dflF_e, not_false_eq_true, eMethK_e, kMK_e, kMK2_e, eProp_e, kPr_e, eNotO_e, kNotO_e, notK_s, eSlA_e, kSA1_e, kSA2_e, kSA3_l, kSA3_t, eGetO_e, kGet1_e, kGet2_e, getK_s, mR__is_plain_behind, n0, n1, l, ↓oa, ea, eb, h0]
theorem lplain_ok : ∀ (n : Nat) (s : Str) (t : Tr), t.dep ≤ n → n ≤ 19 → t.Y → ∀ G : GS, gF__law_plain (n + 1) [.d t.D, .d (.str s)] G = .ok (.d (.bl (plT (some s) t))) G
  | n, s, .lf i, _, _, _, G => by
    unfold Tr.D plT
    have n0 : fIs (.d .non) (.d .non) G = some (.d (.bl true), G) := rfl
    simp -implicitDefEqProofs only [bind_ok, bind_er, bindN_ok, ofE_ok, ofE_er, seqO_nx, seqO_rt, seqO_er, seqO_bk, seqO_ct, loopO_nx, loopO_ct, loopO_bk, loopO_rt, loopO_er, lift_s, retO_rt, retO_nx, retO_er, mkO_ok, mkO_er, toOpt_ok, eVar_z, eVar_s, oL_z, oL_s, frz_z, frz_s, wipe_n, wipe_c, datas_n, datas_c, map_s, bind_s, setA_n, setA_c, p2_d, p1_d, pN_d, fEq_i, fEq_s, fEq_b, fEq_ii, fNe_i, fNe_s, fNe_b, fSub_i, fAdd_i, fAnd_i, fOr_i, fXor_i, fLt_i, fLe_i, fGt_i, fGe_i, fIs_d, fIsNot_d, fIsB_b, isB_b, tru_b, tru_i, tru_l, tru_t, orE_s, orE_n, alt2_e, alt1_e, altN_e, fIx_l, fIx_t, at_0, at_1, at_2, at_3, at_4, at_5, for_n, for_c, lc_n, len_lst, len_tup, kfn_c, kix_c, sSeq_e, sNil_e, sSet_e, sSet2_e, sRet_e, sRetN_e, sDrop_e, sIf_e, sBk_e, sCt_e, sFrz_e, sOwn_e, sFor_e, sUnp_e, eC_e, eOp_e, eUn_e, aNil_e, aCons_e, aApp_e, eFN_e, eCall_e, eMake_e, eCMeth_e, eCallO_e, eLst_e, eTup_e, nLst_e, nLc_e, eLc_e, lSeq_e, lTup_e, eIf_e, eAnd_e, eOr_e, eNot_e, bOf_e, bAnd_e, bOr_e, bNot_e, eFld_e, runB_e, env0_e, oN_e, List.set_cons_zero, List.set_cons_succ, List.map_cons, List.map_nil, List.cons_append, List.nil_append, List.replicate_succ, List.replicate_zero, List.length_cons, List.length_nil, List.getElem?_cons_zero, List.getElem?_cons_succ, reduceIte, if_true, if_false, Bool.false_eq_true, arN_t, decide_true, decide_false, isNon, Bool.not_true, Bool.not_false, Bool.true_and, Bool.false_and, Bool.and_true, Bool.and_false, bYes_e, lstMax_e, Nat.reduceAdd, Nat.reduceSub, Nat.reduceLeDiff, Int.reduceLT, Int.reduceLE, Int.reduceEq, String.reduceEq, and_self, decide_eq_true_eq, and_true, true_and, cPos_e, cDiv_e, fMod_i, fDiv_i, Int.reduceMod, Int.reduceDiv, Int.reduceSub, Int.reduceAdd, Int.reducePow, kOf_i, fsOf_i, fOwn_k, fOwn1_k, gFld_k, methO_e, methK_s, methA_s, ownK_s, ownK_n, ownK_m, own1K_s, own1K_n, fldK_s, sApp_e, appK_s, sOSub_e, osubK_s, eOIx_e, oixK_s, eOLen_e, olenK_s, ixN_p, Int.reduceToNat, Nat.reduceLT, oS_e, eSl_e, eSlT_e, kSet_e, kSet2_e, kDrop_e, kIf_t, kIf_f, kOwn_e, kApp_e, kOsub1_e, kOsub2_e, osK_s, kOix_e, ixK_s, kFor_e, kUnp_e, unpK_s, kOp1_e, kOp2_e, kUn_e, kC1_e, kC2_e, kA1_e, kA2_e, kFN_e, kCall_e, kMake_e, kCM_e, kMeth_e, kLst_e, lstK_s, kTup_e, tupK_s, kNl_e, nlK_s, nList_e, kNli_e, nliK_s, lOf_l, lOf_t, kNc1_e, kNc2_e, kLc1_e, kLc2_e, kSeq_e, kTpl_e, kEIf_t, kEIf_f, kEAnd_t, kEAnd_f, kEOr_t, kEOr_f, kENot_e, kB_e, kBAnd_t, kBAnd_f, kBOr_t, kBOr_f, kBNot_e, kOS_e, kSl1_e, kSl2_e, kSl3_e, kSt1_e, kSt2_e, kSt3_e, eMeth_e, kMe_e, lc_c, kL1_e, kL2_e, kT_t, kT_f, Int.cast_ofNat_Int, Int.natCast_zero, Int.natCast_one, lRng1_e, kRng_1, kRng_2, kRng_3, kRng_4, kRng_5, kRng_6, List.length_map, arS_0, sEr_e, sTryAs_e, tryK_nx, tryK_rt, tryK_er, afterO_rt, afterO_nx, eXf_e, xfS_s, xfK_s, plain_n, plain_e, List.all_cons, List.all_nil, eq_self, sTryN_e, tryN_nx, tryN_rt, tryN_h, tryN_t, dflI_e, dflF_e, not_false_eq_true, eMethK_e, kMK_e, kMK2_e, eProp_e, kPr_e, eNotO_e, kNotO_e, notK_s, eSlA_e, kSA1_e, kSA2_e, kSA3_l, kSA3_t, eGetO_e, kGet1_e, kGet2_e, getK_s, gF__law_plain, mR__law_plain, n0]
  | 0, s, .fk m a b, h, _, _, G => absurd h (by show ¬ max a.dep b.dep + 1 ≤ 0; omega)
  | n + 1, s, .fk m a b, h, hn, hl, G => by
    obtain ⟨da, db⟩ := dep_a h
    have ea := lplain_ok n m a da (by omega) hl.2.1 G
    have eb := lplain_ok n m b db (by omega) hl.2.2 G
    have oa := fEq_t hl.2.1 hl.2.2 (by omega) (by omega) G
    have n0 : fIs (.d (.str m)) (.d .non) G = some (.d (.bl false), G) := rfl
    have l := leS_ok m s G
    show runB 2 (mR__law_plain (gF__law_plain (n + 1))) [.d (.tup [.str m, a.D, b.D]), .d (.str s)] G = .ok (.d (.bl (!leT m s && (!a.eqB b && (plT (some m) a && plT (some m) b))))) G
    cases h0 : leT m s <;> rw [h0] at l <;> cases h1 : a.eqB b <;> rw [h1] at oa <;> cases h2 : plT (some m) a <;> rw [h2] at ea <;> cases h3 : plT (some m) b <;> rw [h3] at eb <;> simp -implicitDefEqProofs only [bind_ok, bind_er, bindN_ok, ofE_ok, ofE_er, seqO_nx, seqO_rt, seqO_er, seqO_bk, seqO_ct, loopO_nx, loopO_ct, loopO_bk, loopO_rt, loopO_er, lift_s, retO_rt, retO_nx, retO_er, mkO_ok, mkO_er, toOpt_ok, eVar_z, eVar_s, oL_z, oL_s, frz_z, frz_s, wipe_n, wipe_c, datas_n, datas_c, map_s, bind_s, setA_n, setA_c, p2_d, p1_d, pN_d, fEq_i, fEq_s, fEq_b, fEq_ii, fNe_i, fNe_s, fNe_b, fSub_i, fAdd_i, fAnd_i, fOr_i, fXor_i, fLt_i, fLe_i, fGt_i, fGe_i, fIs_d, fIsNot_d, fIsB_b, isB_b, tru_b, tru_i, tru_l, tru_t, orE_s, orE_n, alt2_e, alt1_e, altN_e, fIx_l, fIx_t, at_0, at_1, at_2, at_3, at_4, at_5, for_n, for_c, lc_n, len_lst, len_tup, kfn_c, kix_c, sSeq_e, sNil_e, sSet_e, sSet2_e, sRet_e, sRetN_e, sDrop_e, sIf_e, sBk_e, sCt_e, sFrz_e, sOwn_e, sFor_e, sUnp_e, eC_e, eOp_e, eUn_e, aNil_e, aCons_e, aApp_e, eFN_e, eCall_e, eMake_e, eCMeth_e, eCallO_e, eLst_e, eTup_e, nLst_e, nLc_e, eLc_e, lSeq_e, lTup_e, eIf_e, eAnd_e, eOr_e, eNot_e, bOf_e, bAnd_e, bOr_e, bNot_e, eFld_e, runB_e, env0_e, oN_e, List.set_cons_zero, List.set_cons_succ, List.map_cons, List.map_nil, List.cons_append, List.nil_append, List.replicate_succ, List.replicate_zero, List.length_cons, List.length_nil, List.getElem?_cons_zero, List.getElem?_cons_succ, reduceIte, if_true, if_false, Bool.false_eq_true, arN_t, decide_true, decide_false, isNon, Bool.not_true, Bool.not_false, Bool.true_and, Bool.false_and, Bool.and_true, Bool.and_false, bYes_e, lstMax_e, Nat.reduceAdd, Nat.reduceSub, Nat.reduceLeDiff, Int.reduceLT, Int.reduceLE, Int.reduceEq, String.reduceEq, and_self, decide_eq_true_eq, and_true, true_and, cPos_e, cDiv_e, fMod_i, fDiv_i, Int.reduceMod, Int.reduceDiv, Int.reduceSub, Int.reduceAdd, Int.reducePow, kOf_i, fsOf_i, fOwn_k, fOwn1_k, gFld_k, methO_e, methK_s, methA_s, ownK_s, ownK_n, ownK_m, own1K_s, own1K_n, fldK_s, sApp_e, appK_s, sOSub_e, osubK_s, eOIx_e, oixK_s, eOLen_e, olenK_s, ixN_p, Int.reduceToNat, Nat.reduceLT, oS_e, eSl_e, eSlT_e, kSet_e, kSet2_e, kDrop_e, kIf_t, kIf_f, kOwn_e, kApp_e, kOsub1_e, kOsub2_e, osK_s, kOix_e, ixK_s, kFor_e, kUnp_e, unpK_s, kOp1_e, kOp2_e, kUn_e, kC1_e, kC2_e, kA1_e, kA2_e, kFN_e, kCall_e, kMake_e, kCM_e, kMeth_e, kLst_e, lstK_s, kTup_e, tupK_s, kNl_e, nlK_s, nList_e, kNli_e, nliK_s, lOf_l, lOf_t, kNc1_e, kNc2_e, kLc1_e, kLc2_e, kSeq_e, kTpl_e, kEIf_t, kEIf_f, kEAnd_t, kEAnd_f, kEOr_t, kEOr_f, kENot_e, kB_e, kBAnd_t, kBAnd_f, kBOr_t, kBOr_f, kBNot_e, kOS_e, kSl1_e, kSl2_e, kSl3_e, kSt1_e, kSt2_e, kSt3_e, eMeth_e, kMe_e, lc_c, kL1_e, kL2_e, kT_t, kT_f, Int.cast_ofNat_Int, Int.natCast_zero, Int.natCast_one, lRng1_e, kRng_1, kRng_2, kRng_3, kRng_4, kRng_5, kRng_6, List.length_map, arS_0, sEr_e, sTryAs_e, tryK_nx, tryK_rt, tryK_er, afterO_rt, afterO_nx, eXf_e, xfS_s, xfK_s, plain_n, plain_e, List.all_cons, List.all_nil, eq_self, sTryN_e, tryN_nx, tryN_rt, tryN_h, tryN_t, dflI_e, dflF_e, not_false_eq_true, eMethK_e, kMK_e, kMK2_e, eProp_e, kPr_e, eNotO_e, kNotO_e, notK_s, eSlA_e, kSA1_e, kSA2_e, kSA3_l, kSA3_t, eGetO_e, kGet1_e, kGet2_e, getK_s, mR__law_plain, n0, l, oa, ea, eb]
/-! ### charts made of trees -/
theorem fls_ok (env : En) (G : GS) : (eLst (aCons (eCMeth "Film" (arN 1) g_Film_nothing aNil) (aCons (eMeth [("Ink", ((arN 1 : DL.Ar), g_Ink_film)), ("Filter", ((arN 1 : DL.Ar), g_Ink_film)), ("Bleach", ((arN 1 : DL.Ar), g_Ink_film))] (eMake "Filter" (arN 1) (dflI [.str "any"] g_Filter___init__) (aCons (eMake "Light" (arS 0) g_Light___init__ (aCons (eC (.int 0)) (aNil))) (aNil))) aNil) (aCons (eMeth [("Ink", ((arN 1 : DL.Ar), g_Ink_film)), ("Filter", ((arN 1 : DL.Ar), g_Ink_film)), ("Bleach", ((arN 1 : DL.Ar), g_Ink_film))] (eMake "Bleach" (arN 1) (dflI [.str "any"] g_Bleach___init__) (aCons (eMake "Light" (arS 0) g_Light___init__ (aCons (eC (.int 0)) (aCons (eC (.int 5)) (aNil)))) (aNil))) aNil) (aNil))))) env G = .ok (.d (.lst [fl 0, fl 1, fl 2])) G := by kernel_rfl
theorem end_ok (f : DL.D) (G : GS) : g_Chart_end [.d f] G = .ok (.d (.ins "Chart" [.non, f, .non, .non])) G := rfl
theorem fork_ok (m a b : DL.D) (G : GS) : g_Chart_fork [.d m, .d a, .d b] G = .ok (.d (.ins "Chart" [m, .non, a, b])) G := rfl
theorem made_ok : ∀ (n : Nat) (t : Tr), t.dep ≤ n → t.L → ∀ G : GS, gF__law_made (n + 1) [.d t.D] G = .ok (.d t.C) G
  | n, .lf i, _, hi, G => by
    have n0 : fIs (.d .non) (.d .non) G = some (.d (.bl true), G) := rfl
    have hi : i < 3 := hi
    have a : L2.atI [fl 0, fl 1, fl 2] (i : Int) = some (fl i) := by
      have i3 : i = 0 ∨ i = 1 ∨ i = 2 := by omega
      rcases i3 with rfl | rfl | rfl <;> rfl
    have f := fun env => fls_ok env G
    unfold Tr.D Tr.C
    simp -implicitDefEqProofs only [bind_ok, bind_er, bindN_ok, ofE_ok, ofE_er, seqO_nx, seqO_rt, seqO_er, seqO_bk, seqO_ct, loopO_nx, loopO_ct, loopO_bk, loopO_rt, loopO_er, lift_s, retO_rt, retO_nx, retO_er, mkO_ok, mkO_er, toOpt_ok, eVar_z, eVar_s, oL_z, oL_s, frz_z, frz_s, wipe_n, wipe_c, datas_n, datas_c, map_s, bind_s, setA_n, setA_c, p2_d, p1_d, pN_d, fEq_i, fEq_s, fEq_b, fEq_ii, fNe_i, fNe_s, fNe_b, fSub_i, fAdd_i, fAnd_i, fOr_i, fXor_i, fLt_i, fLe_i, fGt_i, fGe_i, fIs_d, fIsNot_d, fIsB_b, isB_b, tru_b, tru_i, tru_l, tru_t, orE_s, orE_n, alt2_e, alt1_e, altN_e, fIx_l, fIx_t, at_0, at_1, at_2, at_3, at_4, at_5, for_n, for_c, lc_n, len_lst, len_tup, kfn_c, kix_c, sSeq_e, sNil_e, sSet_e, sSet2_e, sRet_e, sRetN_e, sDrop_e, sIf_e, sBk_e, sCt_e, sFrz_e, sOwn_e, sFor_e, sUnp_e, eC_e, eOp_e, eUn_e, aNil_e, aCons_e, aApp_e, eFN_e, eCall_e, eMake_e, eCMeth_e, eCallO_e, eLst_e, eTup_e, nLst_e, nLc_e, eLc_e, lSeq_e, lTup_e, eIf_e, eAnd_e, eOr_e, eNot_e, bOf_e, bAnd_e, bOr_e, bNot_e, eFld_e, runB_e, env0_e, oN_e, List.set_cons_zero, List.set_cons_succ, List.map_cons, List.map_nil, List.cons_append, List.nil_append, List.replicate_succ, List.replicate_zero, List.length_cons, List.length_nil, List.getElem?_cons_zero, List.getElem?_cons_succ, reduceIte, if_true, if_false, Bool.false_eq_true, arN_t, decide_true, decide_false, isNon, Bool.not_true, Bool.not_false, Bool.true_and, Bool.false_and, Bool.and_true, Bool.and_false, bYes_e, lstMax_e, Nat.reduceAdd, Nat.reduceSub, Nat.reduceLeDiff, Int.reduceLT, Int.reduceLE, Int.reduceEq, String.reduceEq, and_self, decide_eq_true_eq, and_true, true_and, cPos_e, cDiv_e, fMod_i, fDiv_i, Int.reduceMod, Int.reduceDiv, Int.reduceSub, Int.reduceAdd, Int.reducePow, kOf_i, fsOf_i, fOwn_k, fOwn1_k, gFld_k, methO_e, methK_s, methA_s, ownK_s, ownK_n, ownK_m, own1K_s, own1K_n, fldK_s, sApp_e, appK_s, sOSub_e, osubK_s, eOIx_e, oixK_s, eOLen_e, olenK_s, ixN_p, Int.reduceToNat, Nat.reduceLT, oS_e, eSl_e, eSlT_e, kSet_e, kSet2_e, kDrop_e, kIf_t, kIf_f, kOwn_e, kApp_e, kOsub1_e, kOsub2_e, osK_s, kOix_e, ixK_s, kFor_e, kUnp_e, unpK_s, kOp1_e, kOp2_e, kUn_e, kC1_e, kC2_e, kA1_e, kA2_e, kFN_e, kCall_e, kMake_e, kCM_e, kMeth_e, kLst_e, lstK_s, kTup_e, tupK_s, kNl_e, nlK_s, nList_e, kNli_e, nliK_s, lOf_l, lOf_t, kNc1_e, kNc2_e, kLc1_e, kLc2_e, kSeq_e, kTpl_e, kEIf_t, kEIf_f, kEAnd_t, kEAnd_f, kEOr_t, kEOr_f, kENot_e, kB_e, kBAnd_t, kBAnd_f, kBOr_t, kBOr_f, kBNot_e, kOS_e, kSl1_e, kSl2_e, kSl3_e, kSt1_e, kSt2_e, kSt3_e, eMeth_e, kMe_e, lc_c, kL1_e, kL2_e, kT_t, kT_f, Int.cast_ofNat_Int, Int.natCast_zero, Int.natCast_one, lRng1_e, kRng_1, kRng_2, kRng_3, kRng_4, kRng_5, kRng_6, List.length_map, arS_0, sEr_e, sTryAs_e, tryK_nx, tryK_rt, tryK_er, afterO_rt, afterO_nx, eXf_e, xfS_s, xfK_s, plain_n, plain_e, List.all_cons, List.all_nil, eq_self, sTryN_e, tryN_nx, tryN_rt, tryN_h, tryN_t, dflI_e, dflF_e, not_false_eq_true, eMethK_e, kMK_e, kMK2_e, eProp_e, kPr_e, eNotO_e, kNotO_e, notK_s, eSlA_e, kSA1_e, kSA2_e, kSA3_l, kSA3_t, eGetO_e, kGet1_e, kGet2_e, getK_s, gF__law_made, mR__law_made, n0, ↓f, a, end_ok]
  | 0, .fk m a b, h, _, G => absurd h (by show ¬ max a.dep b.dep + 1 ≤ 0; omega)
  | n + 1, .fk m a b, h, hl, G => by
    obtain ⟨da, db⟩ := dep_a h
    have ea := made_ok n a da hl.1 G
    have eb := made_ok n b db hl.2 G
    have n0 : fIs (.d (.str m)) (.d .non) G = some (.d (.bl false), G) := rfl
    show runB 1 (mR__law_made (gF__law_made (n + 1))) [.d (.tup [.str m, a.D, b.D])] G = .ok (.d (.ins "Chart" [.str m, .non, a.C, b.C])) G
    simp -implicitDefEqProofs only [bind_ok, bind_er, bindN_ok, ofE_ok, ofE_er, seqO_nx, seqO_rt, seqO_er, seqO_bk, seqO_ct, loopO_nx, loopO_ct, loopO_bk, loopO_rt, loopO_er, lift_s, retO_rt, retO_nx, retO_er, mkO_ok, mkO_er, toOpt_ok, eVar_z, eVar_s, oL_z, oL_s, frz_z, frz_s, wipe_n, wipe_c, datas_n, datas_c, map_s, bind_s, setA_n, setA_c, p2_d, p1_d, pN_d, fEq_i, fEq_s, fEq_b, fEq_ii, fNe_i, fNe_s, fNe_b, fSub_i, fAdd_i, fAnd_i, fOr_i, fXor_i, fLt_i, fLe_i, fGt_i, fGe_i, fIs_d, fIsNot_d, fIsB_b, isB_b, tru_b, tru_i, tru_l, tru_t, orE_s, orE_n, alt2_e, alt1_e, altN_e, fIx_l, fIx_t, at_0, at_1, at_2, at_3, at_4, at_5, for_n, for_c, lc_n, len_lst, len_tup, kfn_c, kix_c, sSeq_e, sNil_e, sSet_e, sSet2_e, sRet_e, sRetN_e, sDrop_e, sIf_e, sBk_e, sCt_e, sFrz_e, sOwn_e, sFor_e, sUnp_e, eC_e, eOp_e, eUn_e, aNil_e, aCons_e, aApp_e, eFN_e, eCall_e, eMake_e, eCMeth_e, eCallO_e, eLst_e, eTup_e, nLst_e, nLc_e, eLc_e, lSeq_e, lTup_e, eIf_e, eAnd_e, eOr_e, eNot_e, bOf_e, bAnd_e, bOr_e, bNot_e, eFld_e, runB_e, env0_e, oN_e, List.set_cons_zero, List.set_cons_succ, List.map_cons, List.map_nil, List.cons_append, List.nil_append, List.replicate_succ, List.replicate_zero, List.length_cons, List.length_nil, List.getElem?_cons_zero, List.getElem?_cons_succ, reduceIte, if_true, if_false, Bool.false_eq_true, arN_t, decide_true, decide_false, isNon, Bool.not_true, Bool.not_false, Bool.true_and, Bool.false_and, Bool.and_true, Bool.and_false, bYes_e, lstMax_e, Nat.reduceAdd, Nat.reduceSub, Nat.reduceLeDiff, Int.reduceLT, Int.reduceLE, Int.reduceEq, String.reduceEq, and_self, decide_eq_true_eq, and_true, true_and, cPos_e, cDiv_e, fMod_i, fDiv_i, Int.reduceMod, Int.reduceDiv, Int.reduceSub, Int.reduceAdd, Int.reducePow, kOf_i, fsOf_i, fOwn_k, fOwn1_k, gFld_k, methO_e, methK_s, methA_s, ownK_s, ownK_n, ownK_m, own1K_s, own1K_n, fldK_s, sApp_e, appK_s, sOSub_e, osubK_s, eOIx_e, oixK_s, eOLen_e, olenK_s, ixN_p, Int.reduceToNat, Nat.reduceLT, oS_e, eSl_e, eSlT_e, kSet_e, kSet2_e, kDrop_e, kIf_t, kIf_f, kOwn_e, kApp_e, kOsub1_e, kOsub2_e, osK_s, kOix_e, ixK_s, kFor_e, kUnp_e, unpK_s, kOp1_e, kOp2_e, kUn_e, kC1_e, kC2_e, kA1_e, kA2_e, kFN_e, kCall_e, kMake_e, kCM_e, kMeth_e, kLst_e, lstK_s, kTup_e, tupK_s, kNl_e, nlK_s, nList_e, kNli_e, nliK_s, lOf_l, lOf_t, kNc1_e, kNc2_e, kLc1_e, kLc2_e, kSeq_e, kTpl_e, kEIf_t, kEIf_f, kEAnd_t, kEAnd_f, kEOr_t, kEOr_f, kENot_e, kB_e, kBAnd_t, kBAnd_f, kBOr_t, kBOr_f, kBNot_e, kOS_e, kSl1_e, kSl2_e, kSl3_e, kSt1_e, kSt2_e, kSt3_e, eMeth_e, kMe_e, lc_c, kL1_e, kL2_e, kT_t, kT_f, Int.cast_ofNat_Int, Int.natCast_zero, Int.natCast_one, lRng1_e, kRng_1, kRng_2, kRng_3, kRng_4, kRng_5, kRng_6, List.length_map, arS_0, sEr_e, sTryAs_e, tryK_nx, tryK_rt, tryK_er, afterO_rt, afterO_nx, eXf_e, xfS_s, xfK_s, plain_n, plain_e, List.all_cons, List.all_nil, eq_self, sTryN_e, tryN_nx, tryN_rt, tryN_h, tryN_t, dflI_e, dflF_e, not_false_eq_true, eMethK_e, kMK_e, kMK2_e, eProp_e, kPr_e, eNotO_e, kNotO_e, notK_s, eSlA_e, kSA1_e, kSA2_e, kSA3_l, kSA3_t, eGetO_e, kGet1_e, kGet2_e, getK_s, mR__law_made, n0, ea, eb, fork_ok]
end
/-! ### trees drawn -/
theorem tree_gen : ∀ (d n : Nat) (names : List Str) (rs : Bool) (b : Bx), d ≤ n → (∀ x ∈ names, Nam x) → names.length ≤ 9 → ∃ (t : Tr) (b' : Bx), t.L ∧ t.N ∧ t.dep ≤ d ∧ gF__law_tree (n + 1) [.o 1, .d (.lst (names.map .str)), .d (.int (d : Nat)), .d (.bl rs)] (bS b) = .ok (.d t.D) (bS b')
  | 0, n, names, rs, b, _, _, _ => by
    obtain ⟨v, b1, e1, h1⟩ := draw_s b 3 (by decide) (by decide)
    have d0 : decide (((0 : Nat) : Int) = 0) = true := rfl
    exact ⟨.lf v, b1, (show v < 3 by omega), trivial, Nat.le_refl 0, by unfold Tr.D; simp -implicitDefEqProofs only [bind_ok, bind_er, bindN_ok, ofE_ok, ofE_er, seqO_nx, seqO_rt, seqO_er, seqO_bk, seqO_ct, loopO_nx, loopO_ct, loopO_bk, loopO_rt, loopO_er, lift_s, retO_rt, retO_nx, retO_er, mkO_ok, mkO_er, toOpt_ok, eVar_z, eVar_s, oL_z, oL_s, frz_z, frz_s, wipe_n, wipe_c, datas_n, datas_c, map_s, bind_s, setA_n, setA_c, p2_d, p1_d, pN_d, fEq_i, fEq_s, fEq_b, fEq_ii, fNe_i, fNe_s, fNe_b, fSub_i, fAdd_i, fAnd_i, fOr_i, fXor_i, fLt_i, fLe_i, fGt_i, fGe_i, fIs_d, fIsNot_d, fIsB_b, isB_b, tru_b, tru_i, tru_l, tru_t, orE_s, orE_n, alt2_e, alt1_e, altN_e, fIx_l, fIx_t, at_0, at_1, at_2, at_3, at_4, at_5, for_n, for_c, lc_n, len_lst, len_tup, kfn_c, kix_c, sSeq_e, sNil_e, sSet_e, sSet2_e, sRet_e, sRetN_e, sDrop_e, sIf_e, sBk_e, sCt_e, sFrz_e, sOwn_e, sFor_e, sUnp_e, eC_e, eOp_e, eUn_e, aNil_e, aCons_e, aApp_e, eFN_e, eCall_e, eMake_e, eCMeth_e, eCallO_e, eLst_e, eTup_e, nLst_e, nLc_e, eLc_e, lSeq_e, lTup_e, eIf_e, eAnd_e, eOr_e, eNot_e, bOf_e, bAnd_e, bOr_e, bNot_e, eFld_e, runB_e, env0_e, oN_e, List.set_cons_zero, List.set_cons_succ, List.map_cons, List.map_nil, List.cons_append, List.nil_append, List.replicate_succ, List.replicate_zero, List.length_cons, List.length_nil, List.getElem?_cons_zero, List.getElem?_cons_succ, reduceIte, if_true, if_false, Bool.false_eq_true, arN_t, decide_true, decide_false, isNon, Bool.not_true, Bool.not_false, Bool.true_and, Bool.false_and, Bool.and_true, Bool.and_false, bYes_e, lstMax_e, Nat.reduceAdd, Nat.reduceSub, Nat.reduceLeDiff, Int.reduceLT, Int.reduceLE, Int.reduceEq, String.reduceEq, and_self, decide_eq_true_eq, and_true, true_and, cPos_e, cDiv_e, fMod_i, fDiv_i, Int.reduceMod, Int.reduceDiv, Int.reduceSub, Int.reduceAdd, Int.reducePow, kOf_i, fsOf_i, fOwn_k, fOwn1_k, gFld_k, methO_e, methK_s, methA_s, ownK_s, ownK_n, ownK_m, own1K_s, own1K_n, fldK_s, sApp_e, appK_s, sOSub_e, osubK_s, eOIx_e, oixK_s, eOLen_e, olenK_s, ixN_p, Int.reduceToNat, Nat.reduceLT, oS_e, eSl_e, eSlT_e, kSet_e, kSet2_e, kDrop_e, kIf_t, kIf_f, kOwn_e, kApp_e, kOsub1_e, kOsub2_e, osK_s, kOix_e, ixK_s, kFor_e, kUnp_e, unpK_s, kOp1_e, kOp2_e, kUn_e, kC1_e, kC2_e, kA1_e, kA2_e, kFN_e, kCall_e, kMake_e, kCM_e, kMeth_e, kLst_e, lstK_s, kTup_e, tupK_s, kNl_e, nlK_s, nList_e, kNli_e, nliK_s, lOf_l, lOf_t, kNc1_e, kNc2_e, kLc1_e, kLc2_e, kSeq_e, kTpl_e, kEIf_t, kEIf_f, kEAnd_t, kEAnd_f, kEOr_t, kEOr_f, kENot_e, kB_e, kBAnd_t, kBAnd_f, kBOr_t, kBOr_f, kBNot_e, kOS_e, kSl1_e, kSl2_e, kSl3_e, kSt1_e, kSt2_e, kSt3_e, eMeth_e, kMe_e, lc_c, kL1_e, kL2_e, kT_t, kT_f, Int.cast_ofNat_Int, Int.natCast_zero, Int.natCast_one, lRng1_e, kRng_1, kRng_2, kRng_3, kRng_4, kRng_5, kRng_6, List.length_map, arS_0, sEr_e, sTryAs_e, tryK_nx, tryK_rt, tryK_er, afterO_rt, afterO_nx, eXf_e, xfS_s, xfK_s, plain_n, plain_e, List.all_cons, List.all_nil, eq_self, sTryN_e, tryN_nx, tryN_rt, tryN_h, tryN_t, dflI_e, dflF_e, not_false_eq_true, eMethK_e, kMK_e, kMK2_e, eProp_e, kPr_e, eNotO_e, kNotO_e, notK_s, eSlA_e, kSA1_e, kSA2_e, kSA3_l, kSA3_t, eGetO_e, kGet1_e, kGet2_e, getK_s, gF__law_tree, mR__law_tree, d0, e1]⟩
  | d + 1, 0, names, rs, b, h, _, _ => absurd h (by omega)
  | d + 1, n + 1, names, rs, b, h, hn, hl => by
    have d0 : decide (((d + 1 : Nat) : Int) = 0) = false := decide_eq_false (by omega)
    by_cases z : names.length = 0
    · obtain ⟨v, b1, e1, h1⟩ := draw_s b 3 (by decide) (by decide)
      have d1 : decide ((names.length : Int) = 0) = true := decide_eq_true (by omega)
      exact ⟨.lf v, b1, (show v < 3 by omega), trivial, Nat.zero_le _, by unfold Tr.D; simp -implicitDefEqProofs only [bind_ok, bind_er, bindN_ok, ofE_ok, ofE_er, seqO_nx, seqO_rt, seqO_er, seqO_bk, seqO_ct, loopO_nx, loopO_ct, loopO_bk, loopO_rt, loopO_er, lift_s, retO_rt, retO_nx, retO_er, mkO_ok, mkO_er, toOpt_ok, eVar_z, eVar_s, oL_z, oL_s, frz_z, frz_s, wipe_n, wipe_c, datas_n, datas_c, map_s, bind_s, setA_n, setA_c, p2_d, p1_d, pN_d, fEq_i, fEq_s, fEq_b, fEq_ii, fNe_i, fNe_s, fNe_b, fSub_i, fAdd_i, fAnd_i, fOr_i, fXor_i, fLt_i, fLe_i, fGt_i, fGe_i, fIs_d, fIsNot_d, fIsB_b, isB_b, tru_b, tru_i, tru_l, tru_t, orE_s, orE_n, alt2_e, alt1_e, altN_e, fIx_l, fIx_t, at_0, at_1, at_2, at_3, at_4, at_5, for_n, for_c, lc_n, len_lst, len_tup, kfn_c, kix_c, sSeq_e, sNil_e, sSet_e, sSet2_e, sRet_e, sRetN_e, sDrop_e, sIf_e, sBk_e, sCt_e, sFrz_e, sOwn_e, sFor_e, sUnp_e, eC_e, eOp_e, eUn_e, aNil_e, aCons_e, aApp_e, eFN_e, eCall_e, eMake_e, eCMeth_e, eCallO_e, eLst_e, eTup_e, nLst_e, nLc_e, eLc_e, lSeq_e, lTup_e, eIf_e, eAnd_e, eOr_e, eNot_e, bOf_e, bAnd_e, bOr_e, bNot_e, eFld_e, runB_e, env0_e, oN_e, List.set_cons_zero, List.set_cons_succ, List.map_cons, List.map_nil, List.cons_append, List.nil_append, List.replicate_succ, List.replicate_zero, List.length_cons, List.length_nil, List.getElem?_cons_zero, List.getElem?_cons_succ, reduceIte, if_true, if_false, Bool.false_eq_true, arN_t, decide_true, decide_false, isNon, Bool.not_true, Bool.not_false, Bool.true_and, Bool.false_and, Bool.and_true, Bool.and_false, bYes_e, lstMax_e, Nat.reduceAdd, Nat.reduceSub, Nat.reduceLeDiff, Int.reduceLT, Int.reduceLE, Int.reduceEq, String.reduceEq, and_self, decide_eq_true_eq, and_true, true_and, cPos_e, cDiv_e, fMod_i, fDiv_i, Int.reduceMod, Int.reduceDiv, Int.reduceSub, Int.reduceAdd, Int.reducePow, kOf_i, fsOf_i, fOwn_k, fOwn1_k, gFld_k, methO_e, methK_s, methA_s, ownK_s, ownK_n, ownK_m, own1K_s, own1K_n, fldK_s, sApp_e, appK_s, sOSub_e, osubK_s, eOIx_e, oixK_s, eOLen_e, olenK_s, ixN_p, Int.reduceToNat, Nat.reduceLT, oS_e, eSl_e, eSlT_e, kSet_e, kSet2_e, kDrop_e, kIf_t, kIf_f, kOwn_e, kApp_e, kOsub1_e, kOsub2_e, osK_s, kOix_e, ixK_s, kFor_e, kUnp_e, unpK_s, kOp1_e, kOp2_e, kUn_e, kC1_e, kC2_e, kA1_e, kA2_e, kFN_e, kCall_e, kMake_e, kCM_e, kMeth_e, kLst_e, lstK_s, kTup_e, tupK_s, kNl_e, nlK_s, nList_e, kNli_e, nliK_s, lOf_l, lOf_t, kNc1_e, kNc2_e, kLc1_e, kLc2_e, kSeq_e, kTpl_e, kEIf_t, kEIf_f, kEAnd_t, kEAnd_f, kEOr_t, kEOr_f, kENot_e, kB_e, kBAnd_t, kBAnd_f, kBOr_t, kBOr_f, kBNot_e, kOS_e, kSl1_e, kSl2_e, kSl3_e, kSt1_e, kSt2_e, kSt3_e, eMeth_e, kMe_e, lc_c, kL1_e, kL2_e, kT_t, kT_f, Int.cast_ofNat_Int, Int.natCast_zero, Int.natCast_one, lRng1_e, kRng_1, kRng_2, kRng_3, kRng_4, kRng_5, kRng_6, List.length_map, arS_0, sEr_e, sTryAs_e, tryK_nx, tryK_rt, tryK_er, afterO_rt, afterO_nx, eXf_e, xfS_s, xfK_s, plain_n, plain_e, List.all_cons, List.all_nil, eq_self, sTryN_e, tryN_nx, tryN_rt, tryN_h, tryN_t, dflI_e, dflF_e, not_false_eq_true, eMethK_e, kMK_e, kMK2_e, eProp_e, kPr_e, eNotO_e, kNotO_e, notK_s, eSlA_e, kSA1_e, kSA2_e, kSA3_l, kSA3_t, eGetO_e, kGet1_e, kGet2_e, getK_s, gF__law_tree, mR__law_tree, d0, List.length_map, d1, e1]⟩
    · have d1 : decide ((names.length : Int) = 0) = false := decide_eq_false (by omega)
      obtain ⟨u, b1, e1, h1⟩ := draw_s b 4 (by decide) (by decide)
      by_cases hu : u = 0
      · have d2 : decide ((u : Int) = 0) = true := decide_eq_true (by omega)
        obtain ⟨v, b2, e2, h2⟩ := draw_s b1 3 (by decide) (by decide)
        exact ⟨.lf v, b2, (show v < 3 by omega), trivial, Nat.zero_le _, by unfold Tr.D; simp -implicitDefEqProofs only [bind_ok, bind_er, bindN_ok, ofE_ok, ofE_er, seqO_nx, seqO_rt, seqO_er, seqO_bk, seqO_ct, loopO_nx, loopO_ct, loopO_bk, loopO_rt, loopO_er, lift_s, retO_rt, retO_nx, retO_er, mkO_ok, mkO_er, toOpt_ok, eVar_z, eVar_s, oL_z, oL_s, frz_z, frz_s, wipe_n, wipe_c, datas_n, datas_c, map_s, bind_s, setA_n, setA_c, p2_d, p1_d, pN_d, fEq_i, fEq_s, fEq_b, fEq_ii, fNe_i, fNe_s, fNe_b, fSub_i, fAdd_i, fAnd_i, fOr_i, fXor_i, fLt_i, fLe_i, fGt_i, fGe_i, fIs_d, fIsNot_d, fIsB_b, isB_b, tru_b, tru_i, tru_l, tru_t, orE_s, orE_n, alt2_e, alt1_e, altN_e, fIx_l, fIx_t, at_0, at_1, at_2, at_3, at_4, at_5, for_n, for_c, lc_n, len_lst, len_tup, kfn_c, kix_c, sSeq_e, sNil_e, sSet_e, sSet2_e, sRet_e, sRetN_e, sDrop_e, sIf_e, sBk_e, sCt_e, sFrz_e, sOwn_e, sFor_e, sUnp_e, eC_e, eOp_e, eUn_e, aNil_e, aCons_e, aApp_e, eFN_e, eCall_e, eMake_e, eCMeth_e, eCallO_e, eLst_e, eTup_e, nLst_e, nLc_e, eLc_e, lSeq_e, lTup_e, eIf_e, eAnd_e, eOr_e, eNot_e, bOf_e, bAnd_e, bOr_e, bNot_e, eFld_e, runB_e, env0_e, oN_e, List.set_cons_zero, List.set_cons_succ, List.map_cons, List.map_nil, List.cons_append, List.nil_append, List.replicate_succ, List.replicate_zero, List.length_cons, List.length_nil, List.getElem?_cons_zero, List.getElem?_cons_succ, reduceIte, if_true, if_false, Bool.false_eq_true, arN_t, decide_true, decide_false, isNon, Bool.not_true, Bool.not_false, Bool.true_and, Bool.false_and, Bool.and_true, Bool.and_false, bYes_e, lstMax_e, Nat.reduceAdd, Nat.reduceSub, Nat.reduceLeDiff, Int.reduceLT, Int.reduceLE, Int.reduceEq, String.reduceEq, and_self, decide_eq_true_eq, and_true, true_and, cPos_e, cDiv_e, fMod_i, fDiv_i, Int.reduceMod, Int.reduceDiv, Int.reduceSub, Int.reduceAdd, Int.reducePow, kOf_i, fsOf_i, fOwn_k, fOwn1_k, gFld_k, methO_e, methK_s, methA_s, ownK_s, ownK_n, ownK_m, own1K_s, own1K_n, fldK_s, sApp_e, appK_s, sOSub_e, osubK_s, eOIx_e, oixK_s, eOLen_e, olenK_s, ixN_p, Int.reduceToNat, Nat.reduceLT, oS_e, eSl_e, eSlT_e, kSet_e, kSet2_e, kDrop_e, kIf_t, kIf_f, kOwn_e, kApp_e, kOsub1_e, kOsub2_e, osK_s, kOix_e, ixK_s, kFor_e, kUnp_e, unpK_s, kOp1_e, kOp2_e, kUn_e, kC1_e, kC2_e, kA1_e, kA2_e, kFN_e, kCall_e, kMake_e, kCM_e, kMeth_e, kLst_e, lstK_s, kTup_e, tupK_s, kNl_e, nlK_s, nList_e, kNli_e, nliK_s, lOf_l, lOf_t, kNc1_e, kNc2_e, kLc1_e, kLc2_e, kSeq_e, kTpl_e, kEIf_t, kEIf_f, kEAnd_t, kEAnd_f, kEOr_t, kEOr_f, kENot_e, kB_e, kBAnd_t, kBAnd_f, kBOr_t, kBOr_f, kBNot_e, kOS_e, kSl1_e, kSl2_e, kSl3_e, kSt1_e, kSt2_e, kSt3_e, eMeth_e, kMe_e, lc_c, kL1_e, kL2_e, kT_t, kT_f, Int.cast_ofNat_Int, Int.natCast_zero, Int.natCast_one, lRng1_e, kRng_1, kRng_2, kRng_3, kRng_4, kRng_5, kRng_6, List.length_map, arS_0, sEr_e, sTryAs_e, tryK_nx, tryK_rt, tryK_er, afterO_rt, afterO_nx, eXf_e, xfS_s, xfK_s, plain_n, plain_e, List.all_cons, List.all_nil, eq_self, sTryN_e, tryN_nx, tryN_rt, tryN_h, tryN_t, dflI_e, dflF_e, not_false_eq_true, eMethK_e, kMK_e, kMK2_e, eProp_e, kPr_e, eNotO_e, kNotO_e, notK_s, eSlA_e, kSA1_e, kSA2_e, kSA3_l, kSA3_t, eGetO_e, kGet1_e, kGet2_e, getK_s, gF__law_tree, mR__law_tree, d0, List.length_map, d1, e1, d2, e2]⟩
      · have d2 : decide ((u : Int) = 0) = false := decide_eq_false (by omega)
        obtain ⟨v, b2, e2, h2⟩ := draw_s b1 ((names.length : Nat) : Int) (by omega) (by omega)
        have lt : v < names.length := by omega
        have a : L2.atI (names.map DL.D.str) (v : Int) = some (.str names[v]) := by
          rw [at_n (by rw [List.length_map]; exact lt), List.getElem_map]
        have sb : fSub (.d (.int ((d + 1 : Nat) : Int))) (.d (.int 1)) (bS b2) = some (.d (.int (d : Nat)), bS b2) := by
          show some (EV.d (.int (((d + 1 : Nat) : Int) - 1)), bS b2) = _
          rw [show ((d + 1 : Nat) : Int) - 1 = (d : Nat) by omega]
        have nm : Nam names[v] := hn _ (List.getElem_mem lt)
        have fin : ∀ left : List Str, (∀ x ∈ left, Nam x) → left.length ≤ 9 → ∃ (t1 t2 : Tr) (b3 b4 : Bx), (t1.L ∧ t1.N ∧ t1.dep ≤ d) ∧ (t2.L ∧ t2.N ∧ t2.dep ≤ d) ∧ gF__law_tree (n + 1) [.o 1, .d (.lst (left.map .str)), .d (.int (d : Nat)), .d (.bl rs)] (bS b2) = .ok (.d t1.D) (bS b3) ∧ gF__law_tree (n + 1) [.o 1, .d (.lst (left.map .str)), .d (.int (d : Nat)), .d (.bl rs)] (bS b3) = .ok (.d t2.D) (bS b4) := fun left h1 h2 => by
          obtain ⟨t1, b3, x1, x2, x3, x4⟩ := tree_gen d n left rs b2 (by omega) h1 h2
          obtain ⟨t2, b4, y1, y2, y3, y4⟩ := tree_gen d n left rs b3 (by omega) h1 h2
          exact ⟨t1, t2, b3, b4, ⟨x1, x2, x3⟩, ⟨y1, y2, y3⟩, x4, y4⟩
        cases rs with
        | false =>
          obtain ⟨t1, t2, b3, b4, ⟨x1, x2, x3⟩, ⟨y1, y2, y3⟩, e3, e4⟩ := fin names hn hl
          have sb3 : fSub (.d (.int ((d + 1 : Nat) : Int))) (.d (.int 1)) (bS b3) = some (.d (.int (d : Nat)), bS b3) := by
            show some (EV.d (.int (((d + 1 : Nat) : Int) - 1)), bS b3) = _
            rw [show ((d + 1 : Nat) : Int) - 1 = (d : Nat) by omega]
          refine ⟨.fk names[v] t1 t2, b4, ⟨x1, y1⟩, ⟨nm, x2, y2⟩, (show max t1.dep t2.dep + 1 ≤ d + 1 by omega), ?_⟩
          show runB 7 (mR__law_tree (gF__law_tree (n + 1))) [.o 1, .d (.lst (names.map .str)), .d (.int ((d + 1 : Nat) : Int)), .d (.bl false)] (bS b) = .ok (.d (.tup [.str names[v], t1.D, t2.D])) (bS b4)
          simp -implicitDefEqProofs only [bind_ok, bind_er, bindN_ok, ofE_ok, ofE_er, seqO_nx, seqO_rt, seqO_er, seqO_bk, seqO_ct, loopO_nx, loopO_ct, loopO_bk, loopO_rt, loopO_er, lift_s, retO_rt, retO_nx, retO_er, mkO_ok, mkO_er, toOpt_ok, eVar_z, eVar_s, oL_z, oL_s, frz_z, frz_s, wipe_n, wipe_c, datas_n, datas_c, map_s, bind_s, setA_n, setA_c, p2_d, p1_d, pN_d, fEq_i, fEq_s, fEq_b, fEq_ii, fNe_i, fNe_s, fNe_b, fSub_i, fAdd_i, fAnd_i, fOr_i, fXor_i, fLt_i, fLe_i, fGt_i, fGe_i, fIs_d, fIsNot_d, fIsB_b, isB_b, tru_b, tru_i, tru_l, tru_t, orE_s, orE_n, alt2_e, alt1_e, altN_e, fIx_l, fIx_t, at_0, at_1, at_2, at_3, at_4, at_5, for_n, for_c, lc_n, len_lst, len_tup, kfn_c, kix_c, sSeq_e, sNil_e, sSet_e, sSet2_e, sRet_e, sRetN_e, sDrop_e, sIf_e, sBk_e, sCt_e, sFrz_e, sOwn_e, sFor_e, sUnp_e, eC_e, eOp_e, eUn_e, aNil_e, aCons_e, aApp_e, eFN_e, eCall_e, eMake_e, eCMeth_e, eCallO_e, eLst_e, eTup_e, nLst_e, nLc_e, eLc_e, lSeq_e, lTup_e, eIf_e, eAnd_e, eOr_e, eNot_e, bOf_e, bAnd_e, bOr_e, bNot_e, eFld_e, runB_e, env0_e, oN_e, List.set_cons_zero, List.set_cons_succ, List.map_cons, List.map_nil, List.cons_append, List.nil_append, List.replicate_succ, List.replicate_zero, List.length_cons, List.length_nil, List.getElem?_cons_zero, List.getElem?_cons_succ, reduceIte, if_true, if_false, Bool.false_eq_true, arN_t, decide_true, decide_false, isNon, Bool.not_true, Bool.not_false, Bool.true_and, Bool.false_and, Bool.and_true, Bool.and_false, bYes_e, lstMax_e, Nat.reduceAdd, Nat.reduceSub, Nat.reduceLeDiff, Int.reduceLT, Int.reduceLE, Int.reduceEq, String.reduceEq, and_self, decide_eq_true_eq, and_true, true_and, cPos_e, cDiv_e, fMod_i, fDiv_i, Int.reduceMod, Int.reduceDiv, Int.reduceSub, Int.reduceAdd, Int.reducePow, kOf_i, fsOf_i, fOwn_k, fOwn1_k, gFld_k, methO_e, methK_s, methA_s, ownK_s, ownK_n, ownK_m, own1K_s, own1K_n, fldK_s, sApp_e, appK_s, sOSub_e, osubK_s, eOIx_e, oixK_s, eOLen_e, olenK_s, ixN_p, Int.reduceToNat, Nat.reduceLT, oS_e, eSl_e, eSlT_e, kSet_e, kSet2_e, kDrop_e, kIf_t, kIf_f, kOwn_e, kApp_e, kOsub1_e, kOsub2_e, osK_s, kOix_e, ixK_s, kFor_e, kUnp_e, unpK_s, kOp1_e, kOp2_e, kUn_e, kC1_e, kC2_e, kA1_e, kA2_e, kFN_e, kCall_e, kMake_e, kCM_e, kMeth_e, kLst_e, lstK_s, kTup_e, tupK_s, kNl_e, nlK_s, nList_e, kNli_e, nliK_s, lOf_l, lOf_t, kNc1_e, kNc2_e, kLc1_e, kLc2_e, kSeq_e, kTpl_e, kEIf_t, kEIf_f, kEAnd_t, kEAnd_f, kEOr_t, kEOr_f, kENot_e, kB_e, kBAnd_t, kBAnd_f, kBOr_t, kBOr_f, kBNot_e, kOS_e, kSl1_e, kSl2_e, kSl3_e, kSt1_e, kSt2_e, kSt3_e, eMeth_e, kMe_e, lc_c, kL1_e, kL2_e, kT_t, kT_f, Int.cast_ofNat_Int, Int.natCast_zero, Int.natCast_one, lRng1_e, kRng_1, kRng_2, kRng_3, kRng_4, kRng_5, kRng_6, List.length_map, arS_0, sEr_e, sTryAs_e, tryK_nx, tryK_rt, tryK_er, afterO_rt, afterO_nx, eXf_e, xfS_s, xfK_s, plain_n, plain_e, List.all_cons, List.all_nil, eq_self, sTryN_e, tryN_nx, tryN_rt, tryN_h, tryN_t, dflI_e, dflF_e, not_false_eq_true, eMethK_e, kMK_e, kMK2_e, eProp_e, kPr_e, eNotO_e, kNotO_e, notK_s, eSlA_e, kSA1_e, kSA2_e, kSA3_l, kSA3_t, eGetO_e, kGet1_e, kGet2_e, getK_s, mR__law_tree, d0, List.length_map, d1, e1, d2, e2, a, ↓sb, ↓sb3, e3, e4]
        | true =>
          obtain ⟨t1, t2, b3, b4, ⟨x1, x2, x3⟩, ⟨y1, y2, y3⟩, e3, e4⟩ := fin (cutL names (some ((v : Int) + 1)) none) (fun x hx => hn x (by
            unfold cutL at hx
            exact List.mem_of_mem_drop (List.mem_of_mem_take hx))) (Nat.le_trans (cut_le _ _ _) hl)
          have sb3 : fSub (.d (.int ((d + 1 : Nat) : Int))) (.d (.int 1)) (bS b3) = some (.d (.int (d : Nat)), bS b3) := by
            show some (EV.d (.int (((d + 1 : Nat) : Int) - 1)), bS b3) = _
            rw [show ((d + 1 : Nat) : Int) - 1 = (d : Nat) by omega]
          refine ⟨.fk names[v] t1 t2, b4, ⟨x1, y1⟩, ⟨nm, x2, y2⟩, (show max t1.dep t2.dep + 1 ≤ d + 1 by omega), ?_⟩
          show runB 7 (mR__law_tree (gF__law_tree (n + 1))) [.o 1, .d (.lst (names.map .str)), .d (.int ((d + 1 : Nat) : Int)), .d (.bl true)] (bS b) = .ok (.d (.tup [.str names[v], t1.D, t2.D])) (bS b4)
          simp -implicitDefEqProofs only [bind_ok, bind_er, bindN_ok, ofE_ok, ofE_er, seqO_nx, seqO_rt, seqO_er, seqO_bk, seqO_ct, loopO_nx, loopO_ct, loopO_bk, loopO_rt, loopO_er, lift_s, retO_rt, retO_nx, retO_er, mkO_ok, mkO_er, toOpt_ok, eVar_z, eVar_s, oL_z, oL_s, frz_z, frz_s, wipe_n, wipe_c, datas_n, datas_c, map_s, bind_s, setA_n, setA_c, p2_d, p1_d, pN_d, fEq_i, fEq_s, fEq_b, fEq_ii, fNe_i, fNe_s, fNe_b, fSub_i, fAdd_i, fAnd_i, fOr_i, fXor_i, fLt_i, fLe_i, fGt_i, fGe_i, fIs_d, fIsNot_d, fIsB_b, isB_b, tru_b, tru_i, tru_l, tru_t, orE_s, orE_n, alt2_e, alt1_e, altN_e, fIx_l, fIx_t, at_0, at_1, at_2, at_3, at_4, at_5, for_n, for_c, lc_n, len_lst, len_tup, kfn_c, kix_c, sSeq_e, sNil_e, sSet_e, sSet2_e, sRet_e, sRetN_e, sDrop_e, sIf_e, sBk_e, sCt_e, sFrz_e, sOwn_e, sFor_e, sUnp_e, eC_e, eOp_e, eUn_e, aNil_e, aCons_e, aApp_e, eFN_e, eCall_e, eMake_e, eCMeth_e, eCallO_e, eLst_e, eTup_e, nLst_e, nLc_e, eLc_e, lSeq_e, lTup_e, eIf_e, eAnd_e, eOr_e, eNot_e, bOf_e, bAnd_e, bOr_e, bNot_e, eFld_e, runB_e, env0_e, oN_e, List.set_cons_zero, List.set_cons_succ, List.map_cons, List.map_nil, List.cons_append, List.nil_append, List.replicate_succ, List.replicate_zero, List.length_cons, List.length_nil, List.getElem?_cons_zero, List.getElem?_cons_succ, reduceIte, if_true, if_false, Bool.false_eq_true, arN_t, decide_true, decide_false, isNon, Bool.not_true, Bool.not_false, Bool.true_and, Bool.false_and, Bool.and_true, Bool.and_false, bYes_e, lstMax_e, Nat.reduceAdd, Nat.reduceSub, Nat.reduceLeDiff, Int.reduceLT, Int.reduceLE, Int.reduceEq, String.reduceEq, and_self, decide_eq_true_eq, and_true, true_and, cPos_e, cDiv_e, fMod_i, fDiv_i, Int.reduceMod, Int.reduceDiv, Int.reduceSub, Int.reduceAdd, Int.reducePow, kOf_i, fsOf_i, fOwn_k, fOwn1_k, gFld_k, methO_e, methK_s, methA_s, ownK_s, ownK_n, ownK_m, own1K_s, own1K_n, fldK_s, sApp_e, appK_s, sOSub_e, osubK_s, eOIx_e, oixK_s, eOLen_e, olenK_s, ixN_p, Int.reduceToNat, Nat.reduceLT, oS_e, eSl_e, eSlT_e, kSet_e, kSet2_e, kDrop_e, kIf_t, kIf_f, kOwn_e, kApp_e, kOsub1_e, kOsub2_e, osK_s, kOix_e, ixK_s, kFor_e, kUnp_e, unpK_s, kOp1_e, kOp2_e, kUn_e, kC1_e, kC2_e, kA1_e, kA2_e, kFN_e, kCall_e, kMake_e, kCM_e, kMeth_e, kLst_e, lstK_s, kTup_e, tupK_s, kNl_e, nlK_s, nList_e, kNli_e, nliK_s, lOf_l, lOf_t, kNc1_e, kNc2_e, kLc1_e, kLc2_e, kSeq_e, kTpl_e, kEIf_t, kEIf_f, kEAnd_t, kEAnd_f, kEOr_t, kEOr_f, kENot_e, kB_e, kBAnd_t, kBAnd_f, kBOr_t, kBOr_f, kBNot_e, kOS_e, kSl1_e, kSl2_e, kSl3_e, kSt1_e, kSt2_e, kSt3_e, eMeth_e, kMe_e, lc_c, kL1_e, kL2_e, kT_t, kT_f, Int.cast_ofNat_Int, Int.natCast_zero, Int.natCast_one, lRng1_e, kRng_1, kRng_2, kRng_3, kRng_4, kRng_5, kRng_6, List.length_map, arS_0, sEr_e, sTryAs_e, tryK_nx, tryK_rt, tryK_er, afterO_rt, afterO_nx, eXf_e, xfS_s, xfK_s, plain_n, plain_e, List.all_cons, List.all_nil, eq_self, sTryN_e, tryN_nx, tryN_rt, tryN_h, tryN_t, dflI_e, dflF_e, not_false_eq_true, eMethK_e, kMK_e, kMK2_e, eProp_e, kPr_e, eNotO_e, kNotO_e, notK_s, eSlA_e, kSA1_e, kSA2_e, kSA3_l, kSA3_t, eGetO_e, kGet1_e, kGet2_e, getK_s, mR__law_tree, d0, List.length_map, d1, e1, d2, e2, a, ↓sb, ↓sb3, cut_map, e3, e4]
end K29
set_option Elab.async false
set_option linter.all false
set_option maxRecDepth 100000
set_option maxHeartbeats 4000000
namespace K29
open PySem DL
noncomputable section
theorem eqB_symm : ∀ x y : Tr, x.eqB y = y.eqB x
  | .lf i, .lf j => by
    show decide (i = j) = decide (j = i)
    rw [Bool.eq_iff_iff]
    simp
    omega
  | .lf _, .fk _ _ _ => rfl
  | .fk _ _ _, .lf _ => rfl
  | .fk m a b, .fk m' a' b' => by
    show (decide (m = m') && (a.eqB a' && b.eqB b')) = (decide (m' = m) && (a'.eqB a && b'.eqB b))
    rw [eqB_symm a a', eqB_symm b b', show decide (m = m') = decide (m' = m) from decide_eq_decide.mpr ⟨Eq.symm, Eq.symm⟩]
theorem le_emp {m : Str} (h : Nam m) : leT m "" = false := by
  have l := h.lo
  have e : m.length = m.cps.toList.length := by rw [Array.length_toList]; rfl
  show (!decide (("" : Str).cps.toList < m.cps.toList)) = false
  have z : ("" : Str).cps.toList = [] := rfl
  rw [z]
  cases q : m.cps.toList with
  | nil => rw [e, q] at l; simp at l
  | cons c r =>
    rw [decide_eq_true (show ([] : List Nat) < c :: r from List.nil_lt_cons c r)]
    rfl
theorem pl_none {t : Tr} (h : t.N) : plT none t = plT (some "") t := by
  cases t with
  | lf i => rfl
  | fk m a b =>
    show (!false && (!a.eqB b && (plT (some m) a && plT (some m) b))) = (!leT m "" && (!a.eqB b && (plT (some m) a && plT (some m) b)))
    rw [le_emp h.1]
theorem isp_ok {t : Tr} (hd : t.dep ≤ 7) (hl : t.L) (G : GS) : g_Chart_is_plain [.d t.C] G = .ok (.d (.bl (plT none t))) G := by
  have e : g__is_plain_behind [.d .non, .d t.C] G = .ok (.d (.bl (plT none t))) G := plain_ok 7 none t hd (by omega) hl G
  simp -implicitDefEqProofs only [bind_ok, bind_er, bindN_ok, ofE_ok, ofE_er, seqO_nx, seqO_rt, seqO_er, seqO_bk, seqO_ct, loopO_nx, loopO_ct, loopO_bk, loopO_rt, loopO_er, lift_s, retO_rt, retO_nx, retO_er, mkO_ok, mkO_er, toOpt_ok, eVar_z, eVar_s, oL_z, oL_s, frz_z, frz_s, wipe_n, wipe_c, datas_n, datas_c, map_s, bind_s, setA_n, setA_c, p2_d, p1_d, pN_d, fEq_i, fEq_s, fEq_b, fEq_ii, fNe_i, fNe_s, fNe_b, fSub_i, fAdd_i, fAnd_i, fOr_i, fXor_i, fLt_i, fLe_i, fGt_i, fGe_i, fIs_d, fIsNot_d, fIsB_b, isB_b, tru_b, tru_i, tru_l, tru_t, orE_s, orE_n, alt2_e, alt1_e, altN_e, fIx_l, fIx_t, at_0, at_1, at_2, at_3, at_4, at_5, for_n, for_c, lc_n, len_lst, len_tup, kfn_c, kix_c, sSeq_e, sNil_e, sSet_e, sSet2_e, sRet_e, sRetN_e, sDrop_e, sIf_e, sBk_e, sCt_e, sFrz_e, sOwn_e, sFor_e, sUnp_e, eC_e, eOp_e, eUn_e, aNil_e, aCons_e, aApp_e, eFN_e, eCall_e, eMake_e, eCMeth_e, eCallO_e, eLst_e, eTup_e, nLst_e, nLc_e, eLc_e, lSeq_e, lTup_e, eIf_e, eAnd_e, eOr_e, eNot_e, bOf_e, bAnd_e, bOr_e, bNot_e, eFld_e, runB_e, env0_e, oN_e, List.set_cons_zero, List.set_cons_succ, List.map_cons, List.map_nil, List.cons_append, List.nil_append, List.replicate_succ, List.replicate_zero, List.length_cons, List.length_nil, List.getElem?_cons_zero, List.getElem?_cons_succ, reduceIte, if_true, if_false, Bool.false_eq_true, arN_t, decide_true, decide_false, isNon, Bool.not_true, Bool.not_false, Bool.true_and, Bool.false_and, Bool.and_true, Bool.and_false, bYes_e, lstMax_e, Nat.reduceAdd, Nat.reduceSub, Nat.reduceLeDiff, Int.reduceLT, Int.reduceLE, Int.reduceEq, String.reduceEq, and_self, decide_eq_true_eq, and_true, true_and, cPos_e, cDiv_e, fMod_i, fDiv_i, Int.reduceMod, Int.reduceDiv, Int.reduceSub, Int.reduceAdd, Int.reducePow, kOf_i, fsOf_i, fOwn_k, fOwn1_k, gFld_k, methO_e, methK_s, methA_s, ownK_s, ownK_n, ownK_m, own1K_s, own1K_n, fldK_s, sApp_e, appK_s, sOSub_e, osubK_s, eOIx_e, oixK_s, eOLen_e, olenK_s, ixN_p, Int.reduceToNat, Nat.reduceLT, oS_e, eSl_e, eSlT_e, kSet_e, kSet2_e, kDrop_e, kIf_t, kIf_f, kOwn_e, kApp_e, kOsub1_e, kOsub2_e, osK_s, kOix_e, ixK_s, kFor_e, kUnp_e, unpK_s, kOp1_e, kOp2_e, kUn_e, kC1_e, kC2_e, kA1_e, kA2_e, kFN_e, kCall_e, kMake_e, kCM_e, kMeth_e, kLst_e, lstK_s, kTup_e, tupK_s, kNl_e, nlK_s, nList_e, kNli_e, nliK_s, lOf_l, lOf_t, kNc1_e, kNc2_e, kLc1_e, kLc2_e, kSeq_e, kTpl_e, kEIf_t, kEIf_f, kEAnd_t, kEAnd_f, kEOr_t, kEOr_f, kENot_e, kB_e, kBAnd_t, kBAnd_f, kBOr_t, kBOr_f, kBNot_e, kOS_e, kSl1_e, kSl2_e, kSl3_e, kSt1_e, kSt2_e, kSt3_e, eMeth_e, kMe_e, lc_c, kL1_e, kL2_e, kT_t, kT_f, Int.cast_ofNat_Int, Int.natCast_zero, Int.natCast_one, lRng1_e, kRng_1, kRng_2, kRng_3, kRng_4, kRng_5, kRng_6, List.length_map, arS_0, sEr_e, sTryAs_e, tryK_nx, tryK_rt, tryK_er, afterO_rt, afterO_nx, eXf_e, xfS_s, xfK_s, plain_n, plain_e, List.all_cons, List.all_nil, eq_self, sTryN_e, tryN_nx, tryN_rt, tryN_h, tryN_t, dflI_e, dflF_e, not_false_eq_true, eMethK_e, kMK_e, kMK2_e, eProp_e, kPr_e, eNotO_e, kNotO_e, notK_s, eSlA_e, kSA1_e, kSA2_e, kSA3_l, kSA3_t, eGetO_e, kGet1_e, kGet2_e, getK_s, g_Chart_is_plain, m_Chart_is_plain, e]
theorem law_is_ok (x : Bool) (G : GS) : g__law_is [.d (.bl x), .d (.bl x)] G = .ok (.d (.bl true)) G := by cases x <;> kernel_rfl
theorem nothing_ok (env : En) (G : GS) : eCMeth "Film" (arN 1) g_Film_nothing aNil env G = .ok (.d (fl 0)) G := by kernel_rfl
theorem chart_film (t : Tr) (G : GS) : alt2 (fEq) (fEqO NT_Chart "Chart" (arN 2) g_Chart___eq__) (.d t.C) (.d (fl 0)) G = some (.d (.bl false), G) := by
  have q : ∀ fs : List DL.D, g_Chart___eq__ [.d (.ins "Chart" fs), .d (fl 0)] G = .ok (.d (.bl false)) G := fun fs => by
    have is_ : fIsi TB [.d (fl 0), .d (.cls "Chart")] G = some (.d (.bl false), G) := by kernel_rfl
    show gF_Chart___eq__ 8 [.d (.ins "Chart" fs), .d (fl 0)] G = _
    simp -implicitDefEqProofs only [bind_ok, bind_er, bindN_ok, ofE_ok, ofE_er, seqO_nx, seqO_rt, seqO_er, seqO_bk, seqO_ct, loopO_nx, loopO_ct, loopO_bk, loopO_rt, loopO_er, lift_s, retO_rt, retO_nx, retO_er, mkO_ok, mkO_er, toOpt_ok, eVar_z, eVar_s, oL_z, oL_s, frz_z, frz_s, wipe_n, wipe_c, datas_n, datas_c, map_s, bind_s, setA_n, setA_c, p2_d, p1_d, pN_d, fEq_i, fEq_s, fEq_b, fEq_ii, fNe_i, fNe_s, fNe_b, fSub_i, fAdd_i, fAnd_i, fOr_i, fXor_i, fLt_i, fLe_i, fGt_i, fGe_i, fIs_d, fIsNot_d, fIsB_b, isB_b, tru_b, tru_i, tru_l, tru_t, orE_s, orE_n, alt2_e, alt1_e, altN_e, fIx_l, fIx_t, at_0, at_1, at_2, at_3, at_4, at_5, for_n, for_c, lc_n, len_lst, len_tup, kfn_c, kix_c, sSeq_e, sNil_e, sSet_e, sSet2_e, sRet_e, sRetN_e, sDrop_e, sIf_e, sBk_e, sCt_e, sFrz_e, sOwn_e, sFor_e, sUnp_e, eC_e, eOp_e, eUn_e, aNil_e, aCons_e, aApp_e, eFN_e, eCall_e, eMake_e, eCMeth_e, eCallO_e, eLst_e, eTup_e, nLst_e, nLc_e, eLc_e, lSeq_e, lTup_e, eIf_e, eAnd_e, eOr_e, eNot_e, bOf_e, bAnd_e, bOr_e, bNot_e, eFld_e, runB_e, env0_e, oN_e, List.set_cons_zero, List.set_cons_succ, List.map_cons, List.map_nil, List.cons_append, List.nil_append, List.replicate_succ, List.replicate_zero, List.length_cons, List.length_nil, List.getElem?_cons_zero, List.getElem?_cons_succ, reduceIte, if_true, if_false, Bool.false_eq_true, arN_t, decide_true, decide_false, isNon, Bool.not_true, Bool.not_false, Bool.true_and, Bool.false_and, Bool.and_true, Bool.and_false, bYes_e, lstMax_e, Nat.reduceAdd, Nat.reduceSub, Nat.reduceLeDiff, Int.reduceLT, Int.reduceLE, Int.reduceEq, String.reduceEq, and_self, decide_eq_true_eq, and_true, true_and, cPos_e, cDiv_e, fMod_i, fDiv_i, Int.reduceMod, Int.reduceDiv, Int.reduceSub, Int.reduceAdd, Int.reducePow, kOf_i, fsOf_i, fOwn_k, fOwn1_k, gFld_k, methO_e, methK_s, methA_s, ownK_s, ownK_n, ownK_m, own1K_s, own1K_n, fldK_s, sApp_e, appK_s, sOSub_e, osubK_s, eOIx_e, oixK_s, eOLen_e, olenK_s, ixN_p, Int.reduceToNat, Nat.reduceLT, oS_e, eSl_e, eSlT_e, kSet_e, kSet2_e, kDrop_e, kIf_t, kIf_f, kOwn_e, kApp_e, kOsub1_e, kOsub2_e, osK_s, kOix_e, ixK_s, kFor_e, kUnp_e, unpK_s, kOp1_e, kOp2_e, kUn_e, kC1_e, kC2_e, kA1_e, kA2_e, kFN_e, kCall_e, kMake_e, kCM_e, kMeth_e, kLst_e, lstK_s, kTup_e, tupK_s, kNl_e, nlK_s, nList_e, kNli_e, nliK_s, lOf_l, lOf_t, kNc1_e, kNc2_e, kLc1_e, kLc2_e, kSeq_e, kTpl_e, kEIf_t, kEIf_f, kEAnd_t, kEAnd_f, kEOr_t, kEOr_f, kENot_e, kB_e, kBAnd_t, kBAnd_f, kBOr_t, kBOr_f, kBNot_e, kOS_e, kSl1_e, kSl2_e, kSl3_e, kSt1_e, kSt2_e, kSt3_e, eMeth_e, kMe_e, lc_c, kL1_e, kL2_e, kT_t, kT_f, Int.cast_ofNat_Int, Int.natCast_zero, Int.natCast_one, lRng1_e, kRng_1, kRng_2, kRng_3, kRng_4, kRng_5, kRng_6, List.length_map, arS_0, sEr_e, sTryAs_e, tryK_nx, tryK_rt, tryK_er, afterO_rt, afterO_nx, eXf_e, xfS_s, xfK_s, plain_n, plain_e, List.all_cons, List.all_nil, eq_self, sTryN_e, tryN_nx, tryN_rt, tryN_h, tryN_t, dflI_e, dflF_e, not_false_eq_true, eMethK_e, kMK_e, kMK2_e, eProp_e, kPr_e, eNotO_e, kNotO_e, notK_s, eSlA_e, kSA1_e, kSA2_e, kSA3_l, kSA3_t, eGetO_e, kGet1_e, kGet2_e, getK_s, gF_Chart___eq__, mR_Chart___eq__, ↓is_]
  obtain ⟨fs, e⟩ := C_ins t
  have f : fEq (.d t.C) (.d (fl 0)) G = none := by cases t <;> rfl
  rw [alt2_e, f, orE_n, e]
  show (if "Chart" = "Chart" ∧ arN 2 2 = true ∧ noC (fl 0) = true ∧ tgOf (fl 0) ∈ NT_Chart then resB (toOpt (g_Chart___eq__ [.d (.ins "Chart" fs), .d (fl 0)] G)) else none) = _
  rw [if_pos ⟨rfl, rfl, rfl, by unfold NT_Chart; simp [tgOf, fl, fmD]⟩, q]
  rfl
@[reducible] def lRest : SM := (sSeq (sSet 7 (eCall (arN 1) g__law_made (aCons (eVar 4) (aNil)))) (sSeq (sSet 8 (eCall (arN 1) g__law_made (aCons (eVar 5) (aNil)))) (sSeq (sIf (bOr (bNot (bOf truE (eCall (arN 2) g__law_is (aCons (eOp (alt2 (fEq) (fEqO NT_Chart "Chart" (arN 2) g_Chart___eq__)) (eVar 7) (eVar 8)) (aCons (eOp (alt2 (fEq) (fEqO NT_Chart "Chart" (arN 2) g_Chart___eq__)) (eVar 4) (eVar 5)) (aNil)))))) (bNot (bOf truE (eCall (arN 2) g__law_is (aCons (eOp (alt2 (fEq) (fEqO NT_Chart "Chart" (arN 2) g_Chart___eq__)) (eVar 8) (eVar 7)) (aCons (eOp (alt2 (fEq) (fEqO NT_Chart "Chart" (arN 2) g_Chart___eq__)) (eVar 4) (eVar 5)) (aNil))))))) (sRet (eC (.bl false))) (sNil)) (sSeq (sIf (bOf isB (eOp (fIsNotB) (eOp (alt2 (fEq) (fEqO NT_Chart "Chart" (arN 2) g_Chart___eq__)) (eVar 7) (eCMeth "Film" (arN 1) g_Film_nothing aNil)) (eC (.bl false)))) (sRet (eC (.bl false))) (sNil)) (sSeq (sSet 9 (eLst (aCons (eCall (arN 2) g__law_plain (aCons (eVar 4) (aCons (eC (.str "")) (aNil)))) (aCons (eCall (arN 2) g__law_plain (aCons (eVar 5) (aCons (eC (.str "")) (aNil)))) (aNil))))) (sSeq (sIf (bOr (bNot (bOf truE (eCall (arN 2) g__law_is (aCons (eMeth [("Chart", ((arN 1 : DL.Ar), g_Chart_is_plain))] (eVar 7) aNil) (aCons (eOp fIx (eVar 9) (eC (.int 0))) (aNil)))))) (bNot (bOf truE (eCall (arN 2) g__law_is (aCons (eMeth [("Chart", ((arN 1 : DL.Ar), g_Chart_is_plain))] (eVar 8) aNil) (aCons (eOp fIx (eVar 9) (eC (.int 1))) (aNil))))))) (sRet (eC (.bl false))) (sNil)) (sRet (eCall (arN 2) g__law_is (aCons (eMeth [("Chart", ((arN 1 : DL.Ar), g_Chart_is_plain))] (eCall (arN 3) g_Chart_fork (aCons (eC (.str "")) (aCons (eVar 7) (aCons (eVar 8) (aNil))))) aNil) (aCons (eAnd (eOp (fNe) (eVar 4) (eVar 5)) (eAnd (eOp fIx (eVar 9) (eC (.int 0))) (eOp fIx (eVar 9) (eC (.int 1))))) (aNil)))))))))))
theorem rest_ok {t o : Tr} (tl : t.L) (tn : t.N) (td : t.dep ≤ 5) (ol : o.L) (on : o.N) (od : o.dep ≤ 5) (s0 s1 s2 s3 s6 : Sl) (G : GS) : lRest [s0, s1, s2, s3, .ev (.d t.D), .ev (.d o.D), s6, .no, .no, .no] G = .rt (.d (.bl true)) G := by
  have e7 : g__law_made [.d t.D] G = .ok (.d t.C) G := made_ok 7 t (by omega) tl G
  have e8 : g__law_made [.d o.D] G = .ok (.d o.C) G := made_ok 7 o (by omega) ol G
  have q1 : g_Chart___eq__ [.d t.C, .d o.C] G = .ok (.d (.bl (t.eqB o))) G := chart_eq 7 t o (by omega) tl ol G
  have q2 : g_Chart___eq__ [.d o.C, .d t.C] G = .ok (.d (.bl (t.eqB o))) G := by
    have := chart_eq 7 o t (by omega) ol tl G
    rw [eqB_symm o t] at this
    exact this
  obtain ⟨f1, g1⟩ := C_ins t
  obtain ⟨f2, g2⟩ := C_ins o
  have o1 := chart_op NT_Chart (fEq) g_Chart___eq__ t.C o.C _ _ g1 g2 (f_no1 t o) in_chart q1
  have o2 := chart_op NT_Chart (fEq) g_Chart___eq__ o.C t.C _ _ g2 g1 (f_no1 o t) in_chart q2
  have ft : alt2 (fEq) (fEqO NT_Chart "Chart" (arN 2) g_Chart___eq__) (.d t.D) (.d o.D) G = some (.d (.bl (t.eqB o)), G) := by
    rw [alt2_e, fEq_t (N_Y t tn) (N_Y o on) (by omega) (by omega)]
    rfl
  have nt := fNe_t (N_Y t tn) (N_Y o on) (by omega) (by omega) G
  have cf := chart_film t G
  have nf := fun env => nothing_ok env G
  have l1 : g__law_plain [.d t.D, .d (.str "")] G = .ok (.d (.bl (plT (some "") t))) G := lplain_ok 7 "" t (by omega) (by omega) (N_Y t tn) G
  have l2 : g__law_plain [.d o.D, .d (.str "")] G = .ok (.d (.bl (plT (some "") o))) G := lplain_ok 7 "" o (by omega) (by omega) (N_Y o on) G
  have p1 := isp_ok (t := t) (by omega) tl G
  have p2 := isp_ok (t := o) (by omega) ol G
  rw [pl_none tn] at p1
  rw [pl_none on] at p2
  have fk := fork_ok (.str "") t.C o.C G
  have p3 : g_Chart_is_plain [.d (.ins "Chart" [.str "", .non, t.C, o.C])] G = .ok (.d (.bl (!t.eqB o && (plT (some "") t && plT (some "") o)))) G := isp_ok (t := .fk "" t o) (show max t.dep o.dep + 1 ≤ 7 by omega) ⟨tl, ol⟩ G
  have k1 : kOf (.d t.C) = some "Chart" := by rw [g1]; rfl
  have k2 : kOf (.d o.C) = some "Chart" := by rw [g2]; rfl
  have k3 : kOf (.d (.ins "Chart" [.str "", .non, t.C, o.C])) = some "Chart" := rfl
  have nb : fIsNotB (.d (.bl false)) (.d (.bl false)) G = some (.d (.bl false), G) := rfl
  have is1 := fun x => law_is_ok x G
  cases h1 : t.eqB o <;> rw [h1] at o1 o2 ft nt p3 <;> cases h2 : plT (some "") t <;> rw [h2] at l1 p1 p3 <;> cases h3 : plT (some "") o <;> rw [h3] at l2 p2 p3 <;>
    simp -implicitDefEqProofs only [bind_ok, bind_er, bindN_ok, ofE_ok, ofE_er, seqO_nx, seqO_rt, seqO_er, seqO_bk, seqO_ct, loopO_nx, loopO_ct, loopO_bk, loopO_rt, loopO_er, lift_s, retO_rt, retO_nx, retO_er, mkO_ok, mkO_er, toOpt_ok, eVar_z, eVar_s, oL_z, oL_s, frz_z, frz_s, wipe_n, wipe_c, datas_n, datas_c, map_s, bind_s, setA_n, setA_c, p2_d, p1_d, pN_d, fEq_i, fEq_s, fEq_b, fEq_ii, fNe_i, fNe_s, fNe_b, fSub_i, fAdd_i, fAnd_i, fOr_i, fXor_i, fLt_i, fLe_i, fGt_i, fGe_i, fIs_d, fIsNot_d, fIsB_b, isB_b, tru_b, tru_i, tru_l, tru_t, orE_s, orE_n, alt2_e, alt1_e, altN_e, fIx_l, fIx_t, at_0, at_1, at_2, at_3, at_4, at_5, for_n, for_c, lc_n, len_lst, len_tup, kfn_c, kix_c, sSeq_e, sNil_e, sSet_e, sSet2_e, sRet_e, sRetN_e, sDrop_e, sIf_e, sBk_e, sCt_e, sFrz_e, sOwn_e, sFor_e, sUnp_e, eC_e, eOp_e, eUn_e, aNil_e, aCons_e, aApp_e, eFN_e, eCall_e, eMake_e, eCMeth_e, eCallO_e, eLst_e, eTup_e, nLst_e, nLc_e, eLc_e, lSeq_e, lTup_e, eIf_e, eAnd_e, eOr_e, eNot_e, bOf_e, bAnd_e, bOr_e, bNot_e, eFld_e, runB_e, env0_e, oN_e, List.set_cons_zero, List.set_cons_succ, List.map_cons, List.map_nil, List.cons_append, List.nil_append, List.replicate_succ, List.replicate_zero, List.length_cons, List.length_nil, List.getElem?_cons_zero, List.getElem?_cons_succ, reduceIte, if_true, if_false, Bool.false_eq_true, arN_t, decide_true, decide_false, isNon, Bool.not_true, Bool.not_false, Bool.true_and, Bool.false_and, Bool.and_true, Bool.and_false, bYes_e, lstMax_e, Nat.reduceAdd, Nat.reduceSub, Nat.reduceLeDiff, Int.reduceLT, Int.reduceLE, Int.reduceEq, String.reduceEq, and_self, decide_eq_true_eq, and_true, true_and, cPos_e, cDiv_e, fMod_i, fDiv_i, Int.reduceMod, Int.reduceDiv, Int.reduceSub, Int.reduceAdd, Int.reducePow, kOf_i, fsOf_i, fOwn_k, fOwn1_k, gFld_k, methO_e, methK_s, methA_s, ownK_s, ownK_n, ownK_m, own1K_s, own1K_n, fldK_s, sApp_e, appK_s, sOSub_e, osubK_s, eOIx_e, oixK_s, eOLen_e, olenK_s, ixN_p, Int.reduceToNat, Nat.reduceLT, oS_e, eSl_e, eSlT_e, kSet_e, kSet2_e, kDrop_e, kIf_t, kIf_f, kOwn_e, kApp_e, kOsub1_e, kOsub2_e, osK_s, kOix_e, ixK_s, kFor_e, kUnp_e, unpK_s, kOp1_e, kOp2_e, kUn_e, kC1_e, kC2_e, kA1_e, kA2_e, kFN_e, kCall_e, kMake_e, kCM_e, kMeth_e, kLst_e, lstK_s, kTup_e, tupK_s, kNl_e, nlK_s, nList_e, kNli_e, nliK_s, lOf_l, lOf_t, kNc1_e, kNc2_e, kLc1_e, kLc2_e, kSeq_e, kTpl_e, kEIf_t, kEIf_f, kEAnd_t, kEAnd_f, kEOr_t, kEOr_f, kENot_e, kB_e, kBAnd_t, kBAnd_f, kBOr_t, kBOr_f, kBNot_e, kOS_e, kSl1_e, kSl2_e, kSl3_e, kSt1_e, kSt2_e, kSt3_e, eMeth_e, kMe_e, lc_c, kL1_e, kL2_e, kT_t, kT_f, Int.cast_ofNat_Int, Int.natCast_zero, Int.natCast_one, lRng1_e, kRng_1, kRng_2, kRng_3, kRng_4, kRng_5, kRng_6, List.length_map, arS_0, sEr_e, sTryAs_e, tryK_nx, tryK_rt, tryK_er, afterO_rt, afterO_nx, eXf_e, xfS_s, xfK_s, plain_n, plain_e, List.all_cons, List.all_nil, eq_self, sTryN_e, tryN_nx, tryN_rt, tryN_h, tryN_t, dflI_e, dflF_e, not_false_eq_true, eMethK_e, kMK_e, kMK2_e, eProp_e, kPr_e, eNotO_e, kNotO_e, notK_s, eSlA_e, kSA1_e, kSA2_e, kSA3_l, kSA3_t, eGetO_e, kGet1_e, kGet2_e, getK_s, lRest, e7, e8, ↓o1, ↓o2, ↓ft, ↓nt, ↓cf, ↓nf, l1, l2, p1, p2, p3, fk, k1, k2, k3, nb, is1]
theorem math (ns : List Int) (hns : ns.length ≤ 63) : ∃ G', g_law [scr ns] [] = .ok (.d (.bl true)) G' := by
  have hbox := box_ok ns hns
  have e0 : bS (ns, 0, 1) = bx ns 0 1 := rfl
  obtain ⟨m, b0, e1, hm⟩ := draw_s (ns, 0, 1) 5 (by decide) (by decide)
  rw [e0] at e1
  obtain ⟨names, b1, nl, nn, nd, e2⟩ := names_gen m (by omega) b0
  have so := fSortS_m (l := names) (G := bS b1) (by omega)
  have sn : ∀ x ∈ srtS names, Nam x := fun x hx => nn x ((srtS_perm names).mem_iff.mp hx)
  have sl : (srtS names).length ≤ 9 := by rw [srtS_len]; omega
  obtain ⟨v, b2, e3, hv⟩ := draw_s b1 3 (by decide) (by decide)
  obtain ⟨t, b3, tl, tn, td, e4⟩ := tree_gen 3 7 (srtS names) (decide ((0 : Int) < (v : Int))) b2 (by omega) sn sl
  obtain ⟨u, b4, ul, un, ud, e5⟩ := tree_gen 3 7 (srtS names) (decide ((0 : Int) < (v : Int))) b3 (by omega) sn sl
  change g__law_tree [_, _, .d (.int 3), _] _ = _ at e4 e5
  obtain ⟨w, b5, e6, hw⟩ := draw_s b4 3 (by decide) (by decide)
  have w3 : w = 0 ∨ w = 1 ∨ w = 2 := by omega
  have d00 : decide (((0 : Nat) : Int) = 0) = true := rfl
  have d01 : decide (((0 : Nat) : Int) = 1) = false := rfl
  have d10 : decide (((1 : Nat) : Int) = 0) = false := rfl
  have d11 : decide (((1 : Nat) : Int) = 1) = true := rfl
  have d20 : decide (((2 : Nat) : Int) = 0) = false := rfl
  have d21 : decide (((2 : Nat) : Int) = 1) = false := rfl
  rcases w3 with rfl | rfl | rfl
  · have r := fun s0 s1 s2 s3 s6 => rest_ok tl tn (by omega) tl tn (by omega) s0 s1 s2 s3 s6 (bS b5)
    unfold lRest at r
    exact ⟨bS b5, by simp -implicitDefEqProofs only [bind_ok, bind_er, bindN_ok, ofE_ok, ofE_er, seqO_nx, seqO_rt, seqO_er, seqO_bk, seqO_ct, loopO_nx, loopO_ct, loopO_bk, loopO_rt, loopO_er, lift_s, retO_rt, retO_nx, retO_er, mkO_ok, mkO_er, toOpt_ok, eVar_z, eVar_s, oL_z, oL_s, frz_z, frz_s, wipe_n, wipe_c, datas_n, datas_c, map_s, bind_s, setA_n, setA_c, p2_d, p1_d, pN_d, fEq_i, fEq_s, fEq_b, fEq_ii, fNe_i, fNe_s, fNe_b, fSub_i, fAdd_i, fAnd_i, fOr_i, fXor_i, fLt_i, fLe_i, fGt_i, fGe_i, fIs_d, fIsNot_d, fIsB_b, isB_b, tru_b, tru_i, tru_l, tru_t, orE_s, orE_n, alt2_e, alt1_e, altN_e, fIx_l, fIx_t, at_0, at_1, at_2, at_3, at_4, at_5, for_n, for_c, lc_n, len_lst, len_tup, kfn_c, kix_c, sSeq_e, sNil_e, sSet_e, sSet2_e, sRet_e, sRetN_e, sDrop_e, sIf_e, sBk_e, sCt_e, sFrz_e, sOwn_e, sFor_e, sUnp_e, eC_e, eOp_e, eUn_e, aNil_e, aCons_e, aApp_e, eFN_e, eCall_e, eMake_e, eCMeth_e, eCallO_e, eLst_e, eTup_e, nLst_e, nLc_e, eLc_e, lSeq_e, lTup_e, eIf_e, eAnd_e, eOr_e, eNot_e, bOf_e, bAnd_e, bOr_e, bNot_e, eFld_e, runB_e, env0_e, oN_e, List.set_cons_zero, List.set_cons_succ, List.map_cons, List.map_nil, List.cons_append, List.nil_append, List.replicate_succ, List.replicate_zero, List.length_cons, List.length_nil, List.getElem?_cons_zero, List.getElem?_cons_succ, reduceIte, if_true, if_false, Bool.false_eq_true, arN_t, decide_true, decide_false, isNon, Bool.not_true, Bool.not_false, Bool.true_and, Bool.false_and, Bool.and_true, Bool.and_false, bYes_e, lstMax_e, Nat.reduceAdd, Nat.reduceSub, Nat.reduceLeDiff, Int.reduceLT, Int.reduceLE, Int.reduceEq, String.reduceEq, and_self, decide_eq_true_eq, and_true, true_and, cPos_e, cDiv_e, fMod_i, fDiv_i, Int.reduceMod, Int.reduceDiv, Int.reduceSub, Int.reduceAdd, Int.reducePow, kOf_i, fsOf_i, fOwn_k, fOwn1_k, gFld_k, methO_e, methK_s, methA_s, ownK_s, ownK_n, ownK_m, own1K_s, own1K_n, fldK_s, sApp_e, appK_s, sOSub_e, osubK_s, eOIx_e, oixK_s, eOLen_e, olenK_s, ixN_p, Int.reduceToNat, Nat.reduceLT, oS_e, eSl_e, eSlT_e, kSet_e, kSet2_e, kDrop_e, kIf_t, kIf_f, kOwn_e, kApp_e, kOsub1_e, kOsub2_e, osK_s, kOix_e, ixK_s, kFor_e, kUnp_e, unpK_s, kOp1_e, kOp2_e, kUn_e, kC1_e, kC2_e, kA1_e, kA2_e, kFN_e, kCall_e, kMake_e, kCM_e, kMeth_e, kLst_e, lstK_s, kTup_e, tupK_s, kNl_e, nlK_s, nList_e, kNli_e, nliK_s, lOf_l, lOf_t, kNc1_e, kNc2_e, kLc1_e, kLc2_e, kSeq_e, kTpl_e, kEIf_t, kEIf_f, kEAnd_t, kEAnd_f, kEOr_t, kEOr_f, kENot_e, kB_e, kBAnd_t, kBAnd_f, kBOr_t, kBOr_f, kBNot_e, kOS_e, kSl1_e, kSl2_e, kSl3_e, kSt1_e, kSt2_e, kSt3_e, eMeth_e, kMe_e, lc_c, kL1_e, kL2_e, kT_t, kT_f, Int.cast_ofNat_Int, Int.natCast_zero, Int.natCast_one, lRng1_e, kRng_1, kRng_2, kRng_3, kRng_4, kRng_5, kRng_6, List.length_map, arS_0, sEr_e, sTryAs_e, tryK_nx, tryK_rt, tryK_er, afterO_rt, afterO_nx, eXf_e, xfS_s, xfK_s, plain_n, plain_e, List.all_cons, List.all_nil, eq_self, sTryN_e, tryN_nx, tryN_rt, tryN_h, tryN_t, dflI_e, dflF_e, not_false_eq_true, eMethK_e, kMK_e, kMK2_e, eProp_e, kPr_e, eNotO_e, kNotO_e, notK_s, eSlA_e, kSA1_e, kSA2_e, kSA3_l, kSA3_t, eGetO_e, kGet1_e, kGet2_e, getK_s, g_law, m_law, hbox, e1, e2, so, e3, e4, e5, e6, d00, d01, ↓r]⟩
  · cases t with
    | lf i =>
      have r := fun s0 s1 s2 s3 s6 => rest_ok tl tn (by omega) ul un (by omega) s0 s1 s2 s3 s6 (bS b5)
      have n0 : fIsNot (.d .non) (.d .non) (bS b5) = some (.d (.bl false), bS b5) := rfl
      unfold lRest at r
      unfold Tr.D at e4
      rw [show (Tr.lf i).D = .tup [.non, .int (i : Nat)] from rfl] at r
      exact ⟨bS b5, by simp -implicitDefEqProofs only [bind_ok, bind_er, bindN_ok, ofE_ok, ofE_er, seqO_nx, seqO_rt, seqO_er, seqO_bk, seqO_ct, loopO_nx, loopO_ct, loopO_bk, loopO_rt, loopO_er, lift_s, retO_rt, retO_nx, retO_er, mkO_ok, mkO_er, toOpt_ok, eVar_z, eVar_s, oL_z, oL_s, frz_z, frz_s, wipe_n, wipe_c, datas_n, datas_c, map_s, bind_s, setA_n, setA_c, p2_d, p1_d, pN_d, fEq_i, fEq_s, fEq_b, fEq_ii, fNe_i, fNe_s, fNe_b, fSub_i, fAdd_i, fAnd_i, fOr_i, fXor_i, fLt_i, fLe_i, fGt_i, fGe_i, fIs_d, fIsNot_d, fIsB_b, isB_b, tru_b, tru_i, tru_l, tru_t, orE_s, orE_n, alt2_e, alt1_e, altN_e, fIx_l, fIx_t, at_0, at_1, at_2, at_3, at_4, at_5, for_n, for_c, lc_n, len_lst, len_tup, kfn_c, kix_c, sSeq_e, sNil_e, sSet_e, sSet2_e, sRet_e, sRetN_e, sDrop_e, sIf_e, sBk_e, sCt_e, sFrz_e, sOwn_e, sFor_e, sUnp_e, eC_e, eOp_e, eUn_e, aNil_e, aCons_e, aApp_e, eFN_e, eCall_e, eMake_e, eCMeth_e, eCallO_e, eLst_e, eTup_e, nLst_e, nLc_e, eLc_e, lSeq_e, lTup_e, eIf_e, eAnd_e, eOr_e, eNot_e, bOf_e, bAnd_e, bOr_e, bNot_e, eFld_e, runB_e, env0_e, oN_e, List.set_cons_zero, List.set_cons_succ, List.map_cons, List.map_nil, List.cons_append, List.nil_append, List.replicate_succ, List.replicate_zero, List.length_cons, List.length_nil, List.getElem?_cons_zero, List.getElem?_cons_succ, reduceIte, if_true, if_false, Bool.false_eq_true, arN_t, decide_true, decide_false, isNon, Bool.not_true, Bool.not_false, Bool.true_and, Bool.false_and, Bool.and_true, Bool.and_false, bYes_e, lstMax_e, Nat.reduceAdd, Nat.reduceSub, Nat.reduceLeDiff, Int.reduceLT, Int.reduceLE, Int.reduceEq, String.reduceEq, and_self, decide_eq_true_eq, and_true, true_and, cPos_e, cDiv_e, fMod_i, fDiv_i, Int.reduceMod, Int.reduceDiv, Int.reduceSub, Int.reduceAdd, Int.reducePow, kOf_i, fsOf_i, fOwn_k, fOwn1_k, gFld_k, methO_e, methK_s, methA_s, ownK_s, ownK_n, ownK_m, own1K_s, own1K_n, fldK_s, sApp_e, appK_s, sOSub_e, osubK_s, eOIx_e, oixK_s, eOLen_e, olenK_s, ixN_p, Int.reduceToNat, Nat.reduceLT, oS_e, eSl_e, eSlT_e, kSet_e, kSet2_e, kDrop_e, kIf_t, kIf_f, kOwn_e, kApp_e, kOsub1_e, kOsub2_e, osK_s, kOix_e, ixK_s, kFor_e, kUnp_e, unpK_s, kOp1_e, kOp2_e, kUn_e, kC1_e, kC2_e, kA1_e, kA2_e, kFN_e, kCall_e, kMake_e, kCM_e, kMeth_e, kLst_e, lstK_s, kTup_e, tupK_s, kNl_e, nlK_s, nList_e, kNli_e, nliK_s, lOf_l, lOf_t, kNc1_e, kNc2_e, kLc1_e, kLc2_e, kSeq_e, kTpl_e, kEIf_t, kEIf_f, kEAnd_t, kEAnd_f, kEOr_t, kEOr_f, kENot_e, kB_e, kBAnd_t, kBAnd_f, kBOr_t, kBOr_f, kBNot_e, kOS_e, kSl1_e, kSl2_e, kSl3_e, kSt1_e, kSt2_e, kSt3_e, eMeth_e, kMe_e, lc_c, kL1_e, kL2_e, kT_t, kT_f, Int.cast_ofNat_Int, Int.natCast_zero, Int.natCast_one, lRng1_e, kRng_1, kRng_2, kRng_3, kRng_4, kRng_5, kRng_6, List.length_map, arS_0, sEr_e, sTryAs_e, tryK_nx, tryK_rt, tryK_er, afterO_rt, afterO_nx, eXf_e, xfS_s, xfK_s, plain_n, plain_e, List.all_cons, List.all_nil, eq_self, sTryN_e, tryN_nx, tryN_rt, tryN_h, tryN_t, dflI_e, dflF_e, not_false_eq_true, eMethK_e, kMK_e, kMK2_e, eProp_e, kPr_e, eNotO_e, kNotO_e, notK_s, eSlA_e, kSA1_e, kSA2_e, kSA3_l, kSA3_t, eGetO_e, kGet1_e, kGet2_e, getK_s, g_law, m_law, hbox, e1, e2, so, e3, e4, e5, e6, d10, d11, n0, ↓r]⟩
    | fk m a c =>
      have td' : max a.dep c.dep + 1 ≤ 3 := td
      have r := fun s0 s1 s2 s3 s6 => rest_ok (t := .fk m a c) (o := .fk m a u) tl tn (by omega) ⟨tl.1, ul⟩ ⟨tn.1, tn.2.1, un⟩ (show max a.dep u.dep + 1 ≤ 5 by omega) s0 s1 s2 s3 s6 (bS b5)
      have n0 : fIsNot (.d (.str m)) (.d .non) (bS b5) = some (.d (.bl true), bS b5) := rfl
      unfold lRest at r
      rw [show (Tr.fk m a c).D = .tup [.str m, a.D, c.D] from rfl] at r e4
      rw [show (Tr.fk m a u).D = .tup [.str m, a.D, u.D] from rfl] at r
      exact ⟨bS b5, by simp -implicitDefEqProofs only [bind_ok, bind_er, bindN_ok, ofE_ok, ofE_er, seqO_nx, seqO_rt, seqO_er, seqO_bk, seqO_ct, loopO_nx, loopO_ct, loopO_bk, loopO_rt, loopO_er, lift_s, retO_rt, retO_nx, retO_er, mkO_ok, mkO_er, toOpt_ok, eVar_z, eVar_s, oL_z, oL_s, frz_z, frz_s, wipe_n, wipe_c, datas_n, datas_c, map_s, bind_s, setA_n, setA_c, p2_d, p1_d, pN_d, fEq_i, fEq_s, fEq_b, fEq_ii, fNe_i, fNe_s, fNe_b, fSub_i, fAdd_i, fAnd_i, fOr_i, fXor_i, fLt_i, fLe_i, fGt_i, fGe_i, fIs_d, fIsNot_d, fIsB_b, isB_b, tru_b, tru_i, tru_l, tru_t, orE_s, orE_n, alt2_e, alt1_e, altN_e, fIx_l, fIx_t, at_0, at_1, at_2, at_3, at_4, at_5, for_n, for_c, lc_n, len_lst, len_tup, kfn_c, kix_c, sSeq_e, sNil_e, sSet_e, sSet2_e, sRet_e, sRetN_e, sDrop_e, sIf_e, sBk_e, sCt_e, sFrz_e, sOwn_e, sFor_e, sUnp_e, eC_e, eOp_e, eUn_e, aNil_e, aCons_e, aApp_e, eFN_e, eCall_e, eMake_e, eCMeth_e, eCallO_e, eLst_e, eTup_e, nLst_e, nLc_e, eLc_e, lSeq_e, lTup_e, eIf_e, eAnd_e, eOr_e, eNot_e, bOf_e, bAnd_e, bOr_e, bNot_e, eFld_e, runB_e, env0_e, oN_e, List.set_cons_zero, List.set_cons_succ, List.map_cons, List.map_nil, List.cons_append, List.nil_append, List.replicate_succ, List.replicate_zero, List.length_cons, List.length_nil, List.getElem?_cons_zero, List.getElem?_cons_succ, reduceIte, if_true, if_false, Bool.false_eq_true, arN_t, decide_true, decide_false, isNon, Bool.not_true, Bool.not_false, Bool.true_and, Bool.false_and, Bool.and_true, Bool.and_false, bYes_e, lstMax_e, Nat.reduceAdd, Nat.reduceSub, Nat.reduceLeDiff, Int.reduceLT, Int.reduceLE, Int.reduceEq, String.reduceEq, and_self, decide_eq_true_eq, and_true, true_and, cPos_e, cDiv_e, fMod_i, fDiv_i, Int.reduceMod, Int.reduceDiv, Int.reduceSub, Int.reduceAdd, Int.reducePow, kOf_i, fsOf_i, fOwn_k, fOwn1_k, gFld_k, methO_e, methK_s, methA_s, ownK_s, ownK_n, ownK_m, own1K_s, own1K_n, fldK_s, sApp_e, appK_s, sOSub_e, osubK_s, eOIx_e, oixK_s, eOLen_e, olenK_s, ixN_p, Int.reduceToNat, Nat.reduceLT, oS_e, eSl_e, eSlT_e, kSet_e, kSet2_e, kDrop_e, kIf_t, kIf_f, kOwn_e, kApp_e, kOsub1_e, kOsub2_e, osK_s, kOix_e, ixK_s, kFor_e, kUnp_e, unpK_s, kOp1_e, kOp2_e, kUn_e, kC1_e, kC2_e, kA1_e, kA2_e, kFN_e, kCall_e, kMake_e, kCM_e, kMeth_e, kLst_e, lstK_s, kTup_e, tupK_s, kNl_e, nlK_s, nList_e, kNli_e, nliK_s, lOf_l, lOf_t, kNc1_e, kNc2_e, kLc1_e, kLc2_e, kSeq_e, kTpl_e, kEIf_t, kEIf_f, kEAnd_t, kEAnd_f, kEOr_t, kEOr_f, kENot_e, kB_e, kBAnd_t, kBAnd_f, kBOr_t, kBOr_f, kBNot_e, kOS_e, kSl1_e, kSl2_e, kSl3_e, kSt1_e, kSt2_e, kSt3_e, eMeth_e, kMe_e, lc_c, kL1_e, kL2_e, kT_t, kT_f, Int.cast_ofNat_Int, Int.natCast_zero, Int.natCast_one, lRng1_e, kRng_1, kRng_2, kRng_3, kRng_4, kRng_5, kRng_6, List.length_map, arS_0, sEr_e, sTryAs_e, tryK_nx, tryK_rt, tryK_er, afterO_rt, afterO_nx, eXf_e, xfS_s, xfK_s, plain_n, plain_e, List.all_cons, List.all_nil, eq_self, sTryN_e, tryN_nx, tryN_rt, tryN_h, tryN_t, dflI_e, dflF_e, not_false_eq_true, eMethK_e, kMK_e, kMK2_e, eProp_e, kPr_e, eNotO_e, kNotO_e, notK_s, eSlA_e, kSA1_e, kSA2_e, kSA3_l, kSA3_t, eGetO_e, kGet1_e, kGet2_e, getK_s, g_law, m_law, hbox, e1, e2, so, e3, e4, e5, e6, d10, d11, n0, ↓r]⟩
  · have r := fun s0 s1 s2 s3 s6 => rest_ok tl tn (by omega) ul un (by omega) s0 s1 s2 s3 s6 (bS b5)
    unfold lRest at r
    exact ⟨bS b5, by simp -implicitDefEqProofs only [bind_ok, bind_er, bindN_ok, ofE_ok, ofE_er, seqO_nx, seqO_rt, seqO_er, seqO_bk, seqO_ct, loopO_nx, loopO_ct, loopO_bk, loopO_rt, loopO_er, lift_s, retO_rt, retO_nx, retO_er, mkO_ok, mkO_er, toOpt_ok, eVar_z, eVar_s, oL_z, oL_s, frz_z, frz_s, wipe_n, wipe_c, datas_n, datas_c, map_s, bind_s, setA_n, setA_c, p2_d, p1_d, pN_d, fEq_i, fEq_s, fEq_b, fEq_ii, fNe_i, fNe_s, fNe_b, fSub_i, fAdd_i, fAnd_i, fOr_i, fXor_i, fLt_i, fLe_i, fGt_i, fGe_i, fIs_d, fIsNot_d, fIsB_b, isB_b, tru_b, tru_i, tru_l, tru_t, orE_s, orE_n, alt2_e, alt1_e, altN_e, fIx_l, fIx_t, at_0, at_1, at_2, at_3, at_4, at_5, for_n, for_c, lc_n, len_lst, len_tup, kfn_c, kix_c, sSeq_e, sNil_e, sSet_e, sSet2_e, sRet_e, sRetN_e, sDrop_e, sIf_e, sBk_e, sCt_e, sFrz_e, sOwn_e, sFor_e, sUnp_e, eC_e, eOp_e, eUn_e, aNil_e, aCons_e, aApp_e, eFN_e, eCall_e, eMake_e, eCMeth_e, eCallO_e, eLst_e, eTup_e, nLst_e, nLc_e, eLc_e, lSeq_e, lTup_e, eIf_e, eAnd_e, eOr_e, eNot_e, bOf_e, bAnd_e, bOr_e, bNot_e, eFld_e, runB_e, env0_e, oN_e, List.set_cons_zero, List.set_cons_succ, List.map_cons, List.map_nil, List.cons_append, List.nil_append, List.replicate_succ, List.replicate_zero, List.length_cons, List.length_nil, List.getElem?_cons_zero, List.getElem?_cons_succ, reduceIte, if_true, if_false, Bool.false_eq_true, arN_t, decide_true, decide_false, isNon, Bool.not_true, Bool.not_false, Bool.true_and, Bool.false_and, Bool.and_true, Bool.and_false, bYes_e, lstMax_e, Nat.reduceAdd, Nat.reduceSub, Nat.reduceLeDiff, Int.reduceLT, Int.reduceLE, Int.reduceEq, String.reduceEq, and_self, decide_eq_true_eq, and_true, true_and, cPos_e, cDiv_e, fMod_i, fDiv_i, Int.reduceMod, Int.reduceDiv, Int.reduceSub, Int.reduceAdd, Int.reducePow, kOf_i, fsOf_i, fOwn_k, fOwn1_k, gFld_k, methO_e, methK_s, methA_s, ownK_s, ownK_n, ownK_m, own1K_s, own1K_n, fldK_s, sApp_e, appK_s, sOSub_e, osubK_s, eOIx_e, oixK_s, eOLen_e, olenK_s, ixN_p, Int.reduceToNat, Nat.reduceLT, oS_e, eSl_e, eSlT_e, kSet_e, kSet2_e, kDrop_e, kIf_t, kIf_f, kOwn_e, kApp_e, kOsub1_e, kOsub2_e, osK_s, kOix_e, ixK_s, kFor_e, kUnp_e, unpK_s, kOp1_e, kOp2_e, kUn_e, kC1_e, kC2_e, kA1_e, kA2_e, kFN_e, kCall_e, kMake_e, kCM_e, kMeth_e, kLst_e, lstK_s, kTup_e, tupK_s, kNl_e, nlK_s, nList_e, kNli_e, nliK_s, lOf_l, lOf_t, kNc1_e, kNc2_e, kLc1_e, kLc2_e, kSeq_e, kTpl_e, kEIf_t, kEIf_f, kEAnd_t, kEAnd_f, kEOr_t, kEOr_f, kENot_e, kB_e, kBAnd_t, kBAnd_f, kBOr_t, kBOr_f, kBNot_e, kOS_e, kSl1_e, kSl2_e, kSl3_e, kSt1_e, kSt2_e, kSt3_e, eMeth_e, kMe_e, lc_c, kL1_e, kL2_e, kT_t, kT_f, Int.cast_ofNat_Int, Int.natCast_zero, Int.natCast_one, lRng1_e, kRng_1, kRng_2, kRng_3, kRng_4, kRng_5, kRng_6, List.length_map, arS_0, sEr_e, sTryAs_e, tryK_nx, tryK_rt, tryK_er, afterO_rt, afterO_nx, eXf_e, xfS_s, xfK_s, plain_n, plain_e, List.all_cons, List.all_nil, eq_self, sTryN_e, tryN_nx, tryN_rt, tryN_h, tryN_t, dflI_e, dflF_e, not_false_eq_true, eMethK_e, kMK_e, kMK2_e, eProp_e, kPr_e, eNotO_e, kNotO_e, notK_s, eSlA_e, kSA1_e, kSA2_e, kSA3_l, kSA3_t, eGetO_e, kGet1_e, kGet2_e, getK_s, g_law, m_law, hbox, e1, e2, so, e3, e4, e5, e6, d20, d21, ↓r]⟩
end
end K29
open PySem PySem.W PyProof.Rows
set_option maxRecDepth 100000 in
set_option maxHeartbeats 0 in
theorem PySem.Challenge.cw_laidink_k29_plain_charts_holds : PySem.Challenge.rw_laidink_k29_plain_charts.Holds := by
  w_on; o_law
  refine HandSHeadRun.head_any (r := OpenLaw.row PySem.Challenge.rw_laidink_k29_plain_charts) (q := K29Head.qv) (H := K29Head.hk) (ob := K29Head.ob) (M := 60000) (loose := K29Head.names) (kwd := []) (K29Head.ho) (by kernel_rfl) (fun s => by kernel_rfl) K29Head.run (by rfl) (by rfl) (by rfl) (by rfl) (by first | assumption | decide +kernel) (by decide +kernel) ⟨rfl, rfl, rfl, rfl, rfl, by decide +kernel⟩ ?hw ?hc
  (case hw => w_witness2)
  k_fill
  refine DL.walk (k := 23) (x := "_law_script") (l := PySem.Challenge.rw_laidink_k29_plain_charts) rfl rfl ⟨rfl, by decide, by decide⟩ (fun w h Y => PySem.W.kIn_of Y) ?F
  case F =>
    intro w mg fa h KX G hmg
    refine' K29.all_mk KX G hmg ?aC_Bleach ?aC_Chart ?aC_Film ?aC_Filter ?aC_Ink ?aC_Light ?a__law_box ?l__law_box ?c__law_box ?k__law_box ?a__law_draw ?l__law_draw ?c__law_draw ?k__law_draw ?a__law_name ?l__law_name ?c__law_name ?k__law_name ?a__law_names ?l__law_names ?c__law_names ?k__law_names ?a__law_tree ?l__law_tree ?c__law_tree ?k__law_tree ?a_Chart___eq__ ?i_Chart___eq__ ?l_Chart___eq__ ?c_Chart___eq__ ?k_Chart___eq__ ?a_Light___eq__ ?i_Light___eq__ ?l_Light___eq__ ?c_Light___eq__ ?k_Light___eq__ ?a_Film___eq__ ?i_Film___eq__ ?l_Film___eq__ ?c_Film___eq__ ?k_Film___eq__ ?a__law_made ?l__law_made ?c__law_made ?k__law_made ?a_Chart___init__ ?i_Chart___init__ ?l_Chart___init__ ?c_Chart___init__ ?k_Chart___init__ ?a_Chart_end ?r1_Chart_end ?l_Chart_end ?c_Chart_end ?k_Chart_end ?a_check_band ?l_check_band ?c_check_band ?k_check_band ?a__bands_of ?l__bands_of ?c__bands_of ?k__bands_of ?a_Light___init__ ?i_Light___init__ ?l_Light___init__ ?c_Light___init__ ?k_Light___init__ ?a_Film___init__ ?i_Film___init__ ?l_Film___init__ ?c_Film___init__ ?k_Film___init__ ?a_Film_nothing ?r1_Film_nothing ?i_Film_nothing ?l_Film_nothing ?c_Film_nothing ?k_Film_nothing ?a_Ink_film ?i_Ink_film ?l_Ink_film ?c_Ink_film ?k_Ink_film ?a__light ?l__light ?c__light ?k__light ?a_Light___and__ ?i_Light___and__ ?l_Light___and__ ?c_Light___and__ ?k_Light___and__ ?a_Light___bool__ ?i_Light___bool__ ?l_Light___bool__ ?c_Light___bool__ ?k_Light___bool__ ?a_Ink___init__ ?i_Ink___init__ ?l_Ink___init__ ?c_Ink___init__ ?k_Ink___init__ ?a_Chart_fork ?r1_Chart_fork ?l_Chart_fork ?c_Chart_fork ?k_Chart_fork ?a__law_is ?l__law_is ?c__law_is ?k__law_is ?a__law_plain ?l__law_plain ?c__law_plain ?k__law_plain ?a__is_plain_behind ?l__is_plain_behind ?c__is_plain_behind ?k__is_plain_behind ?a_Chart_is_plain ?i_Chart_is_plain ?l_Chart_is_plain ?c_Chart_is_plain ?k_Chart_is_plain ?a_law ?l_law ?c_law ?k_law ?pg_Bleach ?hd_Bleach ?po_Bleach ?sa_Bleach ?pg_Chart ?hd_Chart ?po_Chart ?sa_Chart ?pg_Film ?hd_Film ?po_Film ?sa_Film ?pg_Filter ?hd_Filter ?po_Filter ?sa_Filter ?pg_Ink ?hd_Ink ?po_Ink ?sa_Ink ?pg_Light ?hd_Light ?po_Light ?sa_Light ?n_Bleach_off ?n_Bleach_on ?n_Bleach_takes ?n_Chart_leaf ?n_Chart_mask ?n_Chart_when_open ?n_Chart_when_shut ?n_Film_bare ?n_Film_inked ?n_Filter_off ?n_Filter_on ?n_Filter_takes ?n_Ink_off ?n_Ink_on ?n_Ink_takes ?n_Light_bands ?n_Light_number ?a_Bleach___init__ ?i_Bleach___init__ ?a_Filter___init__ ?i_Filter___init__ ?mk_Bleach ?kc_Bleach ?mk_Chart ?kc_Chart ?mk_Film ?kc_Film ?mk_Filter ?kc_Filter ?mk_Light ?kc_Light ?am_Bleach_film ?am_Filter_film ?rd_Chart ?ga_Chart ?rd_Film ?ga_Film ?rd_Ink ?ga_Ink ?rd_Light ?ga_Light ?v_Light_BANDS ?v_Ink_TAKES ?lt_Ink_TAKES ?sf_Chart ?sf_Film ?sf_Light ?nf_Chart_own_Film ?nf_Chart_own_Chart ?nf_Film_own_Film ?nf_Film_own_Chart ?ica_Chart ?icm_Chart ?ica_Film ?icm_Film ?ica_Light ?icm_Light ?ikn ?ikt ?it_own_Light_own_Light ?it_own_Film_own_Film ?it_own_Chart_own_Chart ?it_own_Film_own_Chart ?it_ty_bool_ty_bool ?no_bool ?no_int ?no_isinstance ?no_len ?no_range ?no_sorted ?no_super ?no_tuple ?l_Bleach___init__ ?kd_Bleach___init___takes ?c_Bleach___init__ ?lc_Bleach___init__ ?vf_Bleach___init__ ?pf_Bleach___init__ ?ce_Bleach___init__ ?topS ?hst ?si_Bleach___init__ ?su_Bleach___init__ ?t2_Ink___init__ ?fi_Ink___init__ ?ik_Bleach___init__ ?l_Filter___init__ ?kd_Filter___init___takes ?c_Filter___init__ ?lc_Filter___init__ ?vf_Filter___init__ ?pf_Filter___init__ ?ce_Filter___init__ ?si_Filter___init__ ?su_Filter___init__ ?ik_Filter___init__ K29.math
    case aC_Bleach => k_is
    case aC_Chart => k_is
    case aC_Film => k_is
    case aC_Filter => k_is
    case aC_Ink => k_is
    case aC_Light => k_is
    case a__law_box => k_is
    case l__law_box => k_is
    case c__law_box => k_is
    case k__law_box => k_is
    case a__law_draw => k_is
    case l__law_draw => k_is
    case c__law_draw => k_is
    case k__law_draw => k_is
    case a__law_name => k_is
    case l__law_name => k_is
    case c__law_name => k_is
    case k__law_name => k_is
    case a__law_names => k_is
    case l__law_names => k_is
    case c__law_names => k_is
    case k__law_names => k_is
    case a__law_tree => k_is
    case l__law_tree => k_is
    case c__law_tree => k_is
    case k__law_tree => k_is
    case a_Chart___eq__ => k_is
    case i_Chart___eq__ => k_is
    case l_Chart___eq__ => k_is
    case c_Chart___eq__ => k_is
    case k_Chart___eq__ => k_is
    case a_Light___eq__ => k_is
    case i_Light___eq__ => k_is
    case l_Light___eq__ => k_is
    case c_Light___eq__ => k_is
    case k_Light___eq__ => k_is
    case a_Film___eq__ => k_is
    case i_Film___eq__ => k_is
    case l_Film___eq__ => k_is
    case c_Film___eq__ => k_is
    case k_Film___eq__ => k_is
    case a__law_made => k_is
    case l__law_made => k_is
    case c__law_made => k_is
    case k__law_made => k_is
    case a_Chart___init__ => k_is
    case i_Chart___init__ => k_is
    case l_Chart___init__ => k_is
    case c_Chart___init__ => k_is
    case k_Chart___init__ => k_is
    case a_Chart_end => k_is
    case r1_Chart_end => k_is
    case l_Chart_end => k_is
    case c_Chart_end => k_is
    case k_Chart_end => k_is
    case a_check_band => k_is
    case l_check_band => k_is
    case c_check_band => k_is
    case k_check_band => k_is
    case a__bands_of => k_is
    case l__bands_of => k_is
    case c__bands_of => k_is
    case k__bands_of => k_is
    case a_Light___init__ => k_is
    case i_Light___init__ => k_is
    case l_Light___init__ => k_is
    case c_Light___init__ => k_is
    case k_Light___init__ => k_is
    case a_Film___init__ => k_is
    case i_Film___init__ => k_is
    case l_Film___init__ => k_is
    case c_Film___init__ => k_is
    case k_Film___init__ => k_is
    case a_Film_nothing => k_is
    case r1_Film_nothing => k_is
    case i_Film_nothing => k_is
    case l_Film_nothing => k_is
    case c_Film_nothing => k_is
    case k_Film_nothing => k_is
    case a_Ink_film => k_is
    case i_Ink_film => k_is
    case l_Ink_film => k_is
    case c_Ink_film => k_is
    case k_Ink_film => k_is
    case a__light => k_is
    case l__light => k_is
    case c__light => k_is
    case k__light => k_is
    case a_Light___and__ => k_is
    case i_Light___and__ => k_is
    case l_Light___and__ => k_is
    case c_Light___and__ => k_is
    case k_Light___and__ => k_is
    case a_Light___bool__ => k_is
    case i_Light___bool__ => k_is
    case l_Light___bool__ => k_is
    case c_Light___bool__ => k_is
    case k_Light___bool__ => k_is
    case a_Ink___init__ => k_is
    case i_Ink___init__ => k_is
    case l_Ink___init__ => k_is
    case c_Ink___init__ => k_is
    case k_Ink___init__ => k_is
    case a_Chart_fork => k_is
    case r1_Chart_fork => k_is
    case l_Chart_fork => k_is
    case c_Chart_fork => k_is
    case k_Chart_fork => k_is
    case a__law_is => k_is
    case l__law_is => k_is
    case c__law_is => k_is
    case k__law_is => k_is
    case a__law_plain => k_is
    case l__law_plain => k_is
    case c__law_plain => k_is
    case k__law_plain => k_is
    case a__is_plain_behind => k_is
    case l__is_plain_behind => k_is
    case c__is_plain_behind => k_is
    case k__is_plain_behind => k_is
    case a_Chart_is_plain => k_is
    case i_Chart_is_plain => k_is
    case l_Chart_is_plain => k_is
    case c_Chart_is_plain => k_is
    case k_Chart_is_plain => k_is
    case a_law => k_is
    case l_law => k_is
    case c_law => k_is
    case k_law => k_is
    case pg_Bleach => k_is
    case hd_Bleach => k_is
    case po_Bleach => k_is
    case sa_Bleach => k_is
    case pg_Chart => k_is
    case hd_Chart => k_is
    case po_Chart => k_is
    case sa_Chart => k_is
    case pg_Film => k_is
    case hd_Film => k_is
    case po_Film => k_is
    case sa_Film => k_is
    case pg_Filter => k_is
    case hd_Filter => k_is
    case po_Filter => k_is
    case sa_Filter => k_is
    case pg_Ink => k_is
    case hd_Ink => k_is
    case po_Ink => k_is
    case sa_Ink => k_is
    case pg_Light => k_is
    case hd_Light => k_is
    case po_Light => k_is
    case sa_Light => k_is
    case n_Bleach_off => k_is
    case n_Bleach_on => k_is
    case n_Bleach_takes => k_is
    case n_Chart_leaf => k_is
    case n_Chart_mask => k_is
    case n_Chart_when_open => k_is
    case n_Chart_when_shut => k_is
    case n_Film_bare => k_is
    case n_Film_inked => k_is
    case n_Filter_off => k_is
    case n_Filter_on => k_is
    case n_Filter_takes => k_is
    case n_Ink_off => k_is
    case n_Ink_on => k_is
    case n_Ink_takes => k_is
    case n_Light_bands => k_is
    case n_Light_number => k_is
    case a_Bleach___init__ => k_is
    case i_Bleach___init__ => k_is
    case a_Filter___init__ => k_is
    case i_Filter___init__ => k_is
    case mk_Bleach => k_is
    case kc_Bleach => k_is
    case mk_Chart => k_is
    case kc_Chart => k_is
    case mk_Film => k_is
    case kc_Film => k_is
    case mk_Filter => k_is
    case kc_Filter => k_is
    case mk_Light => k_is
    case kc_Light => k_is
    case am_Bleach_film => k_is
    case am_Filter_film => k_is
    case rd_Chart => k_is
    case ga_Chart => k_is
    case rd_Film => k_is
    case ga_Film => k_is
    case rd_Ink => k_is
    case ga_Ink => k_is
    case rd_Light => k_is
    case ga_Light => k_is
    case v_Light_BANDS => k_is
    case v_Ink_TAKES => k_is
    case lt_Ink_TAKES => k_is
    case sf_Chart => k_is
    case sf_Film => k_is
    case sf_Light => k_is
    case nf_Chart_own_Film => k_is
    case nf_Chart_own_Chart => k_is
    case nf_Film_own_Film => k_is
    case nf_Film_own_Chart => k_is
    case ica_Chart => k_is
    case icm_Chart => k_is
    case ica_Film => k_is
    case icm_Film => k_is
    case ica_Light => k_is
    case icm_Light => k_is
    case ikn => k_is
    case ikt => k_is
    case it_own_Light_own_Light => kit_is
    case it_own_Film_own_Film => kit_is
    case it_own_Chart_own_Chart => kit_is
    case it_own_Film_own_Chart => kit_is
    case it_ty_bool_ty_bool => kit_is
    case no_bool => k_is
    case no_int => k_is
    case no_isinstance => k_is
    case no_len => k_is
    case no_range => k_is
    case no_sorted => k_is
    case no_super => k_is
    case no_tuple => k_is
    case l_Bleach___init__ => k_is
    case kd_Bleach___init___takes => k_is
    case c_Bleach___init__ => k_is
    case lc_Bleach___init__ => k_is
    case vf_Bleach___init__ => first | rfl | kernel_rfl
    case pf_Bleach___init__ => first | rfl | kernel_rfl
    case ce_Bleach___init__ => k_is
    case topS => first | rfl | kernel_rfl
    case hst => k_is
    case si_Bleach___init__ => ks_is
    case su_Bleach___init__ => k_is
    case t2_Ink___init__ => k_is
    case fi_Ink___init__ => k_is
    case ik_Bleach___init__ => k_is
    case l_Filter___init__ => k_is
    case kd_Filter___init___takes => k_is
    case c_Filter___init__ => k_is
    case lc_Filter___init__ => k_is
    case vf_Filter___init__ => first | rfl | kernel_rfl
    case pf_Filter___init__ => first | rfl | kernel_rfl
    case ce_Filter___init__ => k_is
    case si_Filter___init__ => ks_is
    case su_Filter___init__ => k_is
    case ik_Filter___init__ => k_is
