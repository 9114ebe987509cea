import PyProof.Rows.All
import Wide.All
import OpenK.AllK
import Wide.FinOn
import HandS.ForMost
import HandS.ForExc
import HandS.HotCalls
import HandS.Star
import HandS.CallSlots
import HandS.Wide
import HandS.IsInst
import HandS.RaiseMore
import HandS.ClsMeth
import HandS.SlotsOwn
import HandS.TupLe
import HandS.FStr
import HandS.Text
import KE.KExcSuper
import HandS.Nested
import HandS.ExcInit
import HandS.ExcCtx
import HandS.ExcField
import KE.KExcIs
import HandS.Flow
import HandS.MakeKwOnly
import HandS.TupAny
import KE.KEqNest
import HandS.BoundList
import KE.KFmtOwn
import PyProof.StrLawsRepr
import HandS.Property
import HandS.Defaults
import HandS.TryMany
import PyProof.Rows.SeqMore
import HandS.Iter
import PyProof.Rows.SortShellAny
import PyProof.Rows.StrMeet
import HandS.SetBool
import HandS.SetKeys
import KE.GoesEnum
import HandS.TupMul
import KE.RegKSuper
import KE.RegKTryMore
import PySem.Challenge.RW_laidink_k61_sheet_made
set_option Elab.async false
set_option linter.all false
set_option maxRecDepth 100000
set_option maxHeartbeats 4000000
/-! Data without addresses over the hand layer: D (trees of plain data), EV (data or a store object), the relation to the abstract heap, and its growth. -/
namespace DL
open PySem L2
inductive D where
  | non | bl (b : Bool) | int (i : Int) | str (x : Str)
  | tup (xs : List D) | lst (xs : List D)
  | ins (c : String) (fs : List D)
  | cls (c : String)
  | ty (n : String)
/-- data, or an object of the store -/
inductive EV where
  | d (x : D) | o (i : Nat)
/-- an object of the store: a list that is written -/
inductive GO where
  | lst (xs : List EV)
abbrev GS := List GO
/-- what a frame alone holds and may still change -/
inductive OW where
  | lst (xs : List D) | ins (c : String) (fs : List D)
inductive Sl where
  | no | ev (e : EV) | own (o : OW) | exn (c : String) (fs : List D)
abbrev En := List Sl
inductive Out (α : Type) where
  | ok (a : α) (g : GS) | er (c : String) (fs : List D) (g : GS) | st
def Out.bind {α β : Type} (o : Out α) (f : α → GS → Out β) : Out β := match o with
  | .ok a g => f a g
  | .er c fs g => .er c fs g
  | .st => .st
abbrev EM := En → GS → Out EV
/-- the frame's constants: the written part, where the classes stand, what the callers may still change -/
structure RC where
  K : PySem.W.Frag
  C : String → Addr
  /-- the fields of a class, in the order in which __init__ stores them -/
  N : String → List Str
  B : Addr → Prop
  /-- the instance that __init__ fills -/
  s : Addr := 0
  /-- the dict of the error that an except suite handles (the error at s) -/
  x : Addr := 0
/-- may be read for ever -/
def Zz (c : RC) (M : Addr → Prop) (ρ : List Addr) (a : Addr) : Prop := ¬ c.B a ∧ ¬ M a ∧ a ∉ ρ
/-- a list, a tuple of the module's own top: what is a sequence though the heap tracks nothing -/
def KL (K : PySem.W.Frag) (a : Addr) (xs : List V) : Prop := SqL K (fun _ => Option.none) a xs
def KT (K : PySem.W.Frag) (a : Addr) (xs : List V) : Prop := SqT K (fun _ => Option.none) a xs
theorem KL.up {K : PySem.W.Frag} {a : Addr} {xs : List V} {H : Hp} (h : KL K a xs) : SqL K H a xs := by
  rcases h with h | h
  · rcases h with h | ⟨_, h⟩ <;> cases h
  · exact .inr h
theorem KT.up {K : PySem.W.Frag} {a : Addr} {xs : List V} {H : Hp} (h : KT K a xs) : SqT K H a xs := by
  rcases h with h | h
  · rcases h with h | ⟨_, h⟩ <;> cases h
  · exact .inr h
def ZL (c : RC) (M : Addr → Prop) (ρ : List Addr) (H : Hp) (a : Addr) (xs : List V) : Prop := (Zz c M ρ a ∧ Rd H a (.lst xs)) ∨ KL c.K a xs
def ZT (c : RC) (M : Addr → Prop) (ρ : List Addr) (H : Hp) (a : Addr) (xs : List V) : Prop := (Zz c M ρ a ∧ Rd H a (.tup xs)) ∨ KT c.K a xs
theorem ZL.sq {c : RC} {M : Addr → Prop} {ρ : List Addr} {H : Hp} {a : Addr} {xs : List V} (h : ZL c M ρ H a xs) : SqL c.K H a xs := h.elim (fun z => .inl z.2) KL.up
theorem ZT.sq {c : RC} {M : Addr → Prop} {ρ : List Addr} {H : Hp} {a : Addr} {xs : List V} (h : ZT c M ρ H a xs) : SqT c.K H a xs := h.elim (fun z => .inl z.2) KT.up
inductive All2 {α β : Type} (R : α → β → Prop) : List α → List β → Prop
  | nil : All2 R [] []
  | cons {a b as bs} : R a b → All2 R as bs → All2 R (a :: as) (b :: bs)
theorem All2.imp {α β : Type} {R S : α → β → Prop} (h : ∀ a b, R a b → S a b) : ∀ {as : List α} {bs : List β}, All2 R as bs → All2 S as bs
  | _, _, .nil => .nil
  | _, _, .cons r t => .cons (h _ _ r) (All2.imp h t)
theorem All2.length {α β : Type} {R : α → β → Prop} : ∀ {as : List α} {bs : List β}, All2 R as bs → as.length = bs.length
  | _, _, .nil => rfl
  | _, _, .cons _ t => by simp [All2.length t]
theorem All2.append {α β : Type} {R : α → β → Prop} : ∀ {as as' : List α} {bs bs' : List β}, All2 R as bs → All2 R as' bs' → All2 R (as ++ as') (bs ++ bs')
  | _, _, _, _, .nil, s => s
  | _, _, _, _, .cons r t, s => .cons r (All2.append t s)
theorem All2.get {α β : Type} {R : α → β → Prop} : ∀ {as : List α} {bs : List β} {i : Nat} {a : α}, All2 R as bs → as[i]? = some a → ∃ b, bs[i]? = some b ∧ R a b
  | _, _, _, _, .nil, e => by simp at e
  | _, _, 0, _, .cons r _, e => by simp at e; subst e; exact ⟨_, rfl, r⟩
  | _, _, i + 1, a, .cons _ t, e => by
    obtain ⟨b, h1, h2⟩ := All2.get (i := i) (a := a) t (by simpa using e)
    exact ⟨b, by simpa using h1, h2⟩
theorem All2.set {α β : Type} {R : α → β → Prop} {a : α} {b : β} (r : R a b) : ∀ {as : List α} {bs : List β} (i : Nat), All2 R as bs → All2 R (as.set i a) (bs.set i b)
  | _, _, _, .nil => .nil
  | _, _, 0, .cons _ t => .cons r t
  | _, _, i + 1, .cons q t => .cons q (All2.set r i t)
/-- d stands for v, to the depth n -/
def RepN (c : RC) (M : Addr → Prop) (ρ : List Addr) (H : Hp) : Nat → D → V → Prop
  | _, .non, v => v = .non
  | _, .bl b, v => v = .bl b
  | _, .int i, v => v = .int i
  | _, .str x, v => v = .str x
  | _, .cls k, v => v = .ref (c.C k)
  | _, .ty k, v => v = .ty k
  | n + 1, .tup xs, v => ∃ a vs, v = .ref a ∧ ZT c M ρ H a vs ∧ All2 (RepN c M ρ H n) xs vs
  | n + 1, .lst xs, v => ∃ a vs, v = .ref a ∧ ZL c M ρ H a vs ∧ All2 (RepN c M ρ H n) xs vs
  | n + 1, .ins k fs, v => ∃ a dx gs, v = .ref a ∧ Zz c M ρ a ∧ H a = some (.ins (c.C k) dx gs) ∧ gs.map (·.1) = (c.N k).take gs.length ∧ All2 (fun (p : D) (q : Str × V) => RepN c M ρ H n p q.2) fs gs
  | 0, _, _ => False
theorem RepN.up {c : RC} {M : Addr → Prop} {ρ : List Addr} {H : Hp} : ∀ {n : Nat} {d : D} {v : V}, RepN c M ρ H n d v → RepN c M ρ H (n + 1) d v := by
  intro n
  induction n with
  | zero =>
    intro d v h
    cases d <;> first | exact h | (exact absurd h (by simp [RepN]))
  | succ n ih =>
    intro d v h
    cases d with
    | tup xs => obtain ⟨a, vs, e, z, r⟩ := h; exact ⟨a, vs, e, z, r.imp fun _ _ q => ih q⟩
    | lst xs => obtain ⟨a, vs, e, z, r⟩ := h; exact ⟨a, vs, e, z, r.imp fun _ _ q => ih q⟩
    | ins k fs => obtain ⟨a, dx, gs, e, z, e2, nm, r⟩ := h; exact ⟨a, dx, gs, e, z, e2, nm, r.imp fun _ _ q => ih q⟩
    | _ => exact h
theorem RepN.mono {c : RC} {M : Addr → Prop} {ρ : List Addr} {H : Hp} {n m : Nat} {d : D} {v : V} (h : RepN c M ρ H n d v) (hn : n ≤ m) : RepN c M ρ H m d v := by
  induction hn with
  | refl => exact h
  | step _ ih => exact ih.up
def Rep (c : RC) (M : Addr → Prop) (ρ : List Addr) (H : Hp) (d : D) (v : V) : Prop := ∃ n, RepN c M ρ H n d v
theorem reps_n {c : RC} {M : Addr → Prop} {ρ : List Addr} {H : Hp} : ∀ {xs : List D} {vs : List V}, All2 (Rep c M ρ H) xs vs → ∃ n, All2 (RepN c M ρ H n) xs vs
  | _, _, .nil => ⟨0, .nil⟩
  | _, _, .cons ⟨n, r⟩ t => by
    obtain ⟨m, q⟩ := reps_n t
    exact ⟨max n m, .cons (r.mono (Nat.le_max_left n m)) (q.imp fun _ _ z => z.mono (Nat.le_max_right n m))⟩
structure Flds (c : RC) (M : Addr → Prop) (ρ : List Addr) (H : Hp) (k : String) (fs : List D) (gs : List (Str × V)) : Prop where
  nm : gs.map (·.1) = (c.N k).take gs.length
  r : All2 (fun (p : D) (q : Str × V) => Rep c M ρ H p q.2) fs gs
theorem flds_n {c : RC} {M : Addr → Prop} {ρ : List Addr} {H : Hp} : ∀ {fs : List D} {gs : List (Str × V)}, All2 (fun (p : D) (q : Str × V) => Rep c M ρ H p q.2) fs gs → ∃ n, All2 (fun (p : D) (q : Str × V) => RepN c M ρ H n p q.2) fs gs
  | _, _, .nil => ⟨0, .nil⟩
  | _, _, .cons ⟨n, r⟩ t => by
    obtain ⟨m, q⟩ := flds_n t
    exact ⟨max n m, .cons (r.mono (Nat.le_max_left n m)) (q.imp fun _ _ z => z.mono (Nat.le_max_right n m))⟩
section
variable {c : RC} {M : Addr → Prop} {ρ : List Addr} {H : Hp} {v : V}
theorem Rep.non : Rep c M ρ H .non .non := ⟨0, rfl⟩
theorem Rep.bl {b} : Rep c M ρ H (.bl b) (.bl b) := ⟨0, rfl⟩
theorem Rep.int {b} : Rep c M ρ H (.int b) (.int b) := ⟨0, rfl⟩
theorem Rep.str {b} : Rep c M ρ H (.str b) (.str b) := ⟨0, rfl⟩
theorem Rep.ty {k} : Rep c M ρ H (.ty k) (.ty k) := ⟨0, rfl⟩
theorem Rep.of_ty {b} (h : Rep c M ρ H (.ty b) v) : v = .ty b := by obtain ⟨n, h⟩ := h; cases n <;> exact h
theorem Rep.cls {k} : Rep c M ρ H (.cls k) (.ref (c.C k)) := ⟨0, rfl⟩
theorem Rep.tup {xs a vs} (z : ZT c M ρ H a vs) (r : All2 (Rep c M ρ H) xs vs) : Rep c M ρ H (.tup xs) (.ref a) := let ⟨n, q⟩ := reps_n r; ⟨n + 1, a, vs, rfl, z, q⟩
theorem Rep.lst {xs a vs} (z : ZL c M ρ H a vs) (r : All2 (Rep c M ρ H) xs vs) : Rep c M ρ H (.lst xs) (.ref a) := let ⟨n, q⟩ := reps_n r; ⟨n + 1, a, vs, rfl, z, q⟩
theorem Rep.ins {k fs a dx gs} (z : Zz c M ρ a) (e : H a = some (.ins (c.C k) dx gs)) (r : Flds c M ρ H k fs gs) : Rep c M ρ H (.ins k fs) (.ref a) := let ⟨n, q⟩ := flds_n r.r; ⟨n + 1, a, dx, gs, rfl, z, e, r.nm, q⟩
theorem Rep.of_non (h : Rep c M ρ H .non v) : v = .non := by obtain ⟨n, h⟩ := h; cases n <;> exact h
theorem Rep.of_bl {b} (h : Rep c M ρ H (.bl b) v) : v = .bl b := by obtain ⟨n, h⟩ := h; cases n <;> exact h
theorem Rep.of_int {b} (h : Rep c M ρ H (.int b) v) : v = .int b := by obtain ⟨n, h⟩ := h; cases n <;> exact h
theorem Rep.of_str {b} (h : Rep c M ρ H (.str b) v) : v = .str b := by obtain ⟨n, h⟩ := h; cases n <;> exact h
theorem Rep.of_cls {b} (h : Rep c M ρ H (.cls b) v) : v = .ref (c.C b) := by obtain ⟨n, h⟩ := h; cases n <;> exact h
theorem Rep.of_tup {xs} (h : Rep c M ρ H (.tup xs) v) : ∃ a vs, v = .ref a ∧ ZT c M ρ H a vs ∧ All2 (Rep c M ρ H) xs vs := by
  obtain ⟨n, h⟩ := h
  cases n with
  | zero => exact h.elim
  | succ n => obtain ⟨a, vs, e, z, r⟩ := h; exact ⟨a, vs, e, z, r.imp fun _ _ q => ⟨n, q⟩⟩
theorem Rep.of_lst {xs} (h : Rep c M ρ H (.lst xs) v) : ∃ a vs, v = .ref a ∧ ZL c M ρ H a vs ∧ All2 (Rep c M ρ H) xs vs := by
  obtain ⟨n, h⟩ := h
  cases n with
  | zero => exact h.elim
  | succ n => obtain ⟨a, vs, e, z, r⟩ := h; exact ⟨a, vs, e, z, r.imp fun _ _ q => ⟨n, q⟩⟩
theorem Rep.of_ins {k fs} (h : Rep c M ρ H (.ins k fs) v) : ∃ a dx gs, v = .ref a ∧ Zz c M ρ a ∧ H a = some (.ins (c.C k) dx gs) ∧ Flds c M ρ H k fs gs := by
  obtain ⟨n, h⟩ := h
  cases n with
  | zero => exact h.elim
  | succ n => obtain ⟨a, dx, gs, e, z, e2, nm, r⟩ := h; exact ⟨a, dx, gs, e, z, e2, nm, r.imp fun _ _ q => ⟨n, q⟩⟩
end
/-- what an evaluation leaves: all that was tracked stands, but the store's objects and the frame's own -/
structure Gr (M : Addr → Prop) (ρ : List Addr) (H : Hp) (M' : Addr → Prop) (ρ' : List Addr) (H' : Hp) : Prop where
  keep : ∀ a o, H a = some o → a ∉ ρ → ¬ M a → H' a = some o
  there : ∀ a o, H a = some o → ∃ o', H' a = some o'
  grow : ∃ ext, ρ' = ρ ++ ext ∧ ∀ a ∈ ext, H a = none
  mine : ∀ a, M' a → M a ∨ H a = none
section
variable {M M1 M' : Addr → Prop} {ρ ρ1 ρ' : List Addr} {H H1 H' : Hp}
theorem Gr.refl : Gr M ρ H M ρ H := ⟨fun _ _ e _ _ => e, fun _ o e => ⟨o, e⟩, ⟨[], by simp, by simp⟩, fun _ h => .inl h⟩
theorem Gr.free (g : Gr M ρ H M' ρ' H') {a : Addr} (h : H' a = none) : H a = none := by
  cases e : H a with
  | none => rfl
  | some o => obtain ⟨o', q⟩ := g.there a o e; rw [h] at q; cases q
theorem Gr.trans (g : Gr M ρ H M1 ρ1 H1) (k : Gr M1 ρ1 H1 M' ρ' H') : Gr M ρ H M' ρ' H' := by
  obtain ⟨e1, h1, f1⟩ := g.grow
  obtain ⟨e2, h2, f2⟩ := k.grow
  refine ⟨fun a o e n m => ?_, fun a o e => ?_, ⟨e1 ++ e2, by rw [h2, h1, List.append_assoc], fun a ha => ?_⟩, fun a h => ?_⟩
  · refine k.keep a o (g.keep a o e n m) ?_ fun q => ?_
    · rw [h1]; intro z
      rcases List.mem_append.mp z with z | z
      · exact n z
      · rw [f1 a z] at e; cases e
    · rcases g.mine a q with q | q
      · exact m q
      · rw [q] at e; cases e
  · obtain ⟨o', q⟩ := g.there a o e
    exact k.there a o' q
  · rcases List.mem_append.mp ha with z | z
    · exact f1 a z
    · exact g.free (f2 a z)
  · rcases k.mine a h with q | q
    · exact g.mine a q
    · exact .inr (g.free q)
theorem Gr.same (s : Same H H') : Gr M ρ H M ρ H' := ⟨fun a o e _ _ => s a o e, fun a o e => ⟨o, s a o e⟩, ⟨[], by simp, by simp⟩, fun _ h => .inl h⟩
variable {c : RC} {a : Addr} {xs : List V} {u : HO}
theorem Zz.grow (h : Zz c M ρ a) (g : Gr M ρ H M' ρ' H') (e : H a ≠ none) : Zz c M' ρ' a := by
  obtain ⟨e1, h1, f1⟩ := g.grow
  refine ⟨h.1, fun q => ?_, ?_⟩
  · rcases g.mine a q with q | q
    · exact h.2.1 q
    · exact e q
  · rw [h1]; intro z
    rcases List.mem_append.mp z with z | z
    · exact h.2.2 z
    · exact e (f1 a z)
theorem rd_keep (r : Rd H a u) (g : Gr M ρ H M' ρ' H') (h : Zz c M ρ a) : Rd H' a u := by
  rcases r with r | ⟨o, r⟩
  · exact .inl (g.keep a _ r h.2.2 h.2.1)
  · exact .inr ⟨o, g.keep a _ r h.2.2 h.2.1⟩
theorem rd_ne {H : Hp} {a : Addr} {u : HO} (r : Rd H a u) : H a ≠ none := by
  rcases r with r | ⟨o, r⟩ <;> rw [r] <;> simp
theorem ZL.grow (h : ZL c M ρ H a xs) (g : Gr M ρ H M' ρ' H') : ZL c M' ρ' H' a xs := h.elim (fun z => .inl ⟨z.1.grow g (rd_ne z.2), rd_keep z.2 g z.1⟩) .inr
theorem ZT.grow (h : ZT c M ρ H a xs) (g : Gr M ρ H M' ρ' H') : ZT c M' ρ' H' a xs := h.elim (fun z => .inl ⟨z.1.grow g (rd_ne z.2), rd_keep z.2 g z.1⟩) .inr
theorem RepN.grow (g : Gr M ρ H M' ρ' H') : ∀ {n : Nat} {d : D} {v : V}, RepN c M ρ H n d v → RepN c M' ρ' H' n d v := by
  intro n
  induction n with
  | zero => intro d v h; cases d <;> exact h
  | succ n ih =>
    intro d v h
    cases d with
    | tup xs => obtain ⟨a, vs, e, z, r⟩ := h; exact ⟨a, vs, e, z.grow g, r.imp fun _ _ q => ih q⟩
    | lst xs => obtain ⟨a, vs, e, z, r⟩ := h; exact ⟨a, vs, e, z.grow g, r.imp fun _ _ q => ih q⟩
    | ins k fs => obtain ⟨a, dx, gs, e, z, e2, nm, r⟩ := h; exact ⟨a, dx, gs, e, z.grow g (by rw [e2]; simp), g.keep a _ e2 z.2.2 z.2.1, nm, r.imp fun _ _ q => ih q⟩
    | _ => exact h
theorem Rep.grow {d : D} {v : V} (h : Rep c M ρ H d v) (g : Gr M ρ H M' ρ' H') : Rep c M' ρ' H' d v := let ⟨n, q⟩ := h; ⟨n, q.grow g⟩
theorem reps_grow {ds : List D} {vs : List V} (h : All2 (Rep c M ρ H) ds vs) (g : Gr M ρ H M' ρ' H') : All2 (Rep c M' ρ' H') ds vs := h.imp fun _ _ r => r.grow g
theorem flds_grow {k : String} {fs : List D} {gs : List (Str × V)} (h : Flds c M ρ H k fs gs) (g : Gr M ρ H M' ρ' H') : Flds c M' ρ' H' k fs gs := ⟨h.nm, h.r.imp fun _ _ r => r.grow g⟩
end
/-! ### values of an evaluation, the store, the frame -/
def RepE (c : RC) (M : Addr → Prop) (ρ : List Addr) (H : Hp) : EV → V → Prop
  | .d x, v => Rep c M ρ H x v
  | .o i, v => ∃ a, ρ[i]? = some a ∧ v = .ref a
section
variable {c : RC} {M M1 M' : Addr → Prop} {ρ ρ1 ρ' : List Addr} {H H1 H' : Hp}
theorem RepE.grow {e : EV} {v : V} (h : RepE c M ρ H e v) (g : Gr M ρ H M' ρ' H') : RepE c M' ρ' H' e v := by
  cases e with
  | d x => exact Rep.grow h g
  | o i =>
    obtain ⟨a, h1, h2⟩ := h
    obtain ⟨ex, e1, _⟩ := g.grow
    exact ⟨a, by rw [e1, List.getElem?_append_left (List.getElem?_eq_some_iff.mp h1).1]; exact h1, h2⟩
theorem repEs_grow {es : List EV} {vs : List V} (h : All2 (RepE c M ρ H) es vs) (g : Gr M ρ H M' ρ' H') : All2 (RepE c M' ρ' H') es vs := h.imp fun _ _ r => r.grow g
end
/-- the store stands at ρ -/
structure SR (c : RC) (M : Addr → Prop) (ρ : List Addr) (G : GS) (H : Hp) : Prop where
  len : ρ.length = G.length
  nd : ρ.Nodup
  sep : ∀ a ∈ ρ, ¬ c.B a ∧ ¬ M a
  at_ : ∀ (i : Nat) (xs : List EV), G[i]? = some (GO.lst xs) → ∃ a vs, ρ[i]? = some a ∧ H a = some (.lst vs) ∧ All2 (RepE c M ρ H) xs vs
  /-- the classes are written, what is the callers' or the frame's own is tracked -/
  mt : ∀ a, M a → H a ≠ none
  bt : ∀ a, c.B a → H a ≠ none
/-- the error that is handled -/
def XnR (c : RC) (M : Addr → Prop) (ρ : List Addr) (H : Hp) (k : String) (fs : List D) : Prop := (¬ M c.x ∧ c.x ∉ ρ) ∧ ∃ gs, H c.x = some (.xd gs) ∧ Flds c M ρ H k fs gs
theorem XnR.grow {c : RC} {M M' : Addr → Prop} {ρ ρ' : List Addr} {H H' : Hp} {k : String} {fs : List D} (h : XnR c M ρ H k fs) (g : Gr M ρ H M' ρ' H') : XnR c M' ρ' H' k fs := by
  obtain ⟨⟨hm, hr⟩, gs, e, f⟩ := h
  obtain ⟨e1, h1, f1⟩ := g.grow
  refine ⟨⟨fun q => ?_, ?_⟩, gs, g.keep _ _ e hr hm, flds_grow f g⟩
  · rcases g.mine _ q with q | q
    · exact hm q
    · rw [e] at q; cases q
  · rw [h1]; intro z
    rcases List.mem_append.mp z with z | z
    · exact hr z
    · rw [f1 _ z] at e; cases e
/-- a slot -/
def SlR (c : RC) (M : Addr → Prop) (ρ : List Addr) (H : Hp) (oa : Nat → Addr) (σ : L2.St) (i : Nat) : Sl → Prop
  | .no => True
  | .ev e => ∃ v, σ[i]? = some (some v) ∧ RepE c M ρ H e v
  | .own (.lst xs) => σ[i]? = some (some (.ref (oa i))) ∧ (M (oa i) ∧ ¬ c.B (oa i)) ∧ ∃ vs, H (oa i) = some (.lst vs) ∧ All2 (Rep c M ρ H) xs vs
  | .own (.ins k fs) => σ[i]? = some (some (.ref c.s)) ∧ oa i = c.s ∧ M c.s ∧ ∃ dx gs, H c.s = some (.ins (c.C k) dx gs) ∧ Flds c M ρ H k fs gs
  | .exn k fs => σ[i]? = some (some (.ref c.s)) ∧ XnR c M ρ H k fs
structure Rl (c : RC) (M : Addr → Prop) (ρ : List Addr) (G : GS) (env : En) (σ : L2.St) (H : Hp) : Prop where
  s : SR c M ρ G H
  len : env.length ≤ σ.length
  e : ∃ oa : Nat → Addr, (∀ (i : Nat) (sl : Sl), env[i]? = some sl → SlR c M ρ H oa σ i sl) ∧ ∀ (i j : Nat) (o u : OW), env[i]? = some (.own o) → env[j]? = some (.own u) → oa i = oa j → i = j
section
variable {c : RC} {M M1 M' : Addr → Prop} {ρ ρ1 ρ' : List Addr} {H H1 H' : Hp} {G G' : GS} {env : En} {σ : L2.St}
/-- behind an evaluation that touches nothing of the frame's own -/
structure Ge (M : Addr → Prop) (ρ : List Addr) (H : Hp) (ρ' : List Addr) (H' : Hp) : Prop where
  keep : ∀ a o, H a = some o → a ∉ ρ → H' a = some o
  there : ∀ a o, H a = some o → ∃ o', H' a = some o'
  grow : ∃ ext, ρ' = ρ ++ ext ∧ ∀ a ∈ ext, H a = none
theorem Ge.gr (g : Ge M ρ H ρ' H') : Gr M ρ H M ρ' H' := ⟨fun a o e n _ => g.keep a o e n, g.there, g.grow, fun _ h => .inl h⟩
theorem Ge.refl : Ge M ρ H ρ H := ⟨fun _ _ e _ => e, fun _ o e => ⟨o, e⟩, ⟨[], by simp, by simp⟩⟩
theorem Ge.same (s : Same H H') : Ge M ρ H ρ H' := ⟨fun a o e _ => s a o e, fun a o e => ⟨o, s a o e⟩, ⟨[], by simp, by simp⟩⟩
theorem Ge.trans (g : Ge M ρ H ρ1 H1) (k : Ge M ρ1 H1 ρ' H') : Ge M ρ H ρ' H' := by
  have z := g.gr.trans k.gr
  obtain ⟨e1, h1, f1⟩ := g.grow
  refine ⟨fun a o e n => k.keep a o (g.keep a o e n) ?_, z.there, z.grow⟩
  rw [h1]; intro q
  rcases List.mem_append.mp q with q | q
  · exact n q
  · rw [f1 a q] at e; cases e
theorem Rl.ge (r : Rl c M ρ G env σ H) (g : Ge M ρ H ρ' H') (s : SR c M ρ' G' H') : Rl c M ρ' G' env σ H' := by
  obtain ⟨oa, h1, h2⟩ := r.e
  refine ⟨s, r.len, oa, fun i sl e => ?_, h2⟩
  have h := h1 i sl e
  have nr : ∀ a, M a → a ∉ ρ := fun a hm hr => (r.s.sep a hr).2 hm
  match sl, h with
  | .no, _ => trivial
  | .ev e, ⟨v, a, b⟩ => exact ⟨v, a, b.grow g.gr⟩
  | .own (.lst xs), ⟨a, b, vs, d, f⟩ => exact ⟨a, b, vs, g.keep _ _ d (nr _ b.1), reps_grow f g.gr⟩
  | .own (.ins k fs), ⟨a, o, b, dx, gs, d, f⟩ => exact ⟨a, o, b, dx, gs, g.keep _ _ d (nr _ b), flds_grow f g.gr⟩
  | .exn k fs, ⟨a, b⟩ => exact ⟨a, b.grow g.gr⟩
/-- the store behind what leaves it alone -/
theorem same_ne (h : Same H H') {a : Addr} (m : H a ≠ none) : H' a ≠ none := fun z => by
  cases e : H a with
  | none => exact m e
  | some o => rw [h a o e] at z; cases z
theorem SR.same (s : SR c M ρ G H) (h : Same H H') : SR c M ρ G H' :=
  ⟨s.len, s.nd, s.sep, fun i xs e => let ⟨a, vs, p, q, r⟩ := s.at_ i xs e; ⟨a, vs, p, h _ _ q, repEs_grow r (Gr.same h)⟩, fun a m => same_ne h (s.mt a m), fun a m => same_ne h (s.bt a m)⟩
theorem Rl.same (r : Rl c M ρ G env σ H) (h : Same H H') : Rl c M ρ G env σ H' := r.ge (Ge.same h) (r.s.same h)
/-- a new address may be read for ever -/
theorem SR.fresh (s : SR c M ρ G H) {a : Addr} (h : H a = none) : Zz c M ρ a := by
  refine ⟨fun z => s.bt a z h, fun z => s.mt a z h, fun z => ?_⟩
  obtain ⟨i, e⟩ := List.getElem?_of_mem z
  have hi : i < G.length := by rw [← s.len]; exact (List.getElem?_eq_some_iff.mp e).1
  have hg : G[i]? = some G[i] := List.getElem?_eq_getElem hi
  cases q : G[i] with
  | lst xs =>
    rw [q] at hg
    obtain ⟨b, vs, p, hb, _⟩ := s.at_ i xs hg
    rw [e] at p; cases p
    rw [h] at hb; cases hb
theorem same_upd {H : Hp} {p : Addr} {o : HO} (h : H p = none) : Same H (upd H p o) := fun b u e => by rw [upd_ne (ne_of_none e h)]; exact e
end
end DL
set_option Elab.async false
set_option linter.all false
set_option maxRecDepth 100000
set_option maxHeartbeats 4000000
namespace DL
open PySem L2 PyProof.Rows
/-- what is wanted of an outcome, at ρ and H -/
def TQ {α β : Type} (R : (Addr → Prop) → List Addr → Hp → α → β → Prop) (c : RC) (W : WX) (M : Addr → Prop) (ρ : List Addr) (σ : L2.St) (H : Hp) (o : Out α) (Q : β → Hp → Prop) : Prop := match o with
  | .ok e G' => ∀ v ρ' H', Ge M ρ H ρ' H' → SR c M ρ' G' H' → R M ρ' H' e v → Q v H'
  | .er cl fs G' => ∀ dd gs ρ' H', Ge M ρ H ρ' H' → SR c M ρ' G' H' → H' dd = some (.xd gs) → Flds c M ρ' H' cl fs gs → W (.ref (c.C cl)) (some dd) σ H'
  | .st => False
section
variable {α α' β β' : Type} {R : (Addr → Prop) → List Addr → Hp → α → β → Prop} {R' : (Addr → Prop) → List Addr → Hp → α' → β' → Prop} {c : RC} {W : WX} {M : Addr → Prop} {ρ ρ' : List Addr} {σ : L2.St} {H H' : Hp} {o : Out α} {Q Q2 : β → Hp → Prop}
theorem TQ.grow (h : TQ R c W M ρ σ H o Q) (g : Ge M ρ H ρ' H') : TQ R c W M ρ' σ H' o Q := by
  cases o with
  | ok e G => exact fun v ρ2 H2 g2 s r => h v ρ2 H2 (g.trans g2) s r
  | er cl fs G => exact fun dd gs ρ2 H2 g2 s r z => h dd gs ρ2 H2 (g.trans g2) s r z
  | st => exact h
theorem TQ.imp (h : TQ R c W M ρ σ H o Q) (k : ∀ v H', Q v H' → Q2 v H') : TQ R c W M ρ σ H o Q2 := by
  cases o with
  | ok e G => exact fun v ρ2 H2 g2 s r => k _ _ (h v ρ2 H2 g2 s r)
  | er cl fs G => exact h
  | st => exact h
theorem TQ.bind {f : α → GS → Out α'} {Q' : β' → Hp → Prop} (h : TQ R' c W M ρ σ H (o.bind f) Q') :
    TQ R c W M ρ σ H o (fun v H1 => ∃ ρ1 G1 e, Ge M ρ H ρ1 H1 ∧ SR c M ρ1 G1 H1 ∧ R M ρ1 H1 e v ∧ TQ R' c W M ρ1 σ H1 (f e G1) Q') := by
  cases o with
  | ok e G => exact fun v ρ1 H1 g s r => ⟨ρ1, G, e, g, s, r, TQ.grow h g⟩
  | er cl fs G => exact h
  | st => exact h
theorem TQ.ok {e : α} {G : GS} {v : β} (h : TQ R c W M ρ σ H (.ok e G) Q) (s : SR c M ρ G H) (r : R M ρ H e v) : Q v H := h v ρ H Ge.refl s r
theorem TQ.okS {e : α} {G : GS} {v : β} (h : TQ R c W M ρ σ H (.ok e G) Q) (s : SR c M ρ G H) (g : Same H H') (r : R M ρ H' e v) : Q v H' := h v ρ H' (Ge.same g) (s.same g) r
end
abbrev RE (c : RC) : (Addr → Prop) → List Addr → Hp → EV → V → Prop := RepE c
abbrev RA (c : RC) : (Addr → Prop) → List Addr → Hp → List EV → List V → Prop := fun M ρ H es vs => All2 (RepE c M ρ H) es vs
abbrev RB : (Addr → Prop) → List Addr → Hp → Bool → Bool → Prop := fun _ _ _ a b => a = b
abbrev BM := En → GS → Out Bool
abbrev AM := En → GS → Out (List EV)
def tD (c : RC) (W : WX) (m : EM) : TE := fun σ H Q => ∃ M ρ G env, Rl c M ρ G env σ H ∧ TQ (RE c) c W M ρ σ H (m env G) Q
def tDA (c : RC) (W : WX) (m : AM) : TA := fun σ H Q => ∃ M ρ G env, Rl c M ρ G env σ H ∧ TQ (RA c) c W M ρ σ H (m env G) Q
def tDB (c : RC) (W : WX) (m : BM) : TT := fun σ H Q => ∃ M ρ G env, Rl c M ρ G env σ H ∧ TQ RB c W M ρ σ H (m env G) Q
def DE (X : Cx) (c : RC) (W : WX) (e : Expr) (m : EM) : Prop := PE X e (tD c W m)
def DA (X : Cx) (c : RC) (W : WX) (es : List Expr) (m : AM) : Prop := PA X es (tDA c W m)
def DB (X : Cx) (c : RC) (W : WX) (e : Expr) (m : BM) : Prop := PT X e (tDB c W m)
def DW (X : Cx) (c : RC) (W : WX) (e : Expr) (m : BM) : Prop := PW X e (tDB c W m)
theorem pe_imp {X : Cx} {e : Expr} {t t' : TE} (h : PE X e t) (k : ∀ σ H Q, t' σ H Q → t σ H Q) : PE X e t' := ⟨fun pins s σ H Q I q => h.run pins s σ H Q I (k σ H Q q)⟩
theorem pa_imp {X : Cx} {e : List Expr} {t t' : TA} (h : PA X e t) (k : ∀ σ H Q, t' σ H Q → t σ H Q) : PA X e t' := ⟨fun pos pins s σ H Q I q => h.run pos pins s σ H Q I (k σ H Q q)⟩
theorem pt_imp {X : Cx} {e : Expr} {t t' : TT} (h : PT X e t) (k : ∀ σ H Q, t' σ H Q → t σ H Q) : PT X e t' := ⟨fun pins s σ H Q I q => h.run pins s σ H Q I (k σ H Q q)⟩
theorem pw_imp {X : Cx} {e : Expr} {t t' : TT} (h : PW X e t) (k : ∀ σ H Q, t' σ H Q → t σ H Q) : PW X e t' := ⟨fun wh pins s σ H Q I q => h.run wh pins s σ H Q I (k σ H Q q)⟩
/-! ### the meanings -/
def eVar (i : Nat) : EM := fun env G => match env[i]? with
  | some (.ev e) => .ok e G
  | _ => .st
def eC (x : D) : EM := fun _ G => .ok (.d x) G
/-- two values and a rule that raises nothing -/
abbrev F2 := EV → EV → GS → Option (EV × GS)
abbrev F1 := EV → GS → Option (EV × GS)
abbrev FN := List EV → GS → Option (EV × GS)
def lift {α : Type} : Option (α × GS) → Out α
  | some (e, G) => .ok e G
  | none => .st
def eOp (f : F2) (a b : EM) : EM := fun env G => (a env G).bind fun x G1 => (b env G1).bind fun y G2 => lift (f x y G2)
def eUn (f : F1) (a : EM) : EM := fun env G => (a env G).bind fun x G1 => lift (f x G1)
def aNil : AM := fun _ G => .ok [] G
def aCons (a : EM) (r : AM) : AM := fun env G => (a env G).bind fun x G1 => (r env G1).bind fun xs G2 => .ok (x :: xs) G2
def eFN (f : FN) (r : AM) : EM := fun env G => (r env G).bind fun xs G1 => lift (f xs G1)
/-- on plain data alone -/
def pure2 (g : D → D → Option D) : F2 := fun x y G => match x, y with
  | .d a, .d b => (g a b).map fun z => (.d z, G)
  | _, _ => none
def pure1 (g : D → Option D) : F1 := fun x G => match x with
  | .d a => (g a).map fun z => (.d z, G)
  | _ => none
def datas : List EV → Option (List D)
  | [] => some []
  | .d x :: r => (datas r).map (x :: ·)
  | _ :: _ => none
def pureN (g : List D → Option D) : FN := fun xs G => (datas xs).bind fun ds => (g ds).map fun z => (.d z, G)
/-! ### rules by values -/
/-- what a rule that raises nothing asks -/
def VQ (c : RC) (M : Addr → Prop) (ρ : List Addr) (H : Hp) (o : Option (EV × GS)) (Q : VK) : Prop := match o with
  | some (e, G') => ∀ v ρ' H', Ge M ρ H ρ' H' → SR c M ρ' G' H' → RepE c M ρ' H' e v → Q v H'
  | none => False
def V2 (c : RC) (f : F2) : R2 := fun x y H Q => ∃ M ρ G a b, SR c M ρ G H ∧ RepE c M ρ H a x ∧ RepE c M ρ H b y ∧ VQ c M ρ H (f a b G) Q
def V1 (c : RC) (f : F1) : V → Hp → VK → Prop := fun x H Q => ∃ M ρ G a, SR c M ρ G H ∧ RepE c M ρ H a x ∧ VQ c M ρ H (f a G) Q
def VN (c : RC) (f : FN) : List V → Hp → VK → Prop := fun xs H Q => ∃ M ρ G es, SR c M ρ G H ∧ All2 (RepE c M ρ H) es xs ∧ VQ c M ρ H (f es G) Q
section
variable {X : Cx} {c : RC} {W : WX} {e a b : Expr} {es : List Expr} {ma mb : EM} {mr : AM} {pos : Pos} {M : Addr → Prop} {ρ : List Addr} {σ : L2.St} {H : Hp}
theorem VQ.of {o : Option (EV × GS)} {Q : VK} (h : TQ (RE c) c W M ρ σ H (lift o) Q) : VQ c M ρ H o Q := by
  cases o with
  | none => exact h
  | some p => exact h
theorem de_var {i : Nat} {x : Str} (h : PE X (.Name x pos) (tVar i)) : DE X c W (.Name x pos) (eVar i) := by
  refine pe_imp h fun σ H Q q => ?_
  obtain ⟨M, ρ, G, env, R, q⟩ := q
  unfold eVar at q
  obtain ⟨oa, h1, _⟩ := R.e
  split at q
  · rename_i e he
    obtain ⟨v, hv, r⟩ := h1 i _ he
    exact ⟨v, hv, q.ok R.s r⟩
  · exact q.elim
theorem de_c {x : D} {v : V} (h : PE X e (tC v)) (r : ∀ M ρ H, Rep c M ρ H x v) : DE X c W e (eC x) := by
  refine pe_imp h fun σ H Q q => ?_
  obtain ⟨M, ρ, G, env, R, q⟩ := q
  exact q.ok R.s (r M ρ H)
theorem de_int {i j} : DE X c W (.Constant (.int i) j pos) (eC (.int i)) := de_c pe_int fun _ _ _ => .int
theorem de_bl {i j} : DE X c W (.Constant (.bool i) j pos) (eC (.bl i)) := de_c pe_bl fun _ _ _ => .bl
theorem de_str {i j} : DE X c W (.Constant (.str i) j pos) (eC (.str i)) := de_c pe_str fun _ _ _ => .str
theorem de_op {op : Operator} {f : F2} (ho : OpR X (binaryOp op) (V2 c f)) (ha : DE X c W a ma) (hb : DE X c W b mb) : DE X c W (.BinOp a op b pos) (eOp f ma mb) := by
  refine pe_imp (pe_op ho ha hb) fun σ H Q q => ?_
  obtain ⟨M, ρ, G, env, R, q⟩ := q
  refine ⟨M, ρ, G, env, R, (TQ.bind (R := RE c) q).imp fun v H1 ⟨ρ1, G1, e1, g1, s1, r1, q1⟩ => ?_⟩
  refine ⟨M, ρ1, G1, env, R.ge g1 s1, (TQ.bind (R := RE c) q1).imp fun u H2 ⟨ρ2, G2, e2, g2, s2, r2, q2⟩ => ?_⟩
  exact ⟨M, ρ2, G2, e1, e2, s2, r1.grow g2.gr, r2, VQ.of q2⟩
theorem de_cmp {op : CmpOp} {f : F2} (ho : OpR X (compareOp op) (V2 c f)) (ha : DE X c W a ma) (hb : DE X c W b mb) (hm : behindInMarks op b = false) : DE X c W (.Compare a [op] [b] pos) (eOp f ma mb) := by
  refine pe_imp (pe_cmpR ho ha hb hm) fun σ H Q q => ?_
  obtain ⟨M, ρ, G, env, R, q⟩ := q
  refine ⟨M, ρ, G, env, R, (TQ.bind (R := RE c) q).imp fun v H1 ⟨ρ1, G1, e1, g1, s1, r1, q1⟩ => ?_⟩
  refine ⟨M, ρ1, G1, env, R.ge g1 s1, (TQ.bind (R := RE c) q1).imp fun u H2 ⟨ρ2, G2, e2, g2, s2, r2, q2⟩ => ?_⟩
  exact ⟨M, ρ2, G2, e1, e2, s2, r1.grow g2.gr, r2, VQ.of q2⟩
theorem de_un {op : UnaryOp} {f : F1} (ho : UnR X (unaryOp op) (V1 c f)) (ha : DE X c W a ma) : DE X c W (.UnaryOp op a pos) (eUn f ma) := by
  refine pe_imp (pe_un ho ha) fun σ H Q q => ?_
  obtain ⟨M, ρ, G, env, R, q⟩ := q
  refine ⟨M, ρ, G, env, R, (TQ.bind (R := RE c) q).imp fun v H1 ⟨ρ1, G1, e1, g1, s1, r1, q1⟩ => ?_⟩
  exact ⟨M, ρ1, G1, e1, s1, r1, VQ.of q1⟩
theorem da_nil : DA X c W [] aNil := pa_imp pa_nil fun σ H Q ⟨M, ρ, G, env, R, q⟩ => q.ok R.s .nil
theorem da_cons (ha : DE X c W e ma) (hr : DA X c W es mr) (hs : starEach (e :: es) X.env = (false, eval e X.env) :: starEach es X.env := by rfl) : DA X c W (e :: es) (aCons ma mr) := by
  refine pa_imp (pa_cons ha hr hs) fun σ H Q q => ?_
  obtain ⟨M, ρ, G, env, R, q⟩ := q
  refine ⟨M, ρ, G, env, R, (TQ.bind (R := RE c) q).imp fun v H1 ⟨ρ1, G1, e1, g1, s1, r1, q1⟩ => ?_⟩
  refine ⟨M, ρ1, G1, env, R.ge g1 s1, (TQ.bind (R := RA c) q1).imp fun u H2 ⟨ρ2, G2, e2, g2, s2, r2, q2⟩ => ?_⟩
  exact q2.ok s2 (.cons (r1.grow g2.gr) r2)
/-- a call of a built-in by its name -/
theorem de_callB {x : Str} {p : Pos} {id : String} {f : FN} (hc : CallR X (.builtin id) (VN c f)) (hg : Gl X x) (hm : X.mg x = none) (hv : bootBuiltins x = some (.builtin id)) (ha : DA X c W (e :: es) mr) (hn : x ≠ "__name__" := by decide) (hdb : (x == ("__debug__" : Str)) = false := by decide)
    (he : starEach (e :: es) X.env = (false, eval e X.env) :: starEach es X.env := by rfl) (hpl : (backTo pos (starEach es X.env)).any (·.1) = false := by rfl) : DE X c W (.Call (.Name x p) (e :: es) [] pos) (eFN f mr) := by
  refine pe_imp (pe_callB hc hg hm hv ha hn hdb he hpl) fun σ H Q q => ?_
  obtain ⟨M, ρ, G, env, R, q⟩ := q
  refine ⟨M, ρ, G, env, R, (TQ.bind (R := RA c) q).imp fun v H1 ⟨ρ1, G1, e1, g1, s1, r1, q1⟩ => ?_⟩
  exact ⟨M, ρ1, G1, e1, s1, r1, VQ.of q1⟩
theorem de_callT {x : Str} {p : Pos} {T : String} {f : FN} (hc : CallR X (.type T) (VN c f)) (hg : Gl X x) (hm : X.mg x = none) (hv : bootBuiltins x = some (.type T)) (ha : DA X c W (e :: es) mr) (hn : x ≠ "__name__" := by decide) (hdb : (x == ("__debug__" : Str)) = false := by decide)
    (he : starEach (e :: es) X.env = (false, eval e X.env) :: starEach es X.env := by rfl) (hpl : (backTo pos (starEach es X.env)).any (·.1) = false := by rfl) : DE X c W (.Call (.Name x p) (e :: es) [] pos) (eFN f mr) := by
  refine pe_imp (pe_callTy hc hg hm hv ha hn hdb he hpl) fun σ H Q q => ?_
  obtain ⟨M, ρ, G, env, R, q⟩ := q
  refine ⟨M, ρ, G, env, R, (TQ.bind (R := RA c) q).imp fun v H1 ⟨ρ1, G1, e1, g1, s1, r1, q1⟩ => ?_⟩
  exact ⟨M, ρ1, G1, e1, s1, r1, VQ.of q1⟩
end
end DL
set_option Elab.async false
set_option linter.all false
set_option maxRecDepth 100000
set_option maxHeartbeats 4000000
namespace DL
open PySem L2 PyProof.Rows
/-! ### tests -/
/-- truth of plain data -/
def tru : D → Option Bool
  | .non => some false
  | .bl b => some b
  | .int i => some (i != 0)
  | .str x => if x.length ≤ 1000000 then some (x.length != 0) else none
  | .lst xs => some (!xs.isEmpty)
  | .tup xs => some (!xs.isEmpty)
  | _ => none
def bOf (f : EV → GS → Option (Bool × GS)) (m : EM) : BM := fun env G => (m env G).bind fun e G1 => lift (f e G1)
def truE : EV → GS → Option (Bool × GS) := fun e G => match e with
  | .d x => (tru x).map (·, G)
  | _ => none
def isB : EV → GS → Option (Bool × GS) := fun e G => match e with
  | .d (.bl b) => some (b, G)
  | _ => none
def bAnd (a b : BM) : BM := fun env G => (a env G).bind fun k G1 => if k = true then b env G1 else .ok false G1
def bOr (a b : BM) : BM := fun env G => (a env G).bind fun k G1 => if k = true then .ok true G1 else b env G1
def bNot (a : BM) : BM := fun env G => (a env G).bind fun k G1 => .ok (!k) G1
def eAnd (a b : EM) : EM := fun env G => (a env G).bind fun x G1 => match x with
  | .d (.bl true) => b env G1
  | .d (.bl false) => .ok (.d (.bl false)) G1
  | _ => .st
def eOr (a b : EM) : EM := fun env G => (a env G).bind fun x G1 => match x with
  | .d (.bl true) => .ok (.d (.bl true)) G1
  | .d (.bl false) => b env G1
  | _ => .st
def eNot (a : EM) : EM := fun env G => (a env G).bind fun x G1 => match x with
  | .d (.bl k) => .ok (.d (.bl (!k))) G1
  | _ => .st
def eIf (t : BM) (a b : EM) : EM := fun env G => (t env G).bind fun k G1 => if k = true then a env G1 else b env G1
section
variable {X : Cx} {c : RC} {W : WX} {e a b t : Expr} {rest : List Expr} {ma mb : EM} {ta tb : BM} {pos : Pos} {M : Addr → Prop} {ρ : List Addr} {σ : L2.St} {H : Hp}
theorem all2_isEmpty {α β : Type} {R : α → β → Prop} {xs : List α} {ys : List β} (h : All2 R xs ys) : xs.isEmpty = ys.isEmpty := by cases h <;> rfl
theorem tru_of {K : PySem.W.Frag} {x : D} {v : V} {k : Bool} (r : Rep c M ρ H x v) (h : tru x = some k) (hK : c.K = K) : TruV K v H k := by
  cases x with
  | non => cases r.of_non; injection h with h; exact h.symm
  | bl b => cases r.of_bl; injection h with h; exact h.symm
  | int i => cases r.of_int; injection h with h; exact h.symm
  | str z =>
    cases r.of_str
    dsimp only [tru] at h
    split at h
    · rename_i hz
      injection h with h
      refine ⟨Nat.le_trans hz (by decide), ?_⟩
      rw [← h]
      generalize z.length = n
      rcases n with _ | n
      · rfl
      · rfl
    · cases h
  | tup xs => obtain ⟨a, vs, rfl, z, q⟩ := r.of_tup; injection h with h; subst hK; exact .inr (.inl ⟨vs, z.sq, by rw [← h, all2_isEmpty q]⟩)
  | lst xs => obtain ⟨a, vs, rfl, z, q⟩ := r.of_lst; injection h with h; subst hK; exact .inl ⟨vs, z.sq, by rw [← h, all2_isEmpty q]⟩
  | ins k fs => cases h
  | cls k => cases h
  | ty k => cases h
theorem db_tru (hK : c.K = X.K) (ha : DE X c W a ma) (he : ∀ whole, isTrue a X.env whole = (do let v ← whole; standAt a.pos; holding [v] (truthy v)) := by intro _; rfl) : DB X c W a (bOf truE ma) := by
  refine pt_imp (pt_truth ha he) fun σ H Q q => ?_
  obtain ⟨M, ρ, G, env, R, q⟩ := q
  refine ⟨M, ρ, G, env, R, (TQ.bind (R := RE c) q).imp fun v H1 ⟨ρ1, G1, e1, g1, s1, r1, q1⟩ => ?_⟩
  cases e1 with
  | o i => exact q1.elim
  | d x =>
    dsimp only [truE] at q1
    cases hx : tru x with
    | none => rw [hx] at q1; exact q1.elim
    | some k => rw [hx] at q1; exact ⟨k, tru_of r1 hx hK, q1.ok s1 rfl⟩
theorem bl_of {e1 : EV} {v : V} {G1 : GS} {Q : Bool → Hp → Prop} (s1 : SR c M ρ G1 H) (r1 : RepE c M ρ H e1 v) (q1 : TQ RB c W M ρ σ H (lift (isB e1 G1)) Q) : ∃ k, v = .bl k ∧ Q k H := by
  unfold isB at q1
  split at q1
  · rename_i b
    exact ⟨b, Rep.of_bl r1, q1.ok s1 rfl⟩
  · exact q1.elim
theorem db_cmp {op : CmpOp} {f : F2} (ho : OpR X (compareOp op) (V2 c f)) (ha : DE X c W a ma) (hb : DE X c W b mb) (hm : behindInMarks op b = false) : DB X c W (.Compare a [op] [b] pos) (bOf isB (eOp f ma mb)) := by
  refine pt_imp (pt_cmpR ho ha hb hm) fun σ H Q q => ?_
  obtain ⟨M, ρ, G, env, R, q⟩ := q
  refine ⟨M, ρ, G, env, R, ?_⟩
  have q' := TQ.bind (R := RE c) q
  refine (TQ.bind (R := RE c) q').imp fun v H1 ⟨ρ1, G1, e1, g1, s1, r1, q1⟩ => ?_
  refine ⟨M, ρ1, G1, env, R.ge g1 s1, (TQ.bind (R := RE c) q1).imp fun u H2 ⟨ρ2, G2, e2, g2, s2, r2, q2⟩ => ?_⟩
  refine ⟨M, ρ2, G2, e1, e2, s2, r1.grow g2.gr, r2, ?_⟩
  cases hf : f e1 e2 G2 with
  | none => rw [hf] at q2; exact q2.elim
  | some p =>
    rw [hf] at q2
    intro z ρ3 H3 g3 s3 r3
    obtain ⟨ρ4, G4, e4, g4, s4, r4, q4⟩ := q2 z ρ3 H3 g3 s3 r3
    exact bl_of s4 r4 q4
theorem dw_and1 (h : DB X c W a ta) : DW X c W (.BoolOp .And [a] pos) ta := pw_and1 h
theorem dw_or1 (h : DB X c W a ta) : DW X c W (.BoolOp .Or [a] pos) ta := pw_or1 h
theorem DW.db (h : DW X c W e ta) : DB X c W e ta := PW.pt h
theorem dw_and (h : DB X c W a ta) (k : DW X c W (.BoolOp .And (b :: rest) pos) tb) : DW X c W (.BoolOp .And (a :: b :: rest) pos) (bAnd ta tb) := by
  refine pw_imp (pw_and h k) fun σ H Q q => ?_
  obtain ⟨M, ρ, G, env, R, q⟩ := q
  refine ⟨M, ρ, G, env, R, (TQ.bind (R := RB) q).imp fun v H1 ⟨ρ1, G1, e1, g1, s1, r1, q1⟩ => ?_⟩
  obtain rfl : v = e1 := Eq.symm r1
  cases v with
  | true => exact ⟨M, ρ1, G1, env, R.ge g1 s1, q1⟩
  | false => exact q1.ok s1 rfl
theorem dw_or (h : DB X c W a ta) (k : DW X c W (.BoolOp .Or (b :: rest) pos) tb) : DW X c W (.BoolOp .Or (a :: b :: rest) pos) (bOr ta tb) := by
  refine pw_imp (pw_or h k) fun σ H Q q => ?_
  obtain ⟨M, ρ, G, env, R, q⟩ := q
  refine ⟨M, ρ, G, env, R, (TQ.bind (R := RB) q).imp fun v H1 ⟨ρ1, G1, e1, g1, s1, r1, q1⟩ => ?_⟩
  obtain rfl : v = e1 := Eq.symm r1
  cases v with
  | true => exact q1.ok s1 rfl
  | false => exact ⟨M, ρ1, G1, env, R.ge g1 s1, q1⟩
theorem db_not (h : DB X c W a ta) : DB X c W (.UnaryOp .Not a pos) (bNot ta) := by
  refine pt_imp (pt_not h) fun σ H Q q => ?_
  obtain ⟨M, ρ, G, env, R, q⟩ := q
  refine ⟨M, ρ, G, env, R, (TQ.bind (R := RB) q).imp fun v H1 ⟨ρ1, G1, e1, g1, s1, r1, q1⟩ => ?_⟩
  obtain rfl : v = e1 := Eq.symm r1
  exact q1.ok s1 rfl
theorem de_one {op} (h : DE X c W a ma) : DE X c W (.BoolOp op [a] pos) ma := pe_one h
theorem de_and (h : DE X c W a ma) (k : DE X c W (.BoolOp .And (b :: rest) pos) mb) : DE X c W (.BoolOp .And (a :: b :: rest) pos) (eAnd ma mb) := by
  refine pe_imp (pe_and h k) fun σ H Q q => ?_
  obtain ⟨M, ρ, G, env, R, q⟩ := q
  refine ⟨M, ρ, G, env, R, (TQ.bind (R := RE c) q).imp fun v H1 ⟨ρ1, G1, e1, g1, s1, r1, q1⟩ => ?_⟩
  split at q1
  · exact ⟨true, Rep.of_bl r1, M, ρ1, G1, env, R.ge g1 s1, q1⟩
  · exact ⟨false, Rep.of_bl r1, q1.ok s1 Rep.bl⟩
  · exact q1.elim
theorem de_not (h : DE X c W a ma) : DE X c W (.UnaryOp .Not a pos) (eNot ma) := by
  refine pe_imp (pe_not h) fun σ H Q q => ?_
  obtain ⟨M, ρ, G, env, R, q⟩ := q
  refine ⟨M, ρ, G, env, R, (TQ.bind (R := RE c) q).imp fun v H1 ⟨ρ1, G1, e1, g1, s1, r1, q1⟩ => ?_⟩
  split at q1
  · exact ⟨_, Rep.of_bl r1, q1.ok s1 Rep.bl⟩
  · exact q1.elim
end
/-! ### statements -/
inductive OutS where
  | nx (env : En) (G : GS) | rt (e : EV) (G : GS) | bk (env : En) (G : GS) | ct (env : En) (G : GS)
  | er (c : String) (fs : List D) (env : En) (G : GS) | st
abbrev SM := En → GS → OutS
def SQ (c : RC) (W : WX) (M : Addr → Prop) (ρ : List Addr) (H : Hp) (o : OutS) (Dn : Ends) : Prop := match o with
  | .nx env' G' => ∀ M' ρ' σ' H', Gr M ρ H M' ρ' H' → Rl c M' ρ' G' env' σ' H' → Dn.nx σ' H'
  | .bk env' G' => ∀ M' ρ' σ' H', Gr M ρ H M' ρ' H' → Rl c M' ρ' G' env' σ' H' → Dn.bk σ' H'
  | .ct env' G' => ∀ M' ρ' σ' H', Gr M ρ H M' ρ' H' → Rl c M' ρ' G' env' σ' H' → Dn.ct σ' H'
  | .rt e G' => ∀ M' ρ' v H', Gr M ρ H M' ρ' H' → SR c M' ρ' G' H' → RepE c M' ρ' H' e v → Dn.rt v H'
  | .er cl fs env' G' => ∀ M' ρ' σ' H' dd gs, Gr M ρ H M' ρ' H' → Rl c M' ρ' G' env' σ' H' → H' dd = some (.xd gs) → Flds c M' ρ' H' cl fs gs → W (.ref (c.C cl)) (some dd) σ' H'
  | .st => False
def tDS (c : RC) (W : WX) (m : SM) : TS := fun Dn σ H => ∃ M ρ G env, Rl c M ρ G env σ H ∧ SQ c W M ρ H (m env G) Dn
def DS (X : Cx) (c : RC) (W : WX) (s : Stmt) (m : SM) : Prop := PS X s (tDS c W m)
def DSs (X : Cx) (c : RC) (W : WX) (s : List Stmt) (m : SM) : Prop := PSs X s (tDS c W m)
theorem ps_imp {X : Cx} {e : Stmt} {t t' : TS} (h : PS X e t) (k : ∀ D σ H, t' D σ H → t D σ H) : PS X e t' := ⟨fun pins s σ H D I q => h.run pins s σ H D I (k D σ H q)⟩
theorem pss_imp {X : Cx} {e : List Stmt} {t t' : TS} (h : PSs X e t) (k : ∀ D σ H, t' D σ H → t D σ H) : PSs X e t' := ⟨fun pins s σ H D I q => h.run pins s σ H D I (k D σ H q)⟩
section
variable {c : RC} {W : WX} {M M' : Addr → Prop} {ρ ρ' : List Addr} {H H' : Hp} {o : OutS} {Dn Dn' : Ends} {σ : L2.St} {G : GS} {env : En}
theorem SQ.grow (h : SQ c W M ρ H o Dn) (g : Gr M ρ H M' ρ' H') : SQ c W M' ρ' H' o Dn := by
  cases o with
  | nx e G => exact fun a b d f g2 r => h a b d f (g.trans g2) r
  | bk e G => exact fun a b d f g2 r => h a b d f (g.trans g2) r
  | ct e G => exact fun a b d f g2 r => h a b d f (g.trans g2) r
  | rt e G => exact fun a b d f g2 r => h a b d f (g.trans g2) r
  | er cl fs e G => exact fun a b d f dd gs g2 r => h a b d f dd gs (g.trans g2) r
  | st => exact h
/-- an expression ahead of the rest of a statement -/
def ofE {α : Type} (o : Out α) (env : En) (k : α → GS → OutS) : OutS := match o with
  | .ok e G => k e G
  | .er c fs G => .er c fs env G
  | .st => .st
theorem SQ.ofE {α β : Type} {R : (Addr → Prop) → List Addr → Hp → α → β → Prop} {m : Out α} {k : α → GS → OutS} (Rr : Rl c M ρ G env σ H) (h : SQ c W M ρ H (ofE m env k) Dn) :
    TQ R c W M ρ σ H m (fun v H1 => ∃ ρ1 G1 e, Ge M ρ H ρ1 H1 ∧ Rl c M ρ1 G1 env σ H1 ∧ R M ρ1 H1 e v ∧ SQ c W M ρ1 H1 (k e G1) Dn) := by
  cases m with
  | ok e G => exact fun v ρ1 H1 g s r => ⟨ρ1, G, e, g, Rr.ge g s, r, SQ.grow h g.gr⟩
  | er cl fs G => exact fun dd gs ρ1 H1 g s e f => h M ρ1 σ H1 dd gs g.gr (Rr.ge g s) e f
  | st => exact h
end
def seqO (o : OutS) (k : En → GS → OutS) : OutS := match o with
  | .nx env G => k env G
  | o => o
def sSeq (a b : SM) : SM := fun env G => seqO (a env G) b
def sNil : SM := fun env G => .nx env G
def sSet (i : Nat) (m : EM) : SM := fun env G => ofE (m env G) env fun e G1 => .nx (env.set i (.ev e)) G1
def sRet (m : EM) : SM := fun env G => ofE (m env G) env fun e G1 => .rt e G1
def sRetN : SM := fun _ G => .rt (.d .non) G
def sDrop (m : EM) : SM := fun env G => ofE (m env G) env fun _ G1 => .nx env G1
def sIf (t : BM) (a b : SM) : SM := fun env G => ofE (t env G) env fun k G1 => if k = true then a env G1 else b env G1
def sSt : SM := fun _ _ => .st
def sBk : SM := fun env G => .bk env G
def sCt : SM := fun env G => .ct env G
section
variable {X : Cx} {c : RC} {W : WX} {e t : Expr} {st : Stmt} {sts as bs : List Stmt} {me : EM} {mt : BM} {ms mr ma mb : SM} {pos : Pos}
theorem dss_nil : DSs X c W [] sNil := by
  refine pss_imp pss_nil fun Dn σ H q => ?_
  obtain ⟨M, ρ, G, env, R, q⟩ := q
  exact q M ρ σ H Gr.refl R
theorem SQ.seq {M : Addr → Prop} {ρ : List Addr} {H : Hp} {o : OutS} {k : SM} {Dn : Ends} (h : SQ c W M ρ H (seqO o k) Dn) : SQ c W M ρ H o { Dn with nx := tDS c W k Dn } := by
  cases o with
  | nx env G => exact fun M' ρ' σ' H' g R => ⟨M', ρ', G, env, R, SQ.grow h g⟩
  | bk e G => exact h
  | ct e G => exact h
  | rt e G => exact h
  | er cl fs e G => exact h
  | st => exact h
theorem dss_cons (h : DS X c W st ms) (k : DSs X c W sts mr) : DSs X c W (st :: sts) (sSeq ms mr) := by
  refine pss_imp (pss_cons h k) fun Dn σ H q => ?_
  obtain ⟨M, ρ, G, env, R, q⟩ := q
  exact ⟨M, ρ, G, env, R, SQ.seq q⟩
theorem dss_one (h : DS X c W st ms) : DSs X c W [st] ms := pss_one h
theorem ds_never : DS X c W st sSt := by
  refine ps_imp ps_never fun Dn σ H q => ?_
  obtain ⟨M, ρ, G, env, R, q⟩ := q
  exact q.elim
theorem Rl.set {M : Addr → Prop} {ρ : List Addr} {G : GS} {env : En} {σ : L2.St} {H : Hp} {i : Nat} {x : EV} {v : V} (R : Rl c M ρ G env σ H) (r : RepE c M ρ H x v) : Rl c M ρ G (env.set i (.ev x)) (σ.set i (some v)) H := by
  obtain ⟨oa, h1, h2⟩ := R.e
  have ne : ∀ (j : Nat) (sl : Sl), (env.set i (.ev x))[j]? = some sl → (j = i ∧ sl = .ev x) ∨ (j ≠ i ∧ env[j]? = some sl) := fun j sl e => by
    by_cases hj : j = i
    · subst hj
      have hl : j < env.length := by
        have := (List.getElem?_eq_some_iff.mp e).1
        rwa [List.length_set] at this
      rw [List.getElem?_set_self hl] at e
      exact .inl ⟨rfl, (Option.some.inj e).symm⟩
    · rw [List.getElem?_set_ne (Ne.symm hj)] at e
      exact .inr ⟨hj, e⟩
  refine ⟨R.s, by simpa using R.len, oa, fun j sl e => ?_, fun j k o u e1 e2 e3 => ?_⟩
  · rcases ne j sl e with ⟨rfl, rfl⟩ | ⟨hj, e'⟩
    · exact ⟨v, List.getElem?_set_self (Nat.lt_of_lt_of_le (by simpa using (List.getElem?_eq_some_iff.mp e).1) R.len), r⟩
    · have h := h1 j sl e'
      have sg : (σ.set i (some v))[j]? = σ[j]? := List.getElem?_set_ne (Ne.symm hj)
      match sl, h with
      | .no, _ => trivial
      | .ev e, ⟨v, a, b⟩ => exact ⟨v, by rw [sg]; exact a, b⟩
      | .own (.lst xs), ⟨a, b⟩ => exact ⟨by rw [sg]; exact a, b⟩
      | .own (.ins k fs), ⟨a, b⟩ => exact ⟨by rw [sg]; exact a, b⟩
      | .exn k fs, ⟨a, b⟩ => exact ⟨by rw [sg]; exact a, b⟩
  · rcases ne j _ e1 with ⟨_, z⟩ | ⟨_, e1⟩
    · cases z
    · rcases ne k _ e2 with ⟨_, z⟩ | ⟨_, e2⟩
      · cases z
      · exact h2 j k o u e1 e2 e3
theorem ds_set {i : Nat} {x : Str} {pos' : Pos} (hN : X.N.Nodup) (hi : X.N[i]? = some x) (hx : Loc X.env.scope x) (he : DE X c W e me) (hs : swapsWith e (some (.Name x pos')) pos.line X.env = pure false := by rfl)
    (hf : X.fn x = true ∨ X.env.scope.names.lookup x = some .local := by first | exact .inl rfl | exact .inr rfl | assumption) : DS X c W (.Assign [.Name x pos'] e pos) (sSet i me) := by
  refine ⟨fun pins s σ H D I q => (ps_set hN hi hx he hs hf).run pins s σ H D I ?_⟩
  obtain ⟨M, ρ, G, env, R, q⟩ := q
  refine ⟨M, ρ, G, env, R, (SQ.ofE (R := RE c) R q).imp fun v H1 ⟨ρ1, G1, e1, g1, R1, r1, q1⟩ => ?_⟩
  exact q1 M ρ1 _ H1 Gr.refl (R1.set r1)
theorem ds_ret (he : DE X c W e me) : DS X c W (.Return (some e) pos) (sRet me) := by
  refine ps_imp (ps_ret he) fun Dn σ H q => ?_
  obtain ⟨M, ρ, G, env, R, q⟩ := q
  refine ⟨M, ρ, G, env, R, (SQ.ofE (R := RE c) R q).imp fun v H1 ⟨ρ1, G1, e1, g1, R1, r1, q1⟩ => ?_⟩
  exact q1 M ρ1 _ H1 Gr.refl R1.s r1
theorem ds_expr (he : DE X c W e me) (hs : swapsWith e none pos.line X.env = pure false := by rfl) : DS X c W (.Expr e pos) (sDrop me) := by
  refine ps_imp (ps_expr he hs) fun Dn σ H q => ?_
  obtain ⟨M, ρ, G, env, R, q⟩ := q
  refine ⟨M, ρ, G, env, R, (SQ.ofE (R := RE c) R q).imp fun v H1 ⟨ρ1, G1, e1, g1, R1, r1, q1⟩ => ?_⟩
  exact q1 M ρ1 _ H1 Gr.refl R1
theorem ds_if (ht : DB X c W t mt) (ha : DSs X c W as ma) (hb : DSs X c W bs mb) : DS X c W (.If t as bs pos) (sIf mt ma mb) := by
  refine ps_imp (ps_if ht ha hb) fun Dn σ H q => ?_
  obtain ⟨M, ρ, G, env, R, q⟩ := q
  refine ⟨M, ρ, G, env, R, (SQ.ofE (R := RB) R q).imp fun v H1 ⟨ρ1, G1, e1, g1, R1, r1, q1⟩ => ?_⟩
  obtain rfl : v = e1 := Eq.symm r1
  cases v with
  | true => rw [if_pos rfl] at q1 ⊢; exact ⟨M, ρ1, G1, env, R1, q1⟩
  | false => exact ⟨M, ρ1, G1, env, R1, q1⟩
end
end DL
set_option Elab.async false
set_option linter.all false
set_option maxRecDepth 100000
set_option maxHeartbeats 4000000
namespace DL
open PySem L2 PyProof.Rows
abbrev nM : Addr → Prop := fun _ => False
section
variable {c c' : RC} {M M' : Addr → Prop} {ρ ρ' : List Addr} {H H' : Hp} {G : GS}
/-- the same data under other protections -/
structure Cv (c : RC) (M : Addr → Prop) (c' : RC) (M' : Addr → Prop) (ρ : List Addr) : Prop where
  K : c'.K = c.K
  C : c'.C = c.C
  N : c'.N = c.N
  z : ∀ a, Zz c M ρ a → Zz c' M' ρ a
theorem ZL.cv {a : Addr} {xs : List V} (v : Cv c M c' M' ρ) (h : ZL c M ρ H a xs) : ZL c' M' ρ H a xs := h.elim (fun q => .inl ⟨v.z a q.1, q.2⟩) fun q => .inr (by rw [v.K]; exact q)
theorem ZT.cv {a : Addr} {xs : List V} (v : Cv c M c' M' ρ) (h : ZT c M ρ H a xs) : ZT c' M' ρ H a xs := h.elim (fun q => .inl ⟨v.z a q.1, q.2⟩) fun q => .inr (by rw [v.K]; exact q)
theorem RepN.cv (v : Cv c M c' M' ρ) : ∀ {n : Nat} {d : D} {u : V}, RepN c M ρ H n d u → RepN c' M' ρ H n d u := by
  intro n
  induction n with
  | zero =>
    intro d u h
    cases d with
    | cls k => show u = _; rw [v.C]; exact h
    | _ => exact h
  | succ n ih =>
    intro d u h
    cases d with
    | tup xs => obtain ⟨a, vs, e, z, r⟩ := h; exact ⟨a, vs, e, z.cv v, r.imp fun _ _ q => ih q⟩
    | lst xs => obtain ⟨a, vs, e, z, r⟩ := h; exact ⟨a, vs, e, z.cv v, r.imp fun _ _ q => ih q⟩
    | ins k fs => obtain ⟨a, dx, gs, e, z, e2, nm, r⟩ := h; exact ⟨a, dx, gs, e, v.z a z, by rw [v.C]; exact e2, by rw [v.N]; exact nm, r.imp fun _ _ q => ih q⟩
    | cls k => show u = _; rw [v.C]; exact h
    | _ => exact h
theorem Rep.cv (v : Cv c M c' M' ρ) {d : D} {u : V} (h : Rep c M ρ H d u) : Rep c' M' ρ H d u := let ⟨n, q⟩ := h; ⟨n, q.cv v⟩
theorem RepE.cv (v : Cv c M c' M' ρ) {d : EV} {u : V} (h : RepE c M ρ H d u) : RepE c' M' ρ H d u := by
  cases d with
  | d x => exact Rep.cv v h
  | o i => exact h
theorem repEs_cv (v : Cv c M c' M' ρ) {d : List EV} {u : List V} (h : All2 (RepE c M ρ H) d u) : All2 (RepE c' M' ρ H) d u := h.imp fun _ _ q => q.cv v
theorem flds_cv (v : Cv c M c' M' ρ) {k : String} {fs : List D} {gs : List (Str × V)} (h : Flds c M ρ H k fs gs) : Flds c' M' ρ H k fs gs := ⟨by rw [v.N]; exact h.nm, h.r.imp fun _ _ q => q.cv v⟩
theorem SR.cv (v : Cv c M c' M' ρ) (s : SR c M ρ G H) (h1 : ∀ a ∈ ρ, ¬ c'.B a ∧ ¬ M' a) (h2 : ∀ a, M' a → H a ≠ none) (h3 : ∀ a, c'.B a → H a ≠ none) : SR c' M' ρ G H :=
  ⟨s.len, s.nd, h1, fun i xs e => let ⟨a, vs, p, q, r⟩ := s.at_ i xs e; ⟨a, vs, p, q, repEs_cv v r⟩, h2, h3⟩
/-- the frame forgets what is its own -/
theorem cv_drop : Cv c M c nM ρ := ⟨rfl, rfl, rfl, fun a h => ⟨h.1, fun z => z, h.2.2⟩⟩
theorem SR.drop (s : SR c M ρ G H) : SR c nM ρ G H := s.cv cv_drop (fun a h => ⟨(s.sep a h).1, fun z => z⟩) (fun _ z => z.elim) s.bt
/-- the callee's frame: what is ours is the callers' there -/
def sub (c : RC) (M : Addr → Prop) : RC := ⟨c.K, c.C, c.N, fun a => c.B a ∨ M a, 0, 0⟩
theorem cv_in : Cv c M (sub c M) nM ρ := ⟨rfl, rfl, rfl, fun a h => ⟨fun z => z.elim h.1 h.2.1, fun z => z, h.2.2⟩⟩
theorem cv_out : Cv (sub c M) nM c M ρ := ⟨rfl, rfl, rfl, fun a h => ⟨fun z => h.1 (.inl z), fun z => h.1 (.inr z), h.2.2⟩⟩
theorem SR.in_ (s : SR c M ρ G H) : SR (sub c M) nM ρ G H := s.cv cv_in (fun a h => ⟨fun z => z.elim (s.sep a h).1 (s.sep a h).2, fun z => z⟩) (fun _ z => z.elim) fun a z => z.elim (s.bt a) (s.mt a)
theorem SR.out (s : SR (sub c M) nM ρ G H) : SR c M ρ G H := s.cv cv_out (fun a h => ⟨fun z => (s.sep a h).1 (.inl z), fun z => (s.sep a h).1 (.inr z)⟩) (fun a z => s.bt a (.inr z)) fun a z => s.bt a (.inl z)
theorem TQ.in_ {W : WX} {σ : L2.St} {o : Out EV} {Q : VK} (h : TQ (RE c) c W M ρ σ H o Q) : TQ (RE (sub c M)) (sub c M) W nM ρ σ H o Q := by
  cases o with
  | ok e G => exact fun v ρ' H' g s r => h v ρ' H' ⟨g.keep, g.there, g.grow⟩ s.out (r.cv cv_out)
  | er cl fs G => exact fun dd gs ρ' H' g s e r => h dd gs ρ' H' ⟨g.keep, g.there, g.grow⟩ s.out e (flds_cv cv_out r)
  | st => exact h
end
/-! ### the promise of a def: its meaning g on n values -/
abbrev FM := List EV → GS → Out EV
/-- which numbers of arguments are taken -/
abbrev Ar := Nat → Bool
def arN (n : Nat) : Ar := fun m => m == n
def Spd (K : PySem.W.Frag) (C : String → Addr) (N : String → List Str) (n : Ar) (g : FM) : Sp := fun vs H Q E => n vs.length = true ∧ ∃ (B : Addr → Prop) (ρ : List Addr) (G : GS) (es : List EV), SR ⟨K, C, N, B, 0, 0⟩ nM ρ G H ∧ All2 (RepE ⟨K, C, N, B, 0, 0⟩ nM ρ H) es vs ∧
  TQ (RE ⟨K, C, N, B, 0, 0⟩) ⟨K, C, N, B, 0, 0⟩ (fun cls d _ H => E cls d H) nM ρ [] H (g es G) Q
abbrev FnG (P : Program) (w : World) (K : PySem.W.Frag) (mg : Str → Option Value) (base : Heap) (C : String → Addr) (N : String → List Str) (k : Nat) (f : Addr) (n : Ar) (g : FM) : Prop := FnR P w K mg base (L2N.CX P w) k f (Spd K C N n g)
theorem Spd.imp {K : PySem.W.Frag} {C : String → Addr} {N : String → List Str} {n : Ar} {g g' : FM} (h : ∀ es G, n es.length = true → g' es G ≠ .st → g es G = g' es G) : ∀ vs H Q E, Spd K C N n g' vs H Q E → Spd K C N n g vs H Q E := fun vs H Q E ⟨hl, B, ρ, G, es, s, r, q⟩ => by
  refine ⟨hl, B, ρ, G, es, s, r, ?_⟩
  rw [h es G (by rw [r.length]; exact hl) (fun z => by rw [z] at q; exact q)]
  exact q
/-- another meaning, equal where it is one -/
theorem FnG.imp {P : Program} {w : World} {K : PySem.W.Frag} {mg : Str → Option Value} {base : Heap} {C : String → Addr} {N : String → List Str} {k : Nat} {f : Addr} {n : Ar} {g g' : FM} (F : FnG P w K mg base C N k f n g) (h : ∀ es G, n es.length = true → g' es G ≠ .st → g es G = g' es G) :
    FnG P w K mg base C N k f n g' := FnR.imp F (Spd.imp h)
/-- a body's meaning on its arguments -/
def env0 (n : Nat) (es : List EV) : En := es.map .ev ++ List.replicate (n - es.length) .no
def retO (o : OutS) : Out EV := match o with
  | .nx _ G => .ok (.d .non) G
  | .rt e G => .ok e G
  | .er c fs _ G => .er c fs G
  | _ => .st
def runB (n : Nat) (m : SM) : FM := fun es G => retO (m (env0 n es) G)
theorem rl_start {c : RC} {ρ : List Addr} {G : GS} {es : List EV} {vs : List V} {H : Hp} {N : List Str} (s : SR c nM ρ G H) (r : All2 (RepE c nM ρ H) es vs) (hl : vs.length ≤ N.length) : Rl c nM ρ G (env0 N.length es) (L2.start N vs) H := by
  have hll := r.length
  refine ⟨s, by unfold env0 L2.start; simp; omega, fun _ => 0, fun i sl e => ?_, fun i j o u e1 => ?_⟩
  · unfold env0 at e
    by_cases hi : i < es.length
    · rw [List.getElem?_append_left (by simpa using hi), List.getElem?_map] at e
      cases q : es[i]? with
      | none => rw [q] at e; cases e
      | some x =>
        rw [q] at e
        cases e
        obtain ⟨v, hv, rv⟩ := r.get q
        refine ⟨v, ?_, rv⟩
        unfold L2.start
        rw [List.getElem?_append_left (by simpa using (List.getElem?_eq_some_iff.mp hv).1), List.getElem?_map, hv]
        rfl
    · rw [List.getElem?_append_right (by simpa using hi)] at e
      have := List.mem_of_getElem? e
      rw [List.eq_of_mem_replicate this]
      trivial
  · unfold env0 at e1
    have := List.mem_of_getElem? e1
    rcases List.mem_append.mp this with h | h
    · obtain ⟨_, _, z⟩ := List.mem_map.mp h; cases z
    · cases List.eq_of_mem_replicate h
theorem Gr.ge {M' : Addr → Prop} {ρ ρ' : List Addr} {H H' : Hp} (g : Gr nM ρ H M' ρ' H') : Ge nM ρ H ρ' H' := ⟨fun a o e n => g.keep a o e n fun z => z, g.there, g.grow⟩
theorem sq_of {c : RC} {E : XK} {ρ : List Addr} {H : Hp} {o : OutS} {Q : VK} (h : TQ (RE c) c (fun cls d _ H => E cls d H) nM ρ [] H (retO o) Q) : SQ c (fun cls d _ H => E cls d H) nM ρ H o { nx := fun _ H' => Q .non H', rt := Q } := by
  cases o with
  | nx env G => exact fun M' ρ' σ' H' g R => h .non ρ' H' g.ge R.s.drop Rep.non
  | rt e G => exact fun M' ρ' v H' g s r => h v ρ' H' g.ge s.drop (r.cv cv_drop)
  | er cl fs e G => exact fun M' ρ' σ' H' dd gs g R e f => h dd gs ρ' H' g.ge R.s.drop e (flds_cv cv_drop f)
  | bk e G => exact (show False from h).elim
  | ct e G => exact (show False from h).elim
  | st => exact h
section
variable {P : Program} {w : World} {K : PySem.W.Frag} {mg : Str → Option Value} {base : Heap} {C : String → Addr} {N : String → List Str}
/-- THE RULE for a def without defaults -/
theorem fng_of {x qual : Str} {st : Stmt} {f : Addr} {fd : FuncData} {Nm ps : List Str} {k : Nat} {m : SM} (F : Fun K x qual st f fd) (S : FnScope Nm ps (defScope st)) (bd : Binds K fd ps [])
    (hb : ∀ (cdv : Value) (A : Around) (outer : List Env) (s : Shared) (H : Hp) (E : XK) (B : Addr → Prop), Room k (A.deeper (envOfC qual (defScope st) s.heap.objs.size f cdv)) →
      DSs (cxOf (L2N.CX P w) P w K mg base Nm qual (defScope st) f cdv A outer s H E) ⟨K, C, N, B, 0, 0⟩ (fun cls d _ H => E cls d H) (defBody st) m) : FnG P w K mg base C N (k + 1) f (arN ps.length) (runB Nm.length m) := by
  have hlN : ps.length ≤ Nm.length := by have := congrArg List.length S.pre; rw [List.length_take] at this; omega
  have G : FnOk P w K mg base (L2N.CX P w) (k + 1) f fd ps (Spd K C N (arN ps.length) (runB Nm.length m)) := by
    obtain ⟨oc, od, kV, doc, pm, an, cdv, ct, osl, rfl, lk, hcd⟩ := F.ex
    refine fn_of lk hcd S (fun vs H Q E h => by simpa [arN] using h.1) fun A outer s H vs Q E hr hsp => ?_
    obtain ⟨hl, B, ρ, G, es, s0, r, q⟩ := hsp
    exact ⟨_, hb cdv A outer s H E B hr, nM, ρ, G, _, rl_start s0 r (by rw [show vs.length = ps.length by simpa [arN] using hl]; exact hlN), sq_of q⟩
  exact FnR.imp (G.raw bd .nil) fun vs H Q E h => by rw [List.append_nil]; exact h
end
/-! ### calls -/
def eCall (n : Ar) (g : FM) (r : AM) : EM := fun env G => (r env G).bind fun xs G1 => if n xs.length = true then g xs G1 else .st
section
variable {X : Cx} {c : RC} {W : WX} {e a b : Expr} {es : List Expr} {ma mb : EM} {mr : AM} {pos p : Pos} {M : Addr → Prop} {ρ : List Addr} {σ : L2.St} {H : Hp}
/-- a call of a def, where what it lets out passes at this very state -/
theorem run_fnA {CX : CXT} {k : Nat} {f : Addr} {sp : Sp} {E : XK} {Q : VK} {s : Shared} {pins : List (Addr × Obj)} {vs : List V} {us : List Value}
    (F : FnR X.prog X.w X.K X.mg X.base CX k f sp) (hr : Room k X.A) (hx : PassesAt CX X σ E) (I : Inv X pins σ H s) (r : Vals vs us) (h : sp vs H Q E) :
    codeAny (model X.prog X.w) X.A (.call (.ref f) ⟨us, []⟩)
      (fun res s' => match res with
        | .ok (.ret v) => EP X pins σ Q v s'
        | .ok _ => False
        | .error e => X.xe e s') s :=
  codeAny_mono (F X.A X.stack s H us vs Q E hr I.env0 r h) fun res s' z => match res, z with
    | .error e, z => hx pins H s e s' I z
    | .ok (.ret _), z => I.after z
    | .ok .next, z => z.elim
    | .ok .brk, z => z.elim
    | .ok .cont, z => z.elim
theorem spd_of {n : Ar} {g : FM} {es1 : List EV} {vs : List V} {G1 : GS} {Q : VK} (s1 : SR c M ρ G1 H) (r1 : All2 (RepE c M ρ H) es1 vs) (q1 : TQ (RE c) c W M ρ σ H (if n es1.length = true then g es1 G1 else .st) Q) : Spd c.K c.C c.N n g vs H Q (WE W σ) := by
  split at q1
  · rename_i hl
    have z := q1.in_
    refine ⟨by rw [← r1.length]; exact hl, _, ρ, G1, es1, s1.in_, repEs_cv cv_in r1, ?_⟩
    cases hg : g es1 G1 with
    | ok e G => rw [hg] at z; exact z
    | er cl fs G => rw [hg] at z; exact z
    | st => rw [hg] at z; exact z
  · exact q1.elim
theorem de_call {x : Str} {k : Nat} {n : Ar} {f : Addr} {g : FM} (F : FnG X.prog X.w X.K X.mg X.base c.C c.N k f n g) (hK : c.K = X.K) (hr : Room k X.A) (hg : Gl X x) (hm : X.mg x = some (.ref f)) (hk : PySem.W.keepIn X.K (.ref f) = true) (tk : L2N.Takes X W) (ha : DA X c W (e :: es) mr)
    (hdb : (x == ("__debug__" : Str)) = false := by decide) (he : starEach (e :: es) X.env = (false, eval e X.env) :: starEach es X.env := by rfl) (hpl : (backTo pos (starEach es X.env)).any (·.1) = false := by rfl) :
    DE X c W (.Call (.Name x p) (e :: es) [] pos) (eCall n g mr) := by
  refine ⟨fun pins s σ H Q I h => ?_⟩
  obtain ⟨M, ρ, G, env, R, q⟩ := h
  refine wpAny_Call_Name_kw (ld_glob I hg hm ?_ hdb)
  have h' : tDA c W mr σ H fun vs H1 => Spd c.K c.C c.N n g vs H1 Q (WE W σ) := ⟨M, ρ, G, env, R, (TQ.bind (R := RA c) q).imp fun v H1 ⟨ρ1, G1, e1, g1, s1, r1, q1⟩ => spd_of s1 r1 q1⟩
  refine PySem.W.callWith_K (h₀ := X.base) I.ok.mod.kin hk (thn (PA.run ha pos pins s σ H _ I h') fun us s1 ⟨vs, H1, I1, r, q⟩ => ⟨I1.kIn, ?_⟩) he hpl
  rw [hK] at q
  exact wpAny_call (run_fnA F hr (L2N.passAt tk σ) I1 r q)
end
end DL
set_option Elab.async false
set_option linter.all false
set_option maxRecDepth 100000
set_option maxHeartbeats 4000000
namespace DL
open PySem L2 PyProof.Rows
/-! ### values: arithmetic, comparisons, built-ins -/
def gII (f : Int → Int → D) : D → D → Option D
  | .int i, .int j => some (f i j)
  | _, _ => none
def gIC (p : Int → Int → Bool) (f : Int → Int → D) : D → D → Option D
  | .int i, .int j => if p i j = true then some (f i j) else none
  | _, _ => none
def strMax : Nat := 1000000
def gAdd : D → D → Option D
  | .int i, .int j => some (.int (i + j))
  | .str i, .str j => if i.length + j.length ≤ strMax then some (.str (i ++ j)) else none
  | _, _ => none
def cMul (i j : Int) : Bool := decide (-(2 ^ 64) < i ∧ i < 2 ^ 64) || decide (-(2 ^ 64) < j ∧ j < 2 ^ 64)
def cDiv (i j : Int) : Bool := decide (0 < j) && decide (j < 2 ^ 200)
def cPos (i j : Int) : Bool := decide (0 < j)
def cPow (i j : Int) : Bool := decide (0 ≤ j) && decide (j ≤ 1000000) && decide (i.natAbs < 2 ^ 64)
def cNn (i j : Int) : Bool := decide (0 ≤ j)
def fAdd : F2 := pure2 gAdd
def fSub : F2 := pure2 (gII fun i j => .int (i - j))
def fMul : F2 := pure2 (gIC cMul fun i j => .int (i * j))
def fDiv : F2 := pure2 (gIC cDiv fun i j => .int (i / j))
def fMod : F2 := pure2 (gIC cPos fun i j => .int (i % j))
def fPow : F2 := pure2 (gIC cPow fun i j => .int (i ^ j.toNat))
def fShl : F2 := pure2 (gIC cPow fun i j => .int (i * 2 ^ j.toNat))
def fShr : F2 := pure2 (gIC cNn fun i j => .int (i / 2 ^ j.toNat))
def fAnd : F2 := pure2 (gII fun i j => .int (Builtin.bitAnd i j))
def fOr : F2 := pure2 (gII fun i j => .int (Builtin.bitOr i j))
def fXor : F2 := pure2 (gII fun i j => .int (Builtin.bitXor i j))
def fLt : F2 := pure2 (gII fun i j => .bl (decide (i < j)))
def fLe : F2 := pure2 (gII fun i j => .bl (decide (i ≤ j)))
def fGt : F2 := pure2 (gII fun i j => .bl (decide (j < i)))
def fGe : F2 := pure2 (gII fun i j => .bl (decide (j ≤ i)))
/-! == of what holds no instance -/
mutual
def toPy : D → Option PyData
  | .non => some .none
  | .bl b => some (.bool b)
  | .int i => some (.int i)
  | .str x => some (.str x)
  | .lst xs => (toPys xs).map .list
  | .tup xs => (toPys xs).map .tuple
  | .ins _ _ => none
  | .cls _ => none
  | .ty _ => none
def toPys : List D → Option (List PyData)
  | [] => some []
  | x :: xs => (toPy x).bind fun a => (toPys xs).map (a :: ·)
end
/-- scalars: the answer at once; else by the data -/
def gEq : D → D → Option Bool
  | .int i, .int j => some (decide (i = j))
  | .str i, .str j => some (decide (i = j))
  | .bl i, .bl j => some (decide (i = j))
  | .non, .non => some true
  | .int _, .non => some false
  | .non, .int _ => some false
  | .str _, .non => some false
  | .non, .str _ => some false
  | .int _, .str _ => some false
  | .str _, .int _ => some false
  | a, b => match toPy a, toPy b with
    | some x, some y => if (SeqAt.shaped x && SeqAt.shaped y) = true then some (PyData.eqv x y) else none
    | _, _ => none
def fEq : F2 := pure2 fun a b => (gEq a b).map .bl
def fNe : F2 := pure2 fun a b => (gEq a b).map fun k => .bl (!k)
def isNon : D → Bool
  | .non => true
  | _ => false
def fIs : F2 := fun x y G => match x, y with
  | .d a, .d .non => some (.d (.bl (isNon a)), G)
  | _, _ => none
def fIsNot : F2 := fun x y G => match x, y with
  | .d a, .d .non => some (.d (.bl (!isNon a)), G)
  | _, _ => none
def fNeg : F1 := pure1 fun
  | .int i => some (.int (-i))
  | _ => none
section
variable {X : Cx} {c : RC} {M : Addr → Prop} {ρ : List Addr} {H : Hp} {x y : V} {Q : VK}
theorem opr_imp {f : Value → Value → Sem Value} {r r' : R2} (h : OpR X f r) (k : ∀ x y H Q, r' x y H Q → r x y H Q) : OpR X f r' := fun pins s σ H x y v u Q I rx ry q => h pins s σ H x y v u Q I rx ry (k _ _ _ _ q)
theorem unr_imp {f : Value → Sem Value} {r r' : V → Hp → VK → Prop} (h : UnR X f r) (k : ∀ x H Q, r' x H Q → r x H Q) : UnR X f r' := fun pins s σ H x v Q I rx q => h pins s σ H x v Q I rx (k _ _ _ q)
theorem callr_imp {f : Value} {r r' : List V → Hp → VK → Prop} (h : CallR X f r) (k : ∀ x H Q, r' x H Q → r x H Q) : CallR X f r' := fun pins s σ H x v Q I rx q => h pins s σ H x v Q I rx (k _ _ _ q)
/-- what is known of two plain operands -/
theorem v2_pure {g : D → D → Option D} (h : V2 c (pure2 g) x y H Q) : ∃ M ρ G a b z, SR c M ρ G H ∧ Rep c M ρ H a x ∧ Rep c M ρ H b y ∧ g a b = some z ∧ ∀ v H', Same H H' → Rep c M ρ H' z v → Q v H' := by
  obtain ⟨M, ρ, G, a, b, s, ra, rb, q⟩ := h
  cases a with
  | o i => exact q.elim
  | d a =>
    cases b with
    | o i => exact q.elim
    | d b =>
      dsimp only [pure2] at q
      cases hz : g a b with
      | none => rw [hz] at q; exact q.elim
      | some z =>
        rw [hz] at q
        exact ⟨M, ρ, G, a, b, z, s, ra, rb, hz, fun v H' sm r => q v ρ H' (Ge.same sm) (s.same sm) r⟩
theorem v1_pure {g : D → Option D} (h : V1 c (pure1 g) x H Q) : ∃ M ρ G a z, SR c M ρ G H ∧ Rep c M ρ H a x ∧ g a = some z ∧ ∀ v H', Same H H' → Rep c M ρ H' z v → Q v H' := by
  obtain ⟨M, ρ, G, a, s, ra, q⟩ := h
  cases a with
  | o i => exact q.elim
  | d a =>
    dsimp only [pure1] at q
    cases hz : g a with
    | none => rw [hz] at q; exact q.elim
    | some z =>
      rw [hz] at q
      exact ⟨M, ρ, G, a, z, s, ra, hz, fun v H' sm r => q v ρ H' (Ge.same sm) (s.same sm) r⟩
theorem datas_rep : ∀ {es : List EV} {vs : List V} {ds : List D}, datas es = some ds → All2 (RepE c M ρ H) es vs → All2 (Rep c M ρ H) ds vs
  | [], _, _, h, .nil => by cases h; exact .nil
  | .d x :: es, _, _, h, .cons r t => by
    dsimp only [datas] at h
    cases q : datas es with
    | none => rw [q] at h; cases h
    | some xs =>
      rw [q] at h
      cases h
      exact .cons r (datas_rep q t)
  | .o i :: es, _, _, h, _ => by cases h
theorem vn_pure {g : List D → Option D} {vs : List V} (h : VN c (pureN g) vs H Q) : ∃ M ρ G ds z, SR c M ρ G H ∧ All2 (Rep c M ρ H) ds vs ∧ g ds = some z ∧ ∀ v H', Same H H' → Rep c M ρ H' z v → Q v H' := by
  obtain ⟨M, ρ, G, es, s, r, q⟩ := h
  dsimp only [pureN] at q
  cases hd : datas es with
  | none => rw [hd] at q; exact q.elim
  | some ds =>
    rw [hd] at q
    dsimp only [Option.bind] at q
    cases hz : g ds with
    | none => rw [hz] at q; exact q.elim
    | some z =>
      rw [hz] at q
      exact ⟨M, ρ, G, ds, z, s, datas_rep hd r, hz, fun v H' sm r => q v ρ H' (Ge.same sm) (s.same sm) r⟩
theorem same_refl : Same H H := fun _ _ h => h
theorem gII_of {f : Int → Int → D} {a b z : D} (h : gII f a b = some z) (ra : Rep c M ρ H a x) (rb : Rep c M ρ H b y) : ∃ i j, x = .int i ∧ y = .int j ∧ z = f i j := by
  cases a <;> cases b <;> first | (cases h; done) | skip
  injection h with h
  exact ⟨_, _, ra.of_int, rb.of_int, h.symm⟩
theorem gIC_of {p : Int → Int → Bool} {f : Int → Int → D} {a b z : D} (h : gIC p f a b = some z) (ra : Rep c M ρ H a x) (rb : Rep c M ρ H b y) : ∃ i j, x = .int i ∧ y = .int j ∧ p i j = true ∧ z = f i j := by
  cases a <;> cases b <;> first | (cases h; done) | skip
  dsimp only [gIC] at h
  split at h
  · rename_i hp
    injection h with h
    exact ⟨_, _, ra.of_int, rb.of_int, hp, h.symm⟩
  · cases h
theorem op2I {f : Value → Value → Sem Value} {g : Int → Int → Int} (h : OpR X f (rI0 fun i j => .int (g i j))) : OpR X f (V2 c (pure2 (gII fun i j => .int (g i j)))) := opr_imp h fun x y H Q q => by
  obtain ⟨M, ρ, G, a, b, z, s, ra, rb, hz, q⟩ := v2_pure q
  obtain ⟨i, j, rfl, rfl, rfl⟩ := gII_of hz ra rb
  exact ⟨i, j, rfl, rfl, q _ _ same_refl .int⟩
theorem op2B {f : Value → Value → Sem Value} {g : Int → Int → Bool} (h : OpR X f (rI0 fun i j => .bl (g i j))) : OpR X f (V2 c (pure2 (gII fun i j => .bl (g i j)))) := opr_imp h fun x y H Q q => by
  obtain ⟨M, ρ, G, a, b, z, s, ra, rb, hz, q⟩ := v2_pure q
  obtain ⟨i, j, rfl, rfl, rfl⟩ := gII_of hz ra rb
  exact ⟨i, j, rfl, rfl, q _ _ same_refl .bl⟩
theorem op2C {f : Value → Value → Sem Value} {p : Int → Int → Bool} {C : Int → Int → Prop} {g : Int → Int → Int} (h : OpR X f (rI C fun i j => .int (g i j))) (k : ∀ i j, p i j = true → C i j) : OpR X f (V2 c (pure2 (gIC p fun i j => .int (g i j)))) := opr_imp h fun x y H Q q => by
  obtain ⟨M, ρ, G, a, b, z, s, ra, rb, hz, q⟩ := v2_pure q
  obtain ⟨i, j, rfl, rfl, hp, rfl⟩ := gIC_of hz ra rb
  exact ⟨i, j, rfl, rfl, k i j hp, q _ _ same_refl .int⟩
theorem dop_sub : OpR X (binaryOp .Sub) (V2 c fSub) := op2I op_sub
theorem dop_mul : OpR X (binaryOp .Mult) (V2 c fMul) := op2C op_mul fun i j h => by
  rcases Bool.or_eq_true_iff.mp h with h | h
  · exact .inl (of_decide_eq_true h)
  · exact .inr (of_decide_eq_true h)
theorem dop_div : OpR X (binaryOp .FloorDiv) (V2 c fDiv) := op2C op_fdivW fun i j h => by
  obtain ⟨h1, h2⟩ := Bool.and_eq_true_iff.mp h
  have h1 : 0 < j := of_decide_eq_true h1
  have h2 : j < 2 ^ 200 := of_decide_eq_true h2
  exact wide_div (b := 200) h1 (by omega) (by decide) (by decide)
theorem dop_mod : OpR X (binaryOp .Mod) (V2 c fMod) := op2C op_mod fun i j h => of_decide_eq_true h
theorem cpow_ok {i j : Int} (h : cPow i j = true) : CPow i j := by
  obtain ⟨h1, h3⟩ := Bool.and_eq_true_iff.mp h
  obtain ⟨h1, h2⟩ := Bool.and_eq_true_iff.mp h1
  exact ⟨of_decide_eq_true h1, of_decide_eq_true h2, of_decide_eq_true h3⟩
theorem dop_pow : OpR X (binaryOp .Pow) (V2 c fPow) := op2C op_pow fun i j h => cpow_ok h
theorem dop_shl : OpR X (binaryOp .LShift) (V2 c fShl) := op2C op_shl fun i j h => cpow_ok h
theorem dop_shr : OpR X (binaryOp .RShift) (V2 c fShr) := op2C op_shr fun i j h => of_decide_eq_true h
theorem dop_and : OpR X (binaryOp .BitAnd) (V2 c fAnd) := op2I op_and
theorem dop_or : OpR X (binaryOp .BitOr) (V2 c fOr) := op2I op_or
theorem dop_lt : OpR X (compareOp .Lt) (V2 c fLt) := op2B op_lt
theorem dop_gt : OpR X (compareOp .Gt) (V2 c fGt) := op2B op_gt
theorem dop_ge : OpR X (compareOp .GtE) (V2 c fGe) := op2B op_ge
theorem dop_add : OpR X (binaryOp .Add) (V2 c fAdd) := opr_imp (op_add.or op_add_str) fun x y H Q q => by
  obtain ⟨M, ρ, G, a, b, z, s, ra, rb, hz, q⟩ := v2_pure q
  cases a <;> cases b <;> first | (cases hz; done) | skip
  · injection hz with hz
    cases hz
    exact .inl ⟨_, _, ra.of_int, rb.of_int, q _ _ same_refl .int⟩
  · dsimp only [gAdd] at hz
    split at hz
    · rename_i hl
      injection hz with hz
      cases hz
      exact .inr ⟨_, _, ra.of_str, rb.of_str, Nat.le_trans hl (by decide), q _ _ same_refl .str⟩
    · cases hz
mutual
theorem toPy_dp {K : PySem.W.Frag} (hK : c.K = K) : ∀ (d : D) (p : PyData) (v : V), toPy d = some p → Rep c M ρ H d v → Dp K H v p
  | .non, p, v, h, r => by cases h; cases r.of_non; exact .non
  | .bl b, p, v, h, r => by cases h; cases r.of_bl; exact .bl b
  | .int b, p, v, h, r => by cases h; cases r.of_int; exact .int b
  | .str b, p, v, h, r => by cases h; cases r.of_str; exact .str b
  | .lst xs, p, v, h, r => by
    obtain ⟨a, vs, rfl, z, q⟩ := r.of_lst
    dsimp only [toPy] at h
    cases e : toPys xs with
    | none => rw [e] at h; cases h
    | some ps => rw [e] at h; cases h; exact .lst (by rw [← hK]; exact z.sq) (toPys_dp hK xs ps vs e q)
  | .tup xs, p, v, h, r => by
    obtain ⟨a, vs, rfl, z, q⟩ := r.of_tup
    dsimp only [toPy] at h
    cases e : toPys xs with
    | none => rw [e] at h; cases h
    | some ps => rw [e] at h; cases h; exact .tup (by rw [← hK]; exact z.sq) (toPys_dp hK xs ps vs e q)
  | .ins _ _, p, v, h, r => by cases h
  | .cls _, p, v, h, r => by cases h
  | .ty _, p, v, h, r => by cases h
theorem toPys_dp {K : PySem.W.Frag} (hK : c.K = K) : ∀ (ds : List D) (ps : List PyData) (vs : List V), toPys ds = some ps → All2 (Rep c M ρ H) ds vs → DpAll K H vs ps
  | [], ps, vs, h, r => by cases h; cases r; exact .nil
  | d :: ds, ps, vs, h, r => by
    cases r with
    | cons r t =>
      dsimp only [toPys] at h
      cases e1 : toPy d with
      | none => rw [e1] at h; cases h
      | some p =>
        rw [e1] at h
        dsimp only [Option.bind] at h
        cases e2 : toPys ds with
        | none => rw [e2] at h; cases h
        | some qs => rw [e2] at h; cases h; exact .cons (toPy_dp hK d p _ e1 r) (toPys_dp hK ds qs _ e2 t)
end
theorem geq_of {K : PySem.W.Frag} (hK : c.K = K) {a b : D} {k : Bool} (h : gEq a b = some k) (ra : Rep c M ρ H a x) (rb : Rep c M ρ H b y) :
    (scal x y = true ∧ decide (x = y) = k) ∨ ∃ d e, Dp K H x d ∧ Dp K H y e ∧ SeqAt.shaped d = true ∧ SeqAt.shaped e = true ∧ PyData.eqv d e = k := by
  have gen : (match toPy a, toPy b with
    | some x, some y => if (SeqAt.shaped x && SeqAt.shaped y) = true then some (PyData.eqv x y) else none
    | _, _ => none) = some k → ∃ d e, Dp K H x d ∧ Dp K H y e ∧ SeqAt.shaped d = true ∧ SeqAt.shaped e = true ∧ PyData.eqv d e = k := fun h => by
    cases e1 : toPy a with
    | none => rw [e1] at h; cases h
    | some p =>
      cases e2 : toPy b with
      | none => rw [e1, e2] at h; cases h
      | some q =>
        rw [e1, e2] at h
        dsimp only at h
        split at h
        · rename_i hs
          obtain ⟨h1, h2⟩ := Bool.and_eq_true_iff.mp hs
          injection h with h
          exact ⟨p, q, toPy_dp hK a p x e1 ra, toPy_dp hK b q y e2 rb, h1, h2, h⟩
        · cases h
  unfold gEq at h
  split at h
  · injection h with h; cases ra.of_int; cases rb.of_int; exact .inl ⟨rfl, by rw [← h]; simp⟩
  · injection h with h; cases ra.of_str; cases rb.of_str; exact .inl ⟨rfl, by rw [← h]; simp⟩
  · injection h with h; cases ra.of_bl; cases rb.of_bl; exact .inl ⟨rfl, by rw [← h]; simp⟩
  · injection h with h; cases ra.of_non; cases rb.of_non; exact .inl ⟨rfl, by rw [← h]; simp⟩
  · injection h with h; cases ra.of_int; cases rb.of_non; exact .inl ⟨rfl, by rw [← h]; simp⟩
  · injection h with h; cases ra.of_non; cases rb.of_int; exact .inl ⟨rfl, by rw [← h]; simp⟩
  · injection h with h; cases ra.of_str; cases rb.of_non; exact .inl ⟨rfl, by rw [← h]; simp⟩
  · injection h with h; cases ra.of_non; cases rb.of_str; exact .inl ⟨rfl, by rw [← h]; simp⟩
  · injection h with h; cases ra.of_int; cases rb.of_str; exact .inl ⟨rfl, by rw [← h]; simp⟩
  · injection h with h; cases ra.of_str; cases rb.of_int; exact .inl ⟨rfl, by rw [← h]; simp⟩
  · exact .inr (gen h)
theorem dop_eq (hK : c.K = X.K) (hu : X.A.units + 64 < cLine) : OpR X (compareOp .Eq) (V2 c fEq) := opr_imp (op_eq.or (op_eqD hu)) fun x y H Q q => by
  obtain ⟨M, ρ, G, a, b, z, s, ra, rb, hz, q⟩ := v2_pure q
  cases hk : gEq a b with
  | none => rw [hk] at hz; cases hz
  | some k =>
    rw [hk] at hz
    injection hz with hz
    cases hz
    rcases geq_of hK hk ra rb with ⟨h1, h2⟩ | ⟨d, e, h1, h2, h3, h4, h5⟩
    · exact .inl ⟨h1, by rw [h2]; exact q _ _ same_refl .bl⟩
    · exact .inr ⟨d, e, h1, h2, h3, h4, by rw [h5]; exact q _ _ same_refl .bl⟩
theorem dun_neg : UnR X (unaryOp .USub) (V1 c fNeg) := unr_imp un_neg fun x H Q q => by
  obtain ⟨M, ρ, G, a, z, s, ra, hz, q⟩ := v1_pure q
  cases a <;> first | (cases hz; done) | skip
  injection hz with hz; cases hz
  exact ⟨_, ra.of_int, q _ _ same_refl .int⟩
end
end DL
set_option Elab.async false
set_option linter.all false
set_option maxRecDepth 100000
set_option maxHeartbeats 4000000
namespace DL
open PySem L2 PyProof.Rows
/-! ### fields by their places -/
def ixf (f : Str) : List Str → Option Nat
  | [] => none
  | g :: r => if g = f then some 0 else (ixf f r).map (· + 1)
theorem lookup_cons {f g : Str} {v : V} {r : List (Str × V)} : ((g, v) :: r).lookup f = if f = g then some v else r.lookup f := by
  by_cases h : f = g
  · subst h; simp [List.lookup]
  · have : (f == g) = false := by simpa using h
    simp [List.lookup, this, h]
theorem lookup_ix {f : Str} {i : Nat} : ∀ {nm : List Str} {gs : List (Str × V)} {i : Nat}, gs.map (·.1) = nm.take gs.length → ixf f nm = some i → gs.lookup f = (gs[i]?).map (·.2)
  | _, [], i, _, _ => by simp
  | [], (g, v) :: gs, i, _, h => by cases h
  | n :: nm, (g, v) :: gs, i, e, h => by
    simp only [List.map_cons, List.length_cons, List.take_succ_cons, List.cons.injEq] at e
    obtain ⟨rfl, e⟩ := e
    rw [lookup_cons]
    unfold ixf at h
    by_cases q : g = f
    · subst q
      rw [if_pos rfl] at h ⊢
      cases h
      rfl
    · rw [if_neg q] at h
      rw [if_neg (fun z => q z.symm)]
      cases hx : ixf f nm with
      | none => rw [hx] at h; cases h
      | some j =>
        rw [hx] at h
        cases h
        rw [lookup_ix (i := j) e hx]
        simp
theorem lookup_no {f : Str} : ∀ {nm : List Str} {gs : List (Str × V)}, gs.map (·.1) = nm.take gs.length → ixf f nm = none → gs.lookup f = none
  | _, [], _, _ => rfl
  | [], (g, v) :: gs, e, _ => by simp at e
  | n :: nm, (g, v) :: gs, e, h => by
    simp only [List.map_cons, List.length_cons, List.take_succ_cons, List.cons.injEq] at e
    obtain ⟨rfl, e⟩ := e
    rw [lookup_cons]
    unfold ixf at h
    by_cases q : g = f
    · subst q; rw [if_pos rfl] at h; cases h
    · rw [if_neg q] at h
      rw [if_neg (fun z => q z.symm)]
      exact lookup_no e (by cases hx : ixf f nm with
        | none => rfl
        | some j => rw [hx] at h; cases h)
theorem putF_set {f : Str} {v : V} : ∀ {nm : List Str} {gs : List (Str × V)} {i : Nat}, gs.map (·.1) = nm.take gs.length → ixf f nm = some i → i < gs.length → putF f v gs = gs.set i (f, v)
  | _, [], i, _, _, h => absurd h (Nat.not_lt_zero _)
  | [], (g, u) :: gs, i, _, h, _ => by cases h
  | n :: nm, (g, u) :: gs, i, e, h, hl => by
    simp only [List.map_cons, List.length_cons, List.take_succ_cons, List.cons.injEq] at e
    obtain ⟨rfl, e⟩ := e
    unfold ixf at h
    unfold putF
    by_cases q : g = f
    · subst q
      rw [if_pos rfl] at h
      cases h
      simp
    · rw [if_neg q] at h
      cases hx : ixf f nm with
      | none => rw [hx] at h; cases h
      | some j =>
        rw [hx] at h
        cases h
        have z := putF_set (v := v) (i := j) e hx (by simpa using hl)
        simp [q, fun z => q (Eq.symm z), z]
theorem putF_new {f : Str} {v : V} : ∀ {nm : List Str} {gs : List (Str × V)}, gs.map (·.1) = nm.take gs.length → ixf f nm = some gs.length → putF f v gs = gs ++ [(f, v)]
  | _, [], _, _ => rfl
  | [], (g, u) :: gs, _, h => by cases h
  | n :: nm, (g, u) :: gs, e, h => by
    simp only [List.map_cons, List.length_cons, List.take_succ_cons, List.cons.injEq] at e
    obtain ⟨rfl, e⟩ := e
    unfold ixf at h
    unfold putF
    by_cases q : g = f
    · subst q
      rw [if_pos rfl] at h
      cases h
    · rw [if_neg q] at h
      cases hx : ixf f nm with
      | none => rw [hx] at h; cases h
      | some j =>
        rw [hx] at h
        have hj : j = gs.length := by simpa using h
        subst hj
        have z := putF_new (v := v) e hx
        simp [q, fun z => q (Eq.symm z), z]
theorem ixf_at {f : Str} : ∀ {nm : List Str} {i : Nat}, ixf f nm = some i → nm[i]? = some f
  | [], i, h => by cases h
  | g :: nm, i, h => by
    unfold ixf at h
    by_cases q : g = f
    · subst q; rw [if_pos rfl] at h; cases h; rfl
    · rw [if_neg q] at h
      cases hx : ixf f nm with
      | none => rw [hx] at h; cases h
      | some j => rw [hx] at h; cases h; simpa using ixf_at hx
def fput (i : Nat) (x : D) (fs : List D) : Option (List D) := if i < fs.length then some (fs.set i x) else if i = fs.length then some (fs ++ [x]) else none
section
variable {c : RC} {M : Addr → Prop} {ρ : List Addr} {H : Hp}
theorem flds_get {k : String} {f : Str} {i : Nat} {x : D} {fs : List D} {gs : List (Str × V)} (h : Flds c M ρ H k fs gs) (hi : ixf f (c.N k) = some i) (hx : fs[i]? = some x) : ∃ v, gs.lookup f = some v ∧ Rep c M ρ H x v := by
  obtain ⟨q, hq, r⟩ := h.r.get hx
  exact ⟨q.2, by rw [lookup_ix (i := i) h.nm hi, hq]; rfl, r⟩
theorem flds_none {k : String} {f : Str} {fs : List D} {gs : List (Str × V)} (h : Flds c M ρ H k fs gs) (hi : ixf f (c.N k) = none) : gs.lookup f = none := lookup_no h.nm hi
theorem flds_len {k : String} {fs : List D} {gs : List (Str × V)} (h : Flds c M ρ H k fs gs) : gs.length = fs.length := h.r.length.symm
theorem flds_put {k : String} {f : Str} {i : Nat} {x : D} {v : V} {fs fs' : List D} {gs : List (Str × V)} (r : Rep c M ρ H x v) (h : Flds c M ρ H k fs gs) (hi : ixf f (c.N k) = some i) (hp : fput i x fs = some fs') : Flds c M ρ H k fs' (putF f v gs) := by
  have hl := flds_len h
  unfold fput at hp
  split at hp
  · rename_i h1
    cases hp
    rw [putF_set h.nm hi (by omega)]
    refine ⟨?_, All2.set (R := fun (p : D) (q : Str × V) => Rep c M ρ H p q.2) (a := x) (b := (f, v)) r i h.r⟩
    rw [List.length_set, ← h.nm, List.map_set]
    refine List.ext_getElem? fun j => ?_
    by_cases hj : i = j
    · subst hj
      have e : (gs.map (·.1))[i]? = some f := by
        rw [h.nm, List.getElem?_take, if_pos (by omega)]
        exact ixf_at hi
      rw [List.getElem?_set_self (by simpa using (by omega : i < gs.length)), e]
    · rw [List.getElem?_set_ne hj]
  · split at hp
    · rename_i h1 h2
      cases hp
      rw [putF_new h.nm (by rw [hi, h2, hl])]
      refine ⟨?_, h.r.append (.cons r .nil)⟩
      have e := ixf_at hi
      rw [List.map_append, List.length_append, h.nm]
      show _ = (c.N k).take (gs.length + 1)
      have e' : (c.N k)[gs.length]? = some f := by rw [hl, ← h2]; exact e
      rw [List.take_add_one, e']
      rfl
    · cases hp
end
/-! ### instances -/
/-- what is read off an instance of one of the classes ks -/
def kix : List (String × Nat) → String → Option Nat
  | [], _ => none
  | (k, i) :: r, k' => if k = k' then some i else kix r k'
def gFld (ks : List (String × Nat)) : D → Option D
  | .ins k fs => (kix ks k).bind fun i => fs[i]?
  | _ => none
def eFld (ks : List (String × Nat)) (m : EM) : EM := eUn (pure1 (gFld ks)) m
structure HasF (K : PySem.W.Frag) (C : String → Addr) (N : String → List Str) (f : Str) (k : String) (i : Nat) : Prop where
  cl : Cls K (C k)
  na : NoAttr K (C k) f
  ix : ixf f (N k) = some i
section
variable {X : Cx} {c : RC} {W : WX} {e o : Expr} {es : List Expr} {me mo : EM} {mr : AM} {pos p apos : Pos} {M : Addr → Prop} {ρ : List Addr} {σ : L2.St} {H : Hp} {G : GS} {env : En}
theorem de_fld {ks : List (String × Nat)} {f : Str} (hK : c.K = X.K) (h : ∀ k i, kix ks k = some i → HasF X.K c.C c.N f k i) (he : DE X c W e me) (hb : attributeBase e f X.env (eval e X.env) = eval e X.env := by rfl) :
    DE X c W (.Attribute e f pos) (eFld ks me) := by
  refine pe_imp (pe_fld he hb) fun σ H Q q => ?_
  obtain ⟨M, ρ, G, env, R, q⟩ := q
  refine ⟨M, ρ, G, env, R, (TQ.bind (R := RE c) q).imp fun v H1 ⟨ρ1, G1, e1, g1, s1, r1, q1⟩ => ?_⟩
  obtain ⟨M, ρ, G, a, z, s, ra, hz, q⟩ := v1_pure (⟨M, ρ1, G1, e1, s1, r1, VQ.of q1⟩ : V1 c (pure1 (gFld ks)) v H1 Q)
  cases a <;> first | (cases hz; done) | skip
  rename_i k fs
  dsimp only [gFld] at hz
  cases hk : kix ks k with
  | none => rw [hk] at hz; cases hz
  | some i =>
    rw [hk] at hz
    obtain ⟨a, dx, gs, rfl, z, e2, fl⟩ := ra.of_ins
    obtain ⟨v, hv, rv⟩ := flds_get fl (h k i hk).ix hz
    exact ⟨a, c.C k, dx, gs, v, rfl, e2, (h k i hk).cl, (h k i hk).na, hv, q _ _ same_refl rv⟩
/-- self.f = e in an __init__ -/
def sFld (i : Nat) (k : String) (ix : Nat) (m : EM) : SM := fun env G => ofE (m env G) env fun e G1 => match e, env[i]? with
  | .d x, some (.own (.ins k' fs)) => if k' = k ∧ fs.length < 900 then (match fput ix x fs with
    | some fs' => .nx (env.set i (.own (.ins k fs'))) G1
    | none => .st) else .st
  | _, _ => .st
theorem env_set {i : Nat} {s : Sl} {sl : Sl} {j : Nat} {env : En} (e : (env.set i s)[j]? = some sl) : (j = i ∧ sl = s) ∨ (j ≠ i ∧ env[j]? = some sl) := by
  by_cases hj : j = i
  · subst hj
    have hl : j < env.length := by
      have := (List.getElem?_eq_some_iff.mp e).1
      rwa [List.length_set] at this
    rw [List.getElem?_set_self hl] at e
    exact .inl ⟨rfl, (Option.some.inj e).symm⟩
  · rw [List.getElem?_set_ne (Ne.symm hj)] at e
    exact .inr ⟨hj, e⟩
/-- the frame's own instance is written -/
theorem gr_own {a : Addr} {o : HO} {u : HO} (hm : M a) (e : H a = some u) : Gr M ρ H M ρ (upd H a o) :=
  ⟨fun b w q n m => by rw [upd_ne (fun z => m (by rw [z]; exact hm))]; exact q, fun b w q => by
    by_cases h : b = a
    · subst h; exact ⟨o, upd_same⟩
    · exact ⟨w, by rw [upd_ne h]; exact q⟩, ⟨[], by simp, by simp⟩, fun _ h => .inl h⟩
theorem SR.own {a : Addr} {o u : HO} (s : SR c M ρ G H) (hm : M a) (e : H a = some u) : SR c M ρ G (upd H a o) := by
  have ne : ∀ b, b ∈ ρ → b ≠ a := fun b hb z => (s.sep b hb).2 (by rw [z]; exact hm)
  refine ⟨s.len, s.nd, s.sep, fun i xs e1 => ?_, fun b m => ?_, fun b m => ?_⟩
  · obtain ⟨b, vs, p, q, r⟩ := s.at_ i xs e1
    exact ⟨b, vs, p, by rw [upd_ne (ne b (List.mem_of_getElem? p))]; exact q, repEs_grow r (gr_own hm e)⟩
  · by_cases h : b = a
    · subst h; rw [upd_same]; simp
    · rw [upd_ne h]; exact s.mt b m
  · by_cases h : b = a
    · subst h; rw [upd_same]; simp
    · rw [upd_ne h]; exact s.bt b m
theorem ds_fld {i ix : Nat} {x f : Str} {k : String} {p' p'' : Pos} (h : HasF X.K c.C c.N f k ix) (hv : PE X (.Name x p'') (tVar i)) (he : DE X c W e me)
    (hs : swapsWith e (some (.Attribute (.Name x p'') f p')) pos.line X.env = pure false := by rfl) : DS X c W (.Assign [.Attribute (.Name x p'') f p'] e pos) (sFld i k ix me) := by
  refine ps_imp (ps_fld hv he hs) fun Dn σ H q => ?_
  obtain ⟨M, ρ, G, env, R, q⟩ := q
  refine ⟨M, ρ, G, env, R, (SQ.ofE (R := RE c) R q).imp fun v H1 ⟨ρ1, G1, e1, g1, R1, r1, q1⟩ => ?_⟩
  split at q1
  · rename_i x k' fs hi
    split at q1
    · rename_i hk
      obtain ⟨rfl, hl⟩ := hk
      split at q1
      rotate_left
      · exact q1.elim
      rename_i fs' hp
      obtain ⟨oa, h1, h2⟩ := R1.e
      obtain ⟨hσ, ho, hm, dx, gs, hH, fl⟩ := h1 i _ hi
      have gw := gr_own (ρ := ρ1) (o := .ins (c.C k') dx (putF f v gs)) hm hH
      refine ⟨_, hσ, c.s, c.C k', dx, gs, rfl, hH, h.cl, h.na, by rw [flds_len fl]; omega, q1 M ρ1 σ _ gw ⟨R1.s.own hm hH, by simpa using R1.len, oa, fun j sl e => ?_, fun j j2 o u e1 e2 e3 => ?_⟩⟩
      · rcases env_set e with ⟨rfl, rfl⟩ | ⟨hj, e⟩
        · exact ⟨hσ, ho, hm, dx, _, upd_same, flds_grow (flds_put r1 fl h.ix hp) gw⟩
        · have hq := h1 j sl e
          match sl, hq with
          | .no, _ => trivial
          | .ev e, ⟨v, a, b⟩ => exact ⟨v, a, b.grow gw⟩
          | .own (.lst xs), ⟨a, b, vs, d, r⟩ =>
            have ne : oa j ≠ c.s := fun z => hj (h2 j i _ _ e hi (z.trans ho.symm))
            exact ⟨a, b, vs, by rw [upd_ne ne]; exact d, reps_grow r gw⟩
          | .own (.ins k2 f2), ⟨a, o2, b⟩ => exact absurd (h2 j i _ _ e hi (o2.trans ho.symm)) hj
          | .exn k2 f2, ⟨a, b⟩ => exact ⟨a, b.grow gw⟩
      · rcases env_set e1 with ⟨h5, _⟩ | ⟨_, f1⟩
        · rcases env_set e2 with ⟨h6, _⟩ | ⟨_, f2⟩
          · rw [h5, h6]
          · rw [h5] at e3 ⊢; exact h2 i j2 _ _ hi f2 e3
        · rcases env_set e2 with ⟨h6, _⟩ | ⟨_, f2⟩
          · rw [h6] at e3 ⊢; exact h2 j i _ _ f1 hi e3
          · exact h2 j j2 _ _ f1 f2 e3
    · exact q1.elim
  · exact q1.elim
end
/-! ### making an instance -/
/-- an __init__: from the arguments behind self the fields -/
abbrev IM := List EV → GS → Out (List D)
def SpI (K : PySem.W.Frag) (C : String → Addr) (N : String → List Str) (k : String) (n : Ar) (g : IM) : Sp := fun vs H Q E => ∃ (x : Addr) (rest : List V), vs = .ref x :: rest ∧ n rest.length = true ∧ ∃ (B : Addr → Prop) (ρ : List Addr) (G : GS) (es : List EV) (dx : Addr),
  SR ⟨K, C, N, B, x, 0⟩ (· = x) ρ G H ∧ All2 (RepE ⟨K, C, N, B, x, 0⟩ (· = x) ρ H) es rest ∧ H x = some (.ins (C k) dx []) ∧ ¬ B x ∧
  (match g es G with
  | .ok fs G' => ∀ dy gs ρ' H', Gr (· = x) ρ H nM ρ' H' → SR ⟨K, C, N, B, x, 0⟩ nM ρ' G' H' → H' x = some (.ins (C k) dy gs) → Flds ⟨K, C, N, B, x, 0⟩ nM ρ' H' k fs gs → Q .non H'
  | .er cl fs G' => ∀ dd gs ρ' H', Gr (· = x) ρ H nM ρ' H' → SR ⟨K, C, N, B, x, 0⟩ nM ρ' G' H' → H' dd = some (.xd gs) → Flds ⟨K, C, N, B, x, 0⟩ nM ρ' H' cl fs gs → E (.ref (C cl)) (some dd) H'
  | .st => False)
abbrev FnI (P : Program) (w : World) (K : PySem.W.Frag) (mg : Str → Option Value) (base : Heap) (C : String → Addr) (N : String → List Str) (c : Nat) (f : Addr) (k : String) (n : Ar) (g : IM) : Prop := FnR P w K mg base (L2N.CX P w) c f (SpI K C N k n g)
def envI (n : Nat) (k : String) (es : List EV) : En := Sl.own (.ins k []) :: (es.map Sl.ev ++ List.replicate (n - 1 - es.length) Sl.no)
def retI (k : String) (o : OutS) : Out (List D) := match o with
  | .nx env G => match (env[0]? : Option Sl) with
    | some (Sl.own (OW.ins k' fs)) => if k' = k then .ok fs G else .st
    | _ => .st
  | .er c fs _ G => .er c fs G
  | _ => .st
def runI (n : Nat) (k : String) (m : SM) : IM := fun es G => retI k (m (envI n k es) G)
end DL
set_option Elab.async false
set_option linter.all false
set_option maxRecDepth 100000
set_option maxHeartbeats 4000000
namespace DL
open PySem L2 PyProof.Rows StX
section
variable {P : Program} {w : World} {K : PySem.W.Frag} {mg : Str → Option Value} {base : Heap} {C : String → Addr} {N : String → List Str}
theorem rl_init {c : RC} {ρ : List Addr} {G : GS} {es : List EV} {vs : List V} {H : Hp} {Nm : List Str} {k : String} {dx : Addr} (s : SR c (· = c.s) ρ G H) (r : All2 (RepE c (· = c.s) ρ H) es vs) (hx : H c.s = some (.ins (c.C k) dx [])) (hl : vs.length + 1 ≤ Nm.length) :
    Rl c (· = c.s) ρ G (envI Nm.length k es) (L2.start Nm (.ref c.s :: vs)) H := by
  have ev0 : ∀ (i : Nat) (sl : Sl), (envI Nm.length k es)[i]? = some sl → (i = 0 ∧ sl = .own (.ins k [])) ∨ (∃ j, i = j + 1 ∧ ((∃ x, es[j]? = some x ∧ sl = .ev x) ∨ sl = .no)) := fun i sl e => by
    unfold envI at e
    cases i with
    | zero => exact .inl ⟨rfl, (Option.some.inj e).symm⟩
    | succ j =>
      refine .inr ⟨j, rfl, ?_⟩
      rw [List.getElem?_cons_succ] at e
      by_cases hi : j < es.length
      · rw [List.getElem?_append_left (by simpa using hi), List.getElem?_map] at e
        cases q : es[j]? with
        | none => rw [q] at e; cases e
        | some x => rw [q] at e; exact .inl ⟨x, rfl, (Option.some.inj e).symm⟩
      · rw [List.getElem?_append_right (by simpa using hi)] at e
        exact .inr (List.eq_of_mem_replicate (List.mem_of_getElem? e))
  have hll := r.length
  refine ⟨s, by unfold envI L2.start; simp; omega, fun _ => c.s, fun i sl e => ?_, fun i j o u e1 e2 _ => ?_⟩
  · rcases ev0 i sl e with ⟨rfl, rfl⟩ | ⟨j, rfl, ⟨x, q, rfl⟩ | rfl⟩
    · exact ⟨rfl, rfl, rfl, dx, [], hx, ⟨by simp, .nil⟩⟩
    · obtain ⟨v, hv, rv⟩ := r.get q
      refine ⟨v, ?_, rv⟩
      unfold L2.start
      rw [List.getElem?_append_left (by simpa using (List.getElem?_eq_some_iff.mp hv).1), List.getElem?_map, List.getElem?_cons_succ, hv]
      rfl
    · trivial
  · rcases ev0 i _ e1 with ⟨h1, _⟩ | ⟨_, _, ⟨x, _, z⟩ | z⟩
    · rcases ev0 j _ e2 with ⟨h2, _⟩ | ⟨_, _, ⟨x, _, z⟩ | z⟩
      · rw [h1, h2]
      · cases z
      · cases z
    · cases z
    · cases z
/-- what an __init__'s body gives -/
def IQ (c : RC) (E : XK) (k : String) (ρ : List Addr) (H : Hp) (o : Out (List D)) (Q : VK) : Prop := match o with
  | .ok fs G' => ∀ dx gs ρ' H', Gr (· = c.s) ρ H nM ρ' H' → SR c nM ρ' G' H' → H' c.s = some (.ins (c.C k) dx gs) → Flds c nM ρ' H' k fs gs → Q .non H'
  | .er cl fs G' => ∀ dd gs ρ' H', Gr (· = c.s) ρ H nM ρ' H' → SR c nM ρ' G' H' → H' dd = some (.xd gs) → Flds c nM ρ' H' cl fs gs → E (.ref (c.C cl)) (some dd) H'
  | .st => False
theorem Gr.nm {M M' : Addr → Prop} {ρ ρ' : List Addr} {H H' : Hp} (g : Gr M ρ H M' ρ' H') : Gr M ρ H nM ρ' H' := ⟨g.keep, g.there, g.grow, fun _ z => z.elim⟩
theorem sq_init {c : RC} {E : XK} {k : String} {ρ : List Addr} {H : Hp} {o : OutS} {Q : VK} (h : IQ c E k ρ H (retI k o) Q) : SQ c (fun cls d _ H => E cls d H) (· = c.s) ρ H o { nx := fun _ H' => Q .non H', rt := Q } := by
  cases o with
  | nx env G =>
    intro M' ρ' σ' H' g R
    unfold retI at h
    dsimp only at h
    split at h
    · rename_i k' fs he
      split at h
      · rename_i hk
        subst hk
        obtain ⟨oa, h1, _⟩ := R.e
        obtain ⟨_, _, _, dx, gs, hH, fl⟩ := h1 0 _ he
        exact h dx gs ρ' H' g.nm R.s.drop hH (flds_cv cv_drop fl)
      · exact h.elim
    · exact h.elim
  | rt e G => exact (show False from h).elim
  | er cl fs e G => exact fun M' ρ' σ' H' dd gs g R e f => h dd gs ρ' H' g.nm R.s.drop e (flds_cv cv_drop f)
  | bk e G => exact (show False from h).elim
  | ct e G => exact (show False from h).elim
  | st => exact h
end
/-! ### stars -/
/-- def f(a, .., *v): the arguments behind the first k as one tuple -/
def starA (k : Nat) (es : List EV) : Option (List EV) := (datas (es.drop k)).bind fun ds => if ds.length ≤ 1000 then some (es.take k ++ [.d (.tup ds)]) else none
def arS (k : Nat) : Ar := fun m => decide (k ≤ m)
def starI (k : Nat) (g : IM) : IM := fun es G => match starA k es with
  | some es' => g es' G
  | none => .st
section
variable {c : RC} {M : Addr → Prop} {ρ : List Addr} {H : Hp} {G : GS}
theorem all2_take {α β : Type} {R : α → β → Prop} : ∀ (n : Nat) {as : List α} {bs : List β}, All2 R as bs → All2 R (as.take n) (bs.take n)
  | 0, _, _, _ => by simp; exact .nil
  | n + 1, _, _, .nil => .nil
  | n + 1, _, _, .cons r t => .cons r (all2_take n t)
theorem all2_drop {α β : Type} {R : α → β → Prop} : ∀ (n : Nat) {as : List α} {bs : List β}, All2 R as bs → All2 R (as.drop n) (bs.drop n)
  | 0, _, _, h => h
  | n + 1, _, _, .nil => .nil
  | n + 1, _, _, .cons r t => all2_drop n t
/-- the new tuple -/
theorem star_new {es es' : List EV} {vs : List V} {k : Nat} {p : Addr} (s : SR c M ρ G H) (r : All2 (RepE c M ρ H) es vs) (h : starA k es = some es') (hp : H p = none) : (vs.drop k).length ≤ sizeLine ∧ SR c M ρ G (upd H p (.tup (vs.drop k))) ∧ All2 (RepE c M ρ (upd H p (.tup (vs.drop k)))) es' (vs.take k ++ [V.ref p]) ∧ es'.length = (es.take k).length + 1 := by
  unfold starA at h
  cases hd : datas (es.drop k) with
  | none => rw [hd] at h; cases h
  | some ds =>
    rw [hd] at h
    dsimp only [Option.bind] at h
    split at h
    · rename_i hl
      injection h with h
      subst h
      have rr := datas_rep hd (all2_drop k r)
      have sm : Same H (upd H p (.tup (vs.drop k))) := same_upd hp
      refine ⟨by rw [← rr.length]; exact Nat.le_trans hl (by decide), s.same sm, ?_, by simp⟩
      refine All2.append (repEs_grow (all2_take k r) (Gr.same sm)) (.cons ?_ .nil)
      exact Rep.tup (.inl ⟨(s.fresh hp), .inl upd_same⟩) (reps_grow rr (Gr.same sm))
    · cases h
end
section
variable {P : Program} {w : World} {K : PySem.W.Frag} {mg : Str → Option Value} {base : Heap} {C : String → Addr} {N : String → List Str}
theorem cxUpN {P : Program} {w : World} : CXUp (L2N.CX P w) := by
  intro outer s H s2 H2 E e s' un kp ho z
  obtain ⟨a, B, H', cls, d, ea, fl, hok, ub, na, os, rest⟩ := z
  have fr : ∀ b o, s.heap.get? b = some o → H b = Option.none → H2 b = Option.none := fun b o q n => un.free b o q n (by simp)
  refine ⟨a, B, H', cls, d, ea, fl, hok, ?_, na, os.trans ho, rest⟩
  constructor
  case keep => exact fun b o q n => ub.keep b o (kp b o q) (fr b o q n)
  case slot => exact fun b o q => ub.slot b o (kp b o q)
  case free => exact fun b o q n => ub.free b o (kp b o q) (fr b o q n)
  case there => exact fun b o q => ub.there b o (kp b o q)
  case tups => exact fun b xs q => ub.tups b xs (un.tups b xs q)
  case frzs => exact fun b o xs q => ub.frzs b o xs (un.frzs b o xs q)
  case tbls =>
    intro b ps q
    rcases un.tbls b ps q with ⟨m, e⟩
    rcases ub.tbls b (ps ++ m) e with ⟨m', e'⟩
    exact ⟨m ++ m', by simpa using e'⟩
/-- how a def with a star binds -/
def BindS (fd : FuncData) (ps : List Str) (pv : Str) : Prop := ∀ us rest : List Value, us.length = ps.length → bindArgs fd ⟨us ++ rest, []⟩ = (newTuple rest >>= fun t => pure (ps.zip us ++ [(pv, t)]))
theorem fni_star {x qual s1 pv : Str} {st : Stmt} {f : Addr} {fd : FuncData} {Nm ps : List Str} {k : Nat} {cl : String} {m : SM} (F : Fun K x qual st f fd) (S : FnScope Nm ((s1 :: ps) ++ [pv]) (defScope st)) (bd : BindS fd (s1 :: ps) pv)
    (hb : ∀ (cdv : Value) (A : Around) (outer : List Env) (s : Shared) (H : Hp) (E : XK) (B : Addr → Prop) (x : Addr), Room k (A.deeper (envOfC qual (defScope st) s.heap.objs.size f cdv)) →
      DSs (cxOf (L2N.CX P w) P w K mg base Nm qual (defScope st) f cdv A outer s H E) ⟨K, C, N, B, x, 0⟩ (fun cls d _ H => E cls d H) (defBody st) m) : FnI P w K mg base C N (k + 1) f cl (arS ps.length) (starI ps.length (runI Nm.length cl m)) := by
  have hlN : ((s1 :: ps) ++ [pv]).length ≤ Nm.length := by have := congrArg List.length S.pre; rw [List.length_take] at this; omega
  obtain ⟨oc, od, kV, doc, pm, an, cdv, ct, osl, rfl, lk, hcd⟩ := F.ex
  refine FnR.imp (fn_star (sp := SpI K C N cl (arN (ps.length + 1)) (runI Nm.length cl m)) lk hcd S cxUpN bd fun A outer s H vs Q E hr hsp => ?_) fun vs H Q E h => ?_
  · obtain ⟨x, rest, rfl, hl, B, ρ, G, es, dx, s0, r, hx, hB, q⟩ := hsp
    have hl' : rest.length = ps.length + 1 := by simpa [arN] using hl
    refine ⟨_, hb cdv A outer s H E B x hr, (· = x), ρ, G, envI Nm.length cl es, rl_init (c := ⟨K, C, N, B, x, 0⟩) (Nm := Nm) s0 r hx (by rw [hl']; simpa using hlN), ?_⟩
    refine sq_init (c := ⟨K, C, N, B, x, 0⟩) (k := cl) ?_
    unfold IQ
    unfold runI at q
    cases ho : retI cl (m (envI Nm.length cl es) G) with
    | ok fs G' => rw [ho] at q; exact q
    | er c2 fs G' => rw [ho] at q; exact q
    | st => rw [ho] at q; exact q
  · obtain ⟨x, rest, rfl, hl, B, ρ, G, es, dx, s0, r, hx, hB, q⟩ := h
    have hl' : ps.length ≤ rest.length := by simpa [arS] using hl
    unfold starI at q
    cases he : starA ps.length es with
    | none => rw [he] at q; exact q.elim
    | some es' =>
      rw [he] at q
      dsimp only at q
      have hz : (rest.drop ps.length).length ≤ sizeLine := by
        unfold starA at he
        cases hd : datas (es.drop ps.length) with
        | none => rw [hd] at he; cases he
        | some ds =>
          rw [hd] at he
          dsimp only [Option.bind] at he
          split at he
          · rename_i hz
            rw [← (datas_rep hd (all2_drop ps.length r)).length]; exact Nat.le_trans hz (by decide)
          · cases he
      refine ⟨V.ref x :: rest.take ps.length, rest.drop ps.length, by simp, by simp [hl'], hz, fun p hp => ?_⟩
      obtain ⟨_, s2, r1, l1⟩ := star_new s0 r he hp
      have sm : Same H (upd H p (.tup (rest.drop ps.length))) := same_upd hp
      have gs : Gr (· = x) ρ H (· = x) ρ (upd H p (.tup (rest.drop ps.length))) := Gr.same sm
      refine ⟨x, rest.take ps.length ++ [V.ref p], by simp, by simp [arN, hl'], B, ρ, G, es', dx, s2, r1, sm _ _ hx, hB, ?_⟩
      cases ho : runI Nm.length cl m es' G with
      | ok fs G' => rw [ho] at q; exact fun dy gs' ρ' H' g s hy f => q dy gs' ρ' H' (gs.trans g) s hy f
      | er c2 fs G' => rw [ho] at q; exact fun dd gs' ρ' H' g s hy f => q dd gs' ρ' H' (gs.trans g) s hy f
      | st => rw [ho] at q; exact q
end
end DL
set_option Elab.async false
set_option linter.all false
set_option maxRecDepth 100000
set_option maxHeartbeats 4000000
namespace DL
open PySem L2 PyProof.Rows StX ClX
def mkO (cl : String) : Out (List D) → Out EV
  | .ok fs G => .ok (.d (.ins cl fs)) G
  | .er c fs G => .er c fs G
  | .st => .st
def eMake (cl : String) (A : Ar) (g : IM) (r : AM) : EM := fun env G => (r env G).bind fun xs G1 => if A xs.length = true then mkO cl (g xs G1) else .st
section
variable {X : Cx} {c : RC} {W : WX} {e o : Expr} {es : List Expr} {me mo : EM} {mr : AM} {pos p apos : Pos} {M : Addr → Prop} {ρ : List Addr} {σ : L2.St} {H : Hp} {G : GS} {env : En}
theorem spi_of {cl : String} {A : Ar} {g : IM} {es1 : List EV} {vs : List V} {G1 : GS} {Q : VK} {x dx : Addr} (s1 : SR c M ρ G1 H) (r1 : All2 (RepE c M ρ H) es1 vs) (q1 : TQ (RE c) c W M ρ σ H (if A es1.length = true then mkO cl (g es1 G1) else .st) Q)
    (hx : H x = none) (hd : H dx = none) (hne : dx ≠ x) : SpI c.K c.C c.N cl A g (.ref x :: vs) (upd (upd H dx (.own x)) x (.ins (c.C cl) dx [])) (fun v H2 => v = .non ∧ Q (.ref x) H2) (WE W σ) := by
  split at q1
  · rename_i hl
    have sm : Same H (upd (upd H dx (.own x)) x (.ins (c.C cl) dx [])) := fun b o q => by
      rw [upd_ne (ne_of_none q hx), upd_ne (ne_of_none q hd)]
      exact q
    have g0 : Gr nM ρ H (· = x) ρ (upd (upd H dx (.own x)) x (.ins (c.C cl) dx [])) := ⟨fun a o q _ _ => sm a o q, fun a o q => ⟨o, sm a o q⟩, ⟨[], by simp, by simp⟩, fun a e => .inr (by rw [e]; exact hx)⟩
    have fx := s1.fresh hx
    have v1 : Cv (sub c M) (· = x) ⟨c.K, c.C, c.N, fun a => c.B a ∨ M a, x, 0⟩ (· = x) ρ := ⟨rfl, rfl, rfl, fun _ h => h⟩
    have v2 : ∀ ρ', Cv (⟨c.K, c.C, c.N, fun a => c.B a ∨ M a, x, 0⟩ : RC) nM c M ρ' := fun ρ' => ⟨rfl, rfl, rfl, fun a h => ⟨fun z => h.1 (.inl z), fun z => h.1 (.inr z), h.2.2⟩⟩
    have back : ∀ {ρ' : List Addr} {H' : Hp}, Gr (· = x) ρ (upd (upd H dx (.own x)) x (.ins (c.C cl) dx [])) nM ρ' H' → Ge M ρ H ρ' H' ∧ x ∉ ρ' := fun {ρ' H'} g => by
      obtain ⟨ext, e1, e2⟩ := g.grow
      refine ⟨⟨fun a o q n => g.keep a o (sm a o q) n (ne_of_none q hx), fun a o q => g.there a o (sm a o q), ext, e1, fun a ha => ?_⟩, ?_⟩
      · have z := e2 a ha
        cases q : H a with
        | none => rfl
        | some o => rw [sm a o q] at z; cases z
      · rw [e1]; intro z
        rcases List.mem_append.mp z with z | z
        · exact fx.2.2 z
        · have := e2 x z; rw [upd_same] at this; cases this
    have srb : ∀ {ρ' : List Addr} {G' : GS} {H' : Hp}, SR (⟨c.K, c.C, c.N, fun a => c.B a ∨ M a, x, 0⟩ : RC) nM ρ' G' H' → SR c M ρ' G' H' := fun s =>
      s.cv (v2 _) (fun a h => ⟨fun z => (s.sep a h).1 (.inl z), fun z => (s.sep a h).1 (.inr z)⟩) (fun a z => s.bt a (.inr z)) fun a z => s.bt a (.inl z)
    refine ⟨x, vs, rfl, by rw [← r1.length]; exact hl, fun a => c.B a ∨ M a, ρ, G1, es1, dx, ?_, repEs_cv v1 (repEs_grow (repEs_cv cv_in r1) g0), upd_same, fun z => z.elim fx.1 fx.2.1, ?_⟩
    · have s2 : SR c M ρ G1 (upd (upd H dx (.own x)) x (.ins (c.C cl) dx [])) := s1.same sm
      refine ⟨s2.len, s2.nd, fun a h => ⟨fun z => z.elim (s2.sep a h).1 (s2.sep a h).2, fun z => fx.2.2 (by rw [← z]; exact h)⟩, fun i xs e => ?_, fun a z => by rw [z, upd_same]; simp, fun a z => z.elim (s2.bt a) (s2.mt a)⟩
      obtain ⟨a, us, h1, h2, h3⟩ := s1.at_ i xs e
      exact ⟨a, us, h1, sm _ _ h2, repEs_cv v1 (repEs_grow (repEs_cv cv_in h3) g0)⟩
    · cases ho : g es1 G1 with
      | ok fs G' =>
        rw [ho] at q1
        intro dy gs ρ' H' g s hy fl
        obtain ⟨ge, nx⟩ := back g
        exact ⟨rfl, q1 (.ref x) ρ' H' ge (srb s) (Rep.ins ⟨fx.1, fx.2.1, nx⟩ hy (flds_cv (v2 _) fl))⟩
      | er c2 fs G' =>
        rw [ho] at q1
        intro dd gs ρ' H' g s hy fl
        exact q1 dd gs ρ' H' (back g).1 (srb s) hy (flds_cv (v2 _) fl)
      | st => rw [ho] at q1; exact q1.elim
  · exact q1.elim
/-- an instance is made and its __init__ run, where what that lets out passes at this very state -/
theorem run_makeA {CX : CXT} {k : Nat} {f C : Addr} {sp : Sp} {E : XK} {Q : VK} {s : Shared} {pins : List (Addr × Obj)} {vs : List V} {us : List Value}
    (M : Mk X.K C f) (F : FnR X.prog X.w X.K X.mg X.base CX k f sp) (hr : Room (k + 1) X.A) (hx : PassesAt CX X σ E) (I : Inv X pins σ H s) (r : Vals vs us)
    (h : ∀ x dx, H x = Option.none → H dx = Option.none → dx ≠ x →
      sp (V.ref x :: vs) (upd (upd H dx (.own x)) x (.ins C dx [])) (fun v H2 => v = .non ∧ Q (.ref x) H2) E) :
    wpAny (model X.prog X.w) X.A (call (.ref C) us) (EP X pins σ Q) X.xe s := by
  let n := s.heap.objs.size
  have f0 : H n = Option.none := I.hok.fresh (Nat.le_refl n)
  have f1 : H (n + 1) = Option.none := I.hok.fresh (Nat.le_succ n)
  have q := h (n + 1) n f1 f0 (Nat.ne_of_lt n.lt_succ_self)
  have J := Inv.made (C := C) I
  have ra : Vals (V.ref (n + 1) :: vs) (Value.ref (n + 1) :: us) := .cons rfl r
  have z := F _ X.stack _ _ (Value.ref (n + 1) :: us) _ _ E (hr.make C us []) (J.env0.make C us []) ra q
  refine wpAny_call (make_map (f := f) I.kIn M.makes M.init (beq_iff_eq.mp M.fn) (codeAny_mono z fun res s' y => ?_))
  match res, y with
  | .error e, y => exact hx pins _ _ e s' J y
  | .ok (.ret u), y =>
    rcases J.after y with ⟨v, H3, J3, rv, hv, q3⟩
    cases hv
    exact ⟨rv, V.ref (n + 1), H3, J3, rfl, q3⟩
  | .ok .next, y => exact y.elim
  | .ok .brk, y => exact y.elim
  | .ok .cont, y => exact y.elim
variable {x : Str} {cl : String} {A : Ar} {g : IM} {k : Nat} {f : Addr}
theorem tda_make (h : tD c W (eMake cl A g mr) σ H Q) : tDA c W mr σ H fun vs H1 => ∀ x dx, H1 x = Option.none → H1 dx = Option.none → dx ≠ x → SpI c.K c.C c.N cl A g (V.ref x :: vs) (upd (upd H1 dx (.own x)) x (.ins (c.C cl) dx [])) (fun v H2 => v = .non ∧ Q (.ref x) H2) (WE W σ) := by
  obtain ⟨M, ρ, G, env, R, q⟩ := h
  exact ⟨M, ρ, G, env, R, (TQ.bind (R := RA c) q).imp fun v H1 ⟨ρ1, G1, e1, g1, s1, r1, q1⟩ x dx hx hd hne => spi_of s1 r1 q1 hx hd hne⟩
theorem de_make (Mc : Mk X.K (c.C cl) f) (F : FnI X.prog X.w X.K X.mg X.base c.C c.N k f cl A g) (hK : c.K = X.K) (hr : Room (k + 1) X.A) (hg : Gl X x) (hm : X.mg x = some (.ref (c.C cl))) (tk : L2N.Takes X W) (ha : DA X c W (e :: es) mr)
    (hdb : (x == ("__debug__" : Str)) = false := by decide) (he : starEach (e :: es) X.env = (false, eval e X.env) :: starEach es X.env := by rfl) (hpl : (backTo pos (starEach es X.env)).any (·.1) = false := by rfl) :
    DE X c W (.Call (.Name x p) (e :: es) [] pos) (eMake cl A g mr) := by
  refine ⟨fun pins s σ H Q I h => ?_⟩
  refine wpAny_Call_Name_kw (ld_glob I hg hm ?_ hdb)
  refine PySem.W.callWith_K (h₀ := X.base) I.ok.mod.kin Mc.kp (thn (PA.run ha pos pins s σ H _ I (tda_make h)) fun us s1 ⟨vs, H1, I1, r, q⟩ => ⟨I1.kIn, ?_⟩) he hpl
  rw [hK] at q
  exact run_makeA Mc F hr (L2N.passAt tk σ) I1 r q
theorem map_d {M : Addr → Prop} {ρ : List Addr} {H : Hp} {xs : List D} {vs : List V} (h : All2 (Rep c M ρ H) xs vs) : All2 (RepE c M ρ H) (xs.map .d) vs := by
  induction h with
  | nil => exact .nil
  | cons r t ih => exact .cons r ih
end
/-! ### methods -/
/-- the classes that have the method, with its meaning -/
def kfn : List (String × (Ar × FM)) → String → Option (Ar × FM)
  | [], _ => none
  | (k, g) :: r, k' => if k = k' then some g else kfn r k'
def eMeth (ms : List (String × (Ar × FM))) (mo : EM) (r : AM) : EM := fun env G => (mo env G).bind fun x G1 => match x with
  | .d (.ins k fs) => (match kfn ms k with
    | some (A, g) => (r env G1).bind fun xs G2 => if A (xs.length + 1) = true then g (.d (.ins k fs) :: xs) G2 else .st
    | none => .st)
  | _ => .st
/-- what a class must have for its method -/
structure HasM (P : Program) (w : World) (K : PySem.W.Frag) (mg : Str → Option Value) (base : Heap) (C : String → Addr) (N : String → List Str) (lv : Nat) (m : Str) (k : String) (A : Ar) (g : FM) : Prop where
  cl : Cls K (C k)
  no : ixf m (N k) = none
  fn : ∃ f, Meth K (C k) m f ∧ FnG P w K mg base C N lv f A g
section
variable {X : Cx} {c : RC} {W : WX} {e o : Expr} {es : List Expr} {me mo : EM} {mr : AM} {pos p apos : Pos} {M : Addr → Prop} {ρ : List Addr} {σ : L2.St} {H : Hp} {G : GS} {env : En} {pl : Sem Bool} {lv : Nat} {m : Str} {ms : List (String × (Ar × FM))}
/-- how the call of a method reads, row by row -/
abbrev MRow (X : Cx) (o : Expr) (m : Str) (ap : Pos) (args : List Expr) (pos : Pos) (pl : Sem Bool) : Prop :=
  eval (.Call (.Attribute o m ap) args [] pos) X.env =
    (do let ov ← eval o X.env; standAt ap.atName; let (f, first) ← holding [ov] (getMethod ov m pl); callWith pos f first (backTo pos (starEach args X.env)) (backToKw pos (keywordEach [] X.env)))
theorem de_meth (hK : c.K = X.K) (hr : Room lv X.A) (tk : L2N.Takes X W) (h : ∀ k A g, kfn ms k = some (A, g) → HasM X.prog X.w X.K X.mg X.base c.C c.N lv m k A g) (ho : DE X c W o mo) (ha : DA X c W (e :: es) mr)
    (hst : starEach (e :: es) X.env = (false, eval e X.env) :: starEach es X.env := by rfl) (hpl : (backTo pos (starEach es X.env)).any (·.1) = false := by rfl)
    (ht : MRow X o m apos (e :: es) pos pl := by rfl) :
    DE X c W (.Call (.Attribute o m apos) (e :: es) [] pos) (eMeth ms mo mr) := by
  refine ⟨fun pins s σ H Q I q => ?_⟩
  obtain ⟨M, ρ, G, env, R, q⟩ := q
  have h' : tD c W mo σ H fun x H1 => ∃ k fs A g, kfn ms k = some (A, g) ∧ ∃ ρ1 G1, Rl c M ρ1 G1 env σ H1 ∧ RepE c M ρ1 H1 (.d (.ins k fs)) x ∧ TQ (RE c) c W M ρ1 σ H1 ((mr env G1).bind fun xs G2 => if A (xs.length + 1) = true then g (.d (.ins k fs) :: xs) G2 else .st) Q := by
    refine ⟨M, ρ, G, env, R, (TQ.bind (R := RE c) q).imp fun v H1 ⟨ρ1, G1, e1, g1, s1, r1, q1⟩ => ?_⟩
    split at q1
    · rename_i k fs
      split at q1
      · rename_i A g hk
        exact ⟨k, fs, A, g, hk, ρ1, G1, R.ge g1 s1, r1, q1⟩
      · exact q1.elim
    · exact q1.elim
  refine PySem.W.methodCall_KW (pl := pl) (thn (PE.run ho pins s σ H _ I h') fun u s1 ⟨x, H1, I1, rx, k, fs, A, g, hk, ρ1, G1, R1, r1, q1⟩ => ?_) ht
  obtain ⟨a, dx, gs, rfl, z, ea, fl⟩ := Rep.of_ins r1
  obtain rfl : u = Value.ref a := rx
  obtain ⟨cl, no, f, mt, F⟩ := h k A g hk
  refine getmeth_ok I1 ea cl mt (flds_none fl no) ?_
  have h2 : tDA c W mr σ H1 fun vs H2 => Spd c.K c.C c.N A g (.ref a :: vs) H2 Q (WE W σ) := by
    refine ⟨M, ρ1, G1, env, R1, (TQ.bind (R := RA c) q1).imp fun vs H2 ⟨ρ2, G2, e2, g2, s2, r2, q2⟩ => ?_⟩
    exact spd_of (es1 := .d (.ins k fs) :: e2) s2 (.cons (r1.grow g2.gr) r2) q2
  refine PySem.W.callWith_K (first := [.ref a]) (h₀ := X.base) I.ok.mod.kin mt.kp (thn (PA.run ha pos pins s1 σ H1 _ I1 h2) fun us s2 ⟨vs, H2, I2, r, q2⟩ => ⟨I2.kIn, ?_⟩) hst hpl
  rw [hK] at q2
  exact wpAny_call (run_fnA (us := .ref a :: us) (vs := .ref a :: vs) F hr (L2N.passAt tk σ) I2 (.cons rfl r) q2)
/-- C.NAME, a constant of the class -/
theorem de_cval {x fn : Str} {p' : Pos} {cl : String} {mc u : Value} {d : D} {v : V} (hg : Gl X x) (hm : X.mg x = some (.ref (c.C cl))) (r : CRead X.K (c.C cl) mc) (k : CVal X.K (c.C cl) mc fn v u) (rv : ∀ M ρ H, Rep c M ρ H d v) (hdb : (x == ("__debug__" : Str)) = false := by decide)
    (hb : attributeBase (.Name x p') fn X.env (eval (.Name x p') X.env) = eval (.Name x p') X.env := by rfl) : DE X c W (.Attribute (.Name x p') fn pos) (eC d) := by
  refine pe_imp (pe_cval (pe_glob (v := V.ref (c.C cl)) hg hm rfl hdb) hb) fun σ H Q q => ?_
  obtain ⟨M, ρ, G, env, R, q⟩ := q
  exact ⟨c.C cl, mc, v, u, rfl, r, k, q.ok R.s (rv _ _ _)⟩
/-- C.m(..), m a classmethod: cls is handed in first -/
def eCMeth (cl : String) (A : Ar) (g : FM) (r : AM) : EM := fun env G => (r env G).bind fun xs G1 => if A (xs.length + 1) = true then g (.d (.cls cl) :: xs) G1 else .st
theorem run_cmA {CX : CXT} {k : Nat} {q g C : Addr} {sp : Sp} {E : XK} {Q : VK} {s : Shared} {pins : List (Addr × Obj)} {vs : List V} {us : List Value}
    (F : FnR X.prog X.w X.K X.mg X.base CX k g sp) (hr : Room k X.A) (hx : PassesAt CX X σ E)
    (I : Inv X ((q, PySem.W.methodObj (.ref g) (.ref C)) :: pins) σ H s) (r : Vals vs us) (h : sp (.ref C :: vs) H Q E) :
    wpAny (model X.prog X.w) X.A (call (.ref q) us) (EP X pins σ Q) X.xe s :=
  thn (wpAny_call (PySem.W.method_call (pin_at I) (run_fnA (vs := .ref C :: vs) (us := .ref C :: us) F hr hx I (.cons rfl r) h))) fun _ _ => unpinE
theorem de_cmeth {x : Str} {p' : Pos} {cl : String} {mc : Value} {pr gf : Addr} {A : Ar} {g : FM} (hK : c.K = X.K) (hg : Gl X x) (hm : X.mg x = some (.ref (c.C cl))) (r : CRead X.K (c.C cl) mc) (cm : CMet X.K (c.C cl) mc m pr gf) (F : FnG X.prog X.w X.K X.mg X.base c.C c.N lv gf A g) (hr : Room lv X.A) (tk : L2N.Takes X W) (ha : DA X c W (e :: es) mr)
    (hdb : (x == ("__debug__" : Str)) = false := by decide) (hst : starEach (e :: es) X.env = (false, eval e X.env) :: starEach es X.env := by rfl) (hpl : (backTo pos (starEach es X.env)).any (·.1) = false := by rfl)
    (ht : MRow X (.Name x p') m apos (e :: es) pos pl := by rfl) :
    DE X c W (.Call (.Attribute (.Name x p') m apos) (e :: es) [] pos) (eCMeth cl A g mr) := by
  refine ⟨fun pins s σ H Q I q => ?_⟩
  refine PySem.W.methodCall_KW (pl := pl) (ld_glob I hg hm ?_ hdb) ht
  refine getmethcm_ok I r cm fun s2 I2 => ?_
  obtain ⟨M, ρ, G, env, R, q⟩ := q
  have h2 : tDA c W mr σ H fun vs H2 => Spd c.K c.C c.N A g (.ref (c.C cl) :: vs) H2 Q (WE W σ) := by
    refine ⟨M, ρ, G, env, R, (TQ.bind (R := RA c) q).imp fun vs H2 ⟨ρ2, G2, e2, g2, s2, r2, q2⟩ => ?_⟩
    exact spd_of (es1 := .d (.cls cl) :: e2) s2 (.cons Rep.cls r2) q2
  refine callwith_cm I2 (base_none I (Nat.le_refl _)) cm.fi (thn (PA.run ha pos _ s2 σ H _ I2 h2) fun us s3 ⟨vs, H2, I3, rv, q2⟩ => ⟨⟨pin_at I3, I3.kIn⟩, ?_⟩) hst hpl
  rw [hK] at q2
  exact run_cmA F hr (L2N.passAt tk σ) I3 rv q2
end
end DL
set_option Elab.async false
set_option linter.all false
set_option maxRecDepth 100000
set_option maxHeartbeats 4000000
namespace DL
open PySem L2 PyProof.Rows StX ClX
def toOpt {α : Type} : Out α → Option (α × GS)
  | .ok e G => some (e, G)
  | _ => none
def alt2 (f g : F2) : F2 := fun x y G => match f x y G with
  | some r => some r
  | none => g x y G
def alt1 (f g : F1) : F1 := fun x G => match f x G with
  | some r => some r
  | none => g x G
def altN (f g : FN) : FN := fun x G => match f x G with
  | some r => some r
  | none => g x G
/-- x op y by the class's own def: both are instances of it -/
def fOwn (cl : String) (A : Ar) (g : FM) : F2 := fun x y G => match x, y with
  | .d (.ins k fs), .d (.ins k' fs') => if k = cl ∧ k' = cl ∧ A 2 = true then toOpt (g [.d (.ins k fs), .d (.ins k' fs')] G) else none
  | _, _ => none
def fOwn1 (cl : String) (A : Ar) (g : FM) : F1 := fun x G => match x with
  | .d (.ins k fs) => if k = cl ∧ A 1 = true then toOpt (g [.d (.ins k fs)] G) else none
  | _ => none
section
variable {X : Cx} {c : RC} {M : Addr → Prop} {ρ : List Addr} {σ : L2.St} {H : Hp} {G : GS} {lv : Nat} {cl : String} {A : Ar} {g : FM} {f : Addr}
theorem opr_alt {F : Value → Value → Sem Value} {f g : F2} (h : OpR X F (V2 c f)) (k : OpR X F (V2 c g)) : OpR X F (V2 c (alt2 f g)) := opr_imp (h.or k) fun x y H Q ⟨M, ρ, G, a, b, s, ra, rb, q⟩ => by
  unfold alt2 at q
  cases hf : f a b G with
  | some r => rw [hf] at q; exact .inl ⟨M, ρ, G, a, b, s, ra, rb, by rw [hf]; exact q⟩
  | none => rw [hf] at q; exact .inr ⟨M, ρ, G, a, b, s, ra, rb, q⟩
theorem callr_or {F : Value} {r r' : List V → Hp → VK → Prop} (h : CallR X F r) (k : CallR X F r') : CallR X F (fun x H Q => r x H Q ∨ r' x H Q) := fun pins s σ H x v Q I rx q => q.elim (h pins s σ H x v Q I rx) (k pins s σ H x v Q I rx)
abbrev E0' : XK := fun _ _ _ => False
theorem pass0' {X : Cx} {σ : L2.St} : PassesAt (L2N.CX X.prog X.w) X σ E0' := fun _ _ _ _ _ _ ⟨_, _, _, _, _, _, _, _, _, _, _, _, h⟩ => h.elim
/-- a call that raises nothing, by values -/
theorem spd_opt {es : List EV} {vs : List V} {Q : VK} (s : SR c M ρ G H) (r : All2 (RepE c M ρ H) es vs) (hA : A es.length = true) (q : VQ c M ρ H (toOpt (g es G)) Q) : Spd c.K c.C c.N A g vs H Q E0' := by
  refine spd_of (W := fun _ _ _ _ => False) (σ := []) (es1 := es) s r ?_
  rw [if_pos hA]
  cases hg : g es G with
  | ok e G' => rw [hg] at q; exact q
  | er cl fs G' => rw [hg] at q; exact q.elim
  | st => rw [hg] at q; exact q.elim
theorem inst_at {pins : List (Addr × Obj)} {s : Shared} {a C dx : Addr} {fs : List (Str × V)} (I : Inv X pins σ H s) (h : H a = some (.ins C dx fs)) : ∃ ox od, PySem.W.InstAt s.heap a ox C od := by
  obtain ⟨ox, od, J, _⟩ := insC_at (X := X) I (C := C) (.inr ⟨dx, fs, h⟩)
  exact ⟨ox, od, J⟩
end
/-! ### displays, subscripts, built-ins over lists -/
def lstMax : Nat := 100000
def eLst (r : AM) : EM := fun env G => (r env G).bind fun xs G1 => match datas xs with
  | some ds => if ds.length ≤ lstMax then .ok (.d (.lst ds)) G1 else .st
  | none => .st
def eTup (r : AM) : EM := fun env G => (r env G).bind fun xs G1 => match datas xs with
  | some ds => if ds.length ≤ lstMax then .ok (.d (.tup ds)) G1 else .st
  | none => .st
/-- a list that will be written: an object of the store -/
def eObj (r : AM) : EM := fun env G => (r env G).bind fun xs G1 => if xs.length ≤ lstMax then .ok (.o G1.length) (G1 ++ [.lst xs]) else .st
section
variable {X : Cx} {c : RC} {W : WX} {e : Expr} {es : List Expr} {mr : AM} {me : EM} {pos : Pos} {M : Addr → Prop} {ρ : List Addr} {σ : L2.St} {H : Hp} {G : GS}
theorem lst_ok {n : Nat} (h : n ≤ lstMax) : n ≤ sizeLine := Nat.le_trans h (by decide)
theorem de_lst (ha : DA X c W es mr) : DE X c W (.List es pos) (eLst mr) := by
  refine pe_imp (pe_lst ha) fun σ H Q q => ?_
  obtain ⟨M, ρ, G, env, R, q⟩ := q
  refine ⟨M, ρ, G, env, R, (TQ.bind (R := RA c) q).imp fun v H1 ⟨ρ1, G1, e1, g1, s1, r1, q1⟩ => ?_⟩
  split at q1
  · rename_i ds hd
    split at q1
    · rename_i hl
      have rr := datas_rep hd r1
      refine ⟨by rw [← rr.length]; exact lst_ok hl, fun p hp => ?_⟩
      have sm : Same H1 (upd H1 p (.lst v)) := same_upd hp
      exact q1.okS s1 sm (Rep.lst (.inl ⟨s1.fresh hp, .inl upd_same⟩) (reps_grow rr (Gr.same sm)))
    · exact q1.elim
  · exact q1.elim
theorem de_tup {n} (ha : DA X c W es mr) : DE X c W (.Tuple es n pos) (eTup mr) := by
  refine pe_imp (pe_tup ha) fun σ H Q q => ?_
  obtain ⟨M, ρ, G, env, R, q⟩ := q
  refine ⟨M, ρ, G, env, R, (TQ.bind (R := RA c) q).imp fun v H1 ⟨ρ1, G1, e1, g1, s1, r1, q1⟩ => ?_⟩
  split at q1
  · rename_i ds hd
    split at q1
    · rename_i hl
      have rr := datas_rep hd r1
      refine ⟨by rw [← rr.length]; exact lst_ok hl, fun p hp => ?_⟩
      have sm : Same H1 (upd H1 p (.tup v)) := same_upd hp
      exact q1.okS s1 sm (Rep.tup (.inl ⟨s1.fresh hp, .inl upd_same⟩) (reps_grow rr (Gr.same sm)))
    · exact q1.elim
  · exact q1.elim
/-- a new object of the store -/
theorem sr_new {xs : List EV} {vs : List V} {p : Addr} (s : SR c M ρ G H) (r : All2 (RepE c M ρ H) xs vs) (hp : H p = none) : Ge M ρ H (ρ ++ [p]) (upd H p (.lst vs)) ∧ SR c M (ρ ++ [p]) (G ++ [.lst xs]) (upd H p (.lst vs)) ∧ (ρ ++ [p])[G.length]? = some p := by
  have sm : Same H (upd H p (.lst vs)) := same_upd hp
  have fx := s.fresh hp
  have g : Ge M ρ H (ρ ++ [p]) (upd H p (.lst vs)) := ⟨fun a o e _ => sm a o e, fun a o e => ⟨o, sm a o e⟩, [p], rfl, by simpa using hp⟩
  refine ⟨g, ⟨by simp [s.len], ?_, fun a h => ?_, fun i ys e => ?_, fun a m => same_ne sm (s.mt a m), fun a m => same_ne sm (s.bt a m)⟩, ?_⟩
  · rw [List.nodup_append]
    exact ⟨s.nd, by simp, fun a h1 b h2 => by
      have : b = p := by simpa using h2
      subst this
      rintro rfl
      exact fx.2.2 h1⟩
  · rcases List.mem_append.mp h with h | h
    · exact s.sep a h
    · have : a = p := by simpa using h
      subst this
      exact ⟨fx.1, fx.2.1⟩
  · by_cases hi : i < G.length
    · rw [List.getElem?_append_left hi] at e
      obtain ⟨a, us, h1, h2, h3⟩ := s.at_ i ys e
      exact ⟨a, us, by rw [List.getElem?_append_left (by rw [s.len]; exact hi)]; exact h1, sm _ _ h2, repEs_grow h3 g.gr⟩
    · rw [List.getElem?_append_right (by omega)] at e
      have hi2 : i - G.length = 0 := by
        have := (List.getElem?_eq_some_iff.mp e).1
        simp at this
        omega
      rw [hi2] at e
      cases e
      have hi3 : i = ρ.length := by rw [s.len]; omega
      subst hi3
      exact ⟨p, vs, by simp, upd_same, repEs_grow r g.gr⟩
  · rw [← s.len]; simp
theorem de_obj (ha : DA X c W es mr) : DE X c W (.List es pos) (eObj mr) := by
  refine pe_imp (pe_lst ha) fun σ H Q q => ?_
  obtain ⟨M, ρ, G, env, R, q⟩ := q
  refine ⟨M, ρ, G, env, R, (TQ.bind (R := RA c) q).imp fun v H1 ⟨ρ1, G1, e1, g1, s1, r1, q1⟩ => ?_⟩
  split at q1
  · rename_i hl
    refine ⟨by rw [← r1.length]; exact lst_ok hl, fun p hp => ?_⟩
    obtain ⟨g, s2, e2⟩ := sr_new s1 r1 hp
    exact q1 (.ref p) _ _ g s2 ⟨p, e2, rfl⟩
  · exact q1.elim
end
def fIx : F2 := fun x y G => match x, y with
  | .d (.lst xs), .d (.int i) => (atI xs i).map fun z => (.d z, G)
  | .d (.tup xs), .d (.int i) => (atI xs i).map fun z => (.d z, G)
  | .o k, .d (.int i) => (match (G[k]? : Option GO) with
    | some (GO.lst xs) => (atI xs i).map fun z => (z, G)
    | none => none)
  | _, _ => none
end DL
set_option Elab.async false
set_option linter.all false
set_option maxRecDepth 100000
set_option maxHeartbeats 4000000
namespace DL
open PySem L2 PyProof.Rows StX ClX
/-! ### what is walked -/
/-- J gives the items ds, in every later state -/
def ItR (c : RC) (M : Addr → Prop) (ρ : List Addr) (J : It) (ds : List D) (H : Hp) : Prop := ∀ M2 ρ2 H2, Gr M ρ H M2 ρ2 H2 → ∀ i, (∀ d, ds[i]? = some d → J.go i H2 ∧ ∀ x H3, J.yld i H2 x H3 → Same H2 H3 ∧ Rep c M2 ρ2 H3 d x) ∧ (ds.length ≤ i → J.stop i H2)
abbrev LM := En → GS → Out (List D)
def tDI (c : RC) (W : WX) (m : LM) : TI := fun σ H R => ∃ M ρ G env, Rl c M ρ G env σ H ∧ (match m env G with
  | .ok ds G' => ∀ J ρ' H', Ge M ρ H ρ' H' → SR c M ρ' G' H' → ItR c M ρ' J ds H' → R J H'
  | .er cl fs G' => ∀ dd gs ρ' H', Ge M ρ H ρ' H' → SR c M ρ' G' H' → H' dd = some (.xd gs) → Flds c M ρ' H' cl fs gs → W (.ref (c.C cl)) (some dd) σ H'
  | .st => False)
def DI (X : Cx) (c : RC) (W : WX) (tg e : Expr) (m : LM) : Prop := PI X tg e (tDI c W m)
theorem pi_imp {X : Cx} {tg e : Expr} {t t' : TI} (h : PI X tg e t) (k : ∀ σ H R, t' σ H R → t σ H R) : PI X tg e t' := ⟨fun pins s σ H R I q => h.run pins s σ H R I (k σ H R q)⟩
def lSeq (m : EM) : LM := fun env G => (m env G).bind fun e G1 => match e with
  | .d (.lst xs) => .ok xs G1
  | _ => .st
def lTup (m : EM) : LM := fun env G => (m env G).bind fun e G1 => match e with
  | .d (.tup xs) => .ok xs G1
  | _ => .st
def lRng (lo : Int) (n : Nat) : List D := (List.range n).map fun i : Nat => .int (lo + i)
def rngMax : Int := 1000000
def lRng1 (r : AM) : LM := fun env G => (r env G).bind fun xs G1 => match xs with
  | [.d (.int j)] => if -rngMax ≤ j ∧ j ≤ rngMax then .ok (lRng 0 j.toNat) G1 else .st
  | _ => .st
section
variable {X : Cx} {c : RC} {W : WX} {e a b tg : Expr} {es : List Expr} {mr : AM} {me : EM} {pos p : Pos} {M : Addr → Prop} {ρ : List Addr} {σ : L2.St} {H : Hp} {G : GS}
/-- the items behind an expression -/
theorem tdi_of {α β : Type} {Rr : (Addr → Prop) → List Addr → Hp → α → β → Prop} {m : En → GS → Out α} {k : α → GS → Out (List D)} {env : En} {R : It → Hp → Prop} (Rl0 : Rl c M ρ G env σ H)
    (h : (match (m env G).bind k with
  | .ok ds G' => ∀ J ρ' H', Ge M ρ H ρ' H' → SR c M ρ' G' H' → ItR c M ρ' J ds H' → R J H'
  | .er cl fs G' => ∀ dd gs ρ' H', Ge M ρ H ρ' H' → SR c M ρ' G' H' → H' dd = some (.xd gs) → Flds c M ρ' H' cl fs gs → W (.ref (c.C cl)) (some dd) σ H'
  | .st => False)) (hk : ∀ x G1, (∃ ds, k x G1 = .ok ds G1) ∨ k x G1 = .st) :
    TQ Rr c W M ρ σ H (m env G) fun v H1 => ∃ ρ1 G1 x ds, Ge M ρ H ρ1 H1 ∧ SR c M ρ1 G1 H1 ∧ Rr M ρ1 H1 x v ∧ k x G1 = .ok ds G1 ∧ ∀ J, ItR c M ρ1 J ds H1 → R J H1 := by
  cases hm : m env G with
  | ok x G1 =>
    rw [hm] at h
    intro v ρ1 H1 g s r
    rcases hk x G1 with ⟨ds, hd⟩ | hd
    · refine ⟨ρ1, G1, x, ds, g, s, r, hd, fun J hJ => ?_⟩
      have h' : ∀ J ρ' H', Ge M ρ H ρ' H' → SR c M ρ' G1 H' → ItR c M ρ' J ds H' → R J H' := by
        have z : (Out.ok x G1).bind k = .ok ds G1 := hd
        rw [z] at h
        exact h
      exact h' J ρ1 H1 g s hJ
    · have z : (Out.ok x G1).bind k = .st := hd
      rw [z] at h
      exact h.elim
  | er cl fs G1 => rw [hm] at h; exact h
  | st => rw [hm] at h; exact h
theorem di_lst (hK : c.K = X.K) (he : DE X c W e me) : DI X c W tg e (lSeq me) := by
  refine pi_imp (pi_list he) fun σ H R q => ?_
  obtain ⟨M, ρ, G, env, R0, q⟩ := q
  refine ⟨M, ρ, G, env, R0, (tdi_of (Rr := RE c) R0 q (fun x G1 => ?_)).imp fun v H1 ⟨ρ1, G1, x, ds, g, s, r, hd, hJ⟩ => ?_⟩
  · skip
    split
    · exact .inl ⟨_, rfl⟩
    · exact .inr rfl
  · skip
    split at hd
    · rename_i xs
      injection hd with hd _
      subst hd
      obtain ⟨p, vs, rfl, z, rr⟩ := Rep.of_lst r
      refine ⟨p, rfl, ⟨vs, by rw [← hK]; exact z.sq⟩, hJ _ fun M2 ρ2 H2 g2 i => ⟨fun d hd => ?_, fun hl => ?_⟩⟩
      · have z2 := z.grow g2
        have r2 := reps_grow rr g2
        obtain ⟨v, hv, rv⟩ := r2.get hd
        refine ⟨⟨vs, v, by rw [← hK]; exact z2.sq, hv⟩, fun x H3 ⟨e3, y⟩ => ?_⟩
        subst e3
        have := y vs (by rw [← hK]; exact z2.sq)
        rw [hv] at this
        cases this
        exact ⟨same_refl, rv⟩
      · exact ⟨vs, by rw [← hK]; exact (z.grow g2).sq, by rw [← rr.length]; exact hl⟩
    · cases hd
theorem di_tup (hK : c.K = X.K) (he : DE X c W e me) : DI X c W tg e (lTup me) := by
  refine pi_imp (pi_tup he) fun σ H R q => ?_
  obtain ⟨M, ρ, G, env, R0, q⟩ := q
  refine ⟨M, ρ, G, env, R0, (tdi_of (Rr := RE c) R0 q (fun x G1 => ?_)).imp fun v H1 ⟨ρ1, G1, x, ds, g, s, r, hd, hJ⟩ => ?_⟩
  · skip
    split
    · exact .inl ⟨_, rfl⟩
    · exact .inr rfl
  · skip
    split at hd
    · rename_i xs
      injection hd with hd _
      subst hd
      obtain ⟨p, vs, rfl, z, rr⟩ := Rep.of_tup r
      refine ⟨p, rfl, ⟨vs, by rw [← hK]; exact z.sq⟩, hJ _ fun M2 ρ2 H2 g2 i => ⟨fun d hd => ?_, fun hl => ?_⟩⟩
      · have z2 := z.grow g2
        have r2 := reps_grow rr g2
        obtain ⟨v, hv, rv⟩ := r2.get hd
        refine ⟨⟨vs, v, by rw [← hK]; exact z2.sq, hv⟩, fun x H3 ⟨e3, y⟩ => ?_⟩
        subst e3
        have := y vs (by rw [← hK]; exact z2.sq)
        rw [hv] at this
        cases this
        exact ⟨same_refl, rv⟩
      · exact ⟨vs, by rw [← hK]; exact (z.grow g2).sq, by rw [← rr.length]; exact hl⟩
    · cases hd
theorem itr_range {lo : Int} {n : Nat} : ItR c M ρ (Itr lo n) (lRng lo n) H := fun M2 ρ2 H2 g2 i => by
  refine ⟨fun d hd => ?_, fun hl => ?_⟩
  · unfold lRng at hd
    rw [List.getElem?_map] at hd
    cases e : (List.range n)[i]? with
    | none => rw [e] at hd; cases hd
    | some j =>
      rw [e] at hd
      cases hd
      obtain ⟨hi, ej⟩ := List.getElem?_eq_some_iff.mp e
      simp at hi ej
      subst ej
      exact ⟨hi, fun x H3 ⟨e3, ex⟩ => by subst e3; subst ex; exact ⟨same_refl, Rep.int⟩⟩
  · show n ≤ i
    simpa [lRng] using hl
theorem di_range1 (hg : Gl X "range") (hm : X.mg "range" = none) (ha : DA X c W [a] mr) (hs : starEach [a] X.env = [(false, eval a X.env)] := by rfl) : DI X c W tg (.Call (.Name "range" p) [a] [] pos) (lRng1 mr) := by
  refine pi_imp (pi_range1 hg hm ha hs) fun σ H R q => ?_
  obtain ⟨M, ρ, G, env, R0, q⟩ := q
  refine ⟨M, ρ, G, env, R0, (tdi_of (Rr := RA c) R0 q (fun x G1 => ?_)).imp fun v H1 ⟨ρ1, G1, x, ds, g, s, r, hd, hJ⟩ => ?_⟩
  · skip
    split
    · split
      · exact .inl ⟨_, rfl⟩
      · exact .inr rfl
    · exact .inr rfl
  · skip
    split at hd
    · split at hd
      · rename_i j hj
        injection hd with hd _
        subst hd
        cases r with
        | cons r t =>
          cases t
          cases Rep.of_int r
          unfold rngMax at hj
          exact ⟨j, rfl, by omega, by omega, hJ _ itr_range⟩
      · cases hd
    · cases hd
end
/-! ### for -/
def loopO (o : OutS) (k : En → GS → OutS) : OutS := match o with
  | .nx e g => k e g
  | .ct e g => k e g
  | .bk e g => .nx e g
  | o => o
def forL (k : Nat) (b : SM) : List D → En → GS → OutS
  | [], env, G => .nx env G
  | d :: ds, env, G => loopO (b (env.set k (.ev (.d d))) G) (forL k b ds)
def sFor (k : Nat) (m : LM) (b : SM) : SM := fun env G => ofE (m env G) env fun ds G1 => forL k b ds env G1
section
variable {X : Cx} {c : RC} {W : WX} {e tg : Expr} {body : List Stmt} {mr : LM} {mb : SM} {pos p : Pos} {M : Addr → Prop} {ρ : List Addr} {σ : L2.St} {H : Hp} {G : GS}
theorem SQ.loop {o : OutS} {k : SM} {Dn : Ends} {P : L2.St → Hp → Prop} (h : SQ c W M ρ H (loopO o k) Dn)
    (hP : ∀ env G M' ρ' σ' H', Gr M ρ H M' ρ' H' → Rl c M' ρ' G env σ' H' → SQ c W M' ρ' H' (k env G) Dn → P σ' H') : SQ c W M ρ H o { Dn with nx := P, ct := P, bk := Dn.nx } := by
  cases o with
  | nx env G => exact fun M' ρ' σ' H' g R => hP env G M' ρ' σ' H' g R (SQ.grow h g)
  | ct env G => exact fun M' ρ' σ' H' g R => hP env G M' ρ' σ' H' g R (SQ.grow h g)
  | bk env G => exact h
  | rt e G => exact h
  | er cl fs e G => exact h
  | st => exact h
theorem ds_for {k : Nat} {x : Str} (hp : PassesOwn (model X.prog X.w) X.A X.env X.xe) (hc : X.calm = true) (hi : DI X c W (.Name x p) e mr) (hg : PG X (.Name x p) (gName k)) (hb : DSs X c W body mb)
    (hs : ∀ x, foldedSetIterable e X.env x = pure x := by intro _; rfl) : DS X c W (.For (.Name x p) e body [] pos) (sFor k mr mb) := by
  refine ps_imp (ps_for hp hc hi hg hb hs) fun Dn σ H q => ?_
  obtain ⟨M, ρ, G, env, R0, q⟩ := q
  refine ⟨M, ρ, G, env, R0, ?_⟩
  unfold sFor at q
  cases hm : mr env G with
  | st => rw [hm] at q; exact q
  | er cl fs G1 => rw [hm] at q; exact fun dd gs ρ' H' g s z f => q M ρ' σ H' dd gs g.gr (R0.ge g s) z f
  | ok ds G1 =>
    rw [hm] at q
    intro J ρ1 H1 g1 s1 hJ
    have q1 : SQ c W M ρ1 H1 (forL k mb ds env G1) Dn := SQ.grow q g1.gr
    let Pv : Nat → L2.St → Hp → Prop := fun i σ H => ∃ M' ρ' G' env', Gr M ρ1 H1 M' ρ' H ∧ Rl c M' ρ' G' env' σ H ∧ SQ c W M' ρ' H (forL k mb (ds.drop i) env' G') Dn
    refine ⟨fun i m σ H => m = ds.length - i ∧ i ≤ ds.length ∧ Pv i σ H, ⟨ds.length, by simp, Nat.zero_le _, M, ρ1, G1, env, Gr.refl, R0.ge g1 s1, q1⟩, ?_⟩
    rintro i m σ2 H2 ⟨rfl, hi, M', ρ', G', env', g', R', q'⟩
    have z := hJ M' ρ' H2 g' i
    by_cases hlt : i < ds.length
    · refine .inr ?_
      obtain ⟨zg, zy⟩ := z.1 ds[i] (List.getElem?_eq_getElem hlt)
      refine ⟨zg, Pv (i + 1), fun σ' H' p' => ⟨ds.length - (i + 1), by omega, rfl, hlt, p'⟩, fun x H' y => ?_⟩
      obtain ⟨sm, rx⟩ := zy x H' y
      have R2 := (R'.same sm).set (i := k) (x := EV.d ds[i]) rx
      refine ⟨M', ρ', G', _, R2, ?_⟩
      rw [List.drop_eq_getElem_cons hlt] at q'
      have q2 : SQ c W M' ρ' H' (loopO (mb (env'.set k (.ev (.d ds[i]))) G') (forL k mb (ds.drop (i + 1)))) Dn := SQ.grow q' (Gr.same sm)
      exact SQ.loop q2 fun env2 G2 M2 ρ2 σ3 H3 g3 R3 q3 => ⟨M2, ρ2, G2, env2, (g'.trans (Gr.same sm)).trans g3, R3, q3⟩
    · have e : i = ds.length := by omega
      subst e
      rw [List.drop_length] at q'
      exact .inl ⟨z.2 (Nat.le_refl _), q' M' ρ' σ2 H2 Gr.refl R'⟩
end
/-! ### list comprehensions -/
def wipeE (env : En) : List Nat → En
  | [] => env
  | v :: vs => (wipeE env vs).set v .no
/-- nothing is raised out of a comprehension's element -/
def bindN {α β : Type} (o : Out α) (f : α → GS → Out β) : Out β := match o with
  | .ok a g => f a g
  | _ => .st
def lcL (k : Nat) (tt : BM) (te : EM) : List D → En → GS → Out (List D)
  | [], _, G => .ok [] G
  | d :: ds, env, G => bindN (tt (env.set k (.ev (.d d))) G) fun b G1 => if b = true then bindN (te (env.set k (.ev (.d d))) G1) fun y G2 => (match y with
      | .d y => bindN (lcL k tt te ds env G2) fun ys G3 => .ok (y :: ys) G3
      | _ => .st) else lcL k tt te ds env G1
def eLc (k : Nat) (vs : List Nat) (m : LM) (tt : BM) (te : EM) : EM := fun env G => (m env G).bind fun ds G1 => bindN (lcL k tt te ds (wipeE env vs) G1) fun ys G2 => if ys.length ≤ lstMax then .ok (.d (.lst ys)) G2 else .st
abbrev W0 : WX := fun _ _ _ _ => False
def DTs (X : Cx) (c : RC) (es : List Expr) (m : BM) : Prop := PTs X es (tDB c W0 m)
def bYes : BM := fun _ G => .ok true G
theorem dts_nil {X : Cx} {c : RC} : DTs X c [] bYes := ⟨fun pins s σ H Q I ⟨M, ρ, G, env, R, q⟩ => pts_nil.run pins s σ H Q I (q.ok R.s rfl)⟩
theorem dts_one {X : Cx} {c : RC} {e : Expr} {m : BM} (h : DB X c W0 e m) : DTs X c [e] m := pts_one h
section
variable {X : Cx} {c : RC} {W : WX} {elt e tg : Expr} {ifs : List Expr} {mr : LM} {mt : BM} {me : EM} {pos p : Pos} {M : Addr → Prop} {ρ : List Addr} {σ : L2.St} {H : Hp} {G : GS} {scope : Scope} {own : List (Str × Nat)}
theorem rl_wipe {env : En} (R : Rl c M ρ G env σ H) : ∀ vs : List Nat, Rl c M ρ G (wipeE env vs) (wipe σ vs) H
  | [] => R
  | v :: vs => by
    have Q := rl_wipe R vs
    obtain ⟨oa, h1, h2⟩ := Q.e
    have old : ∀ (j : Nat) (sl : Sl), ((wipeE env vs).set v .no)[j]? = some sl → sl = .no ∨ (j ≠ v ∧ (wipeE env vs)[j]? = some sl) := fun j sl e => by
      rcases env_set e with ⟨_, rfl⟩ | h
      · exact .inl rfl
      · exact .inr h
    refine ⟨Q.s, by unfold wipeE wipe; simpa using Q.len, oa, fun j sl e => ?_, fun i j o u e1 e2 e3 => ?_⟩
    · rcases old j sl e with rfl | ⟨hj, e⟩
      · trivial
      · have h := h1 j sl e
        have sg : (wipe σ (v :: vs))[j]? = (wipe σ vs)[j]? := (List.getElem?_set_ne (Ne.symm hj) : ((wipe σ vs).set v none)[j]? = _)
        match sl, h with
        | .no, _ => trivial
        | .ev e, ⟨v, a, b⟩ => exact ⟨v, by rw [sg]; exact a, b⟩
        | .own (.lst xs), ⟨a, b⟩ => exact ⟨by rw [sg]; exact a, b⟩
        | .own (.ins k fs), ⟨a, b⟩ => exact ⟨by rw [sg]; exact a, b⟩
        | .exn k fs, ⟨a, b⟩ => exact ⟨by rw [sg]; exact a, b⟩
    · rcases old i _ e1 with z | ⟨_, e1⟩
      · cases z
      · rcases old j _ e2 with z | ⟨_, e2⟩
        · cases z
        · exact h2 i j o u e1 e2 e3
/-- the frame with one more address of its own -/
theorem rl_more {env : En} {D : Addr} {o : HO} (R : Rl c M ρ G env σ H) (h : H D = none) : Rl c (fun a => M a ∨ a = D) ρ G env σ (upd H D o) := by
  have sm : Same H (upd H D o) := same_upd h
  have fx := R.s.fresh h
  have g : Gr M ρ H (fun a => M a ∨ a = D) ρ (upd H D o) := ⟨fun a o q _ _ => sm a o q, fun a o q => ⟨o, sm a o q⟩, ⟨[], by simp, by simp⟩, fun a z => z.elim .inl fun e => .inr (by rw [e]; exact h)⟩
  obtain ⟨oa, h1, h2⟩ := R.e
  refine ⟨⟨R.s.len, R.s.nd, fun a ha => ⟨(R.s.sep a ha).1, fun z => z.elim (R.s.sep a ha).2 fun e => fx.2.2 (by rw [← e]; exact ha)⟩, fun i xs e => ?_, fun a z => z.elim (fun z => same_ne sm (R.s.mt a z)) fun e => by rw [e, upd_same]; simp, fun a z => same_ne sm (R.s.bt a z)⟩, R.len, oa, fun i sl e => ?_, h2⟩
  · obtain ⟨a, vs, p, q, r⟩ := R.s.at_ i xs e
    exact ⟨a, vs, p, sm _ _ q, repEs_grow r g⟩
  · have hq := h1 i sl e
    match sl, hq with
    | .no, _ => trivial
    | .ev e, ⟨v, a, b⟩ => exact ⟨v, a, b.grow g⟩
    | .own (.lst xs), ⟨a, b, vs, d, r⟩ => exact ⟨a, ⟨.inl b.1, b.2⟩, vs, sm _ _ d, reps_grow r g⟩
    | .own (.ins k2 f2), ⟨a, o2, b, dx, gs, d, r⟩ => exact ⟨a, o2, .inl b, dx, gs, sm _ _ d, flds_grow r g⟩
    | .exn k2 f2, ⟨a, b⟩ => exact ⟨a, b.grow g⟩
end
end DL
set_option Elab.async false
set_option linter.all false
set_option maxRecDepth 100000
set_option maxHeartbeats 4000000
namespace DL
open PySem L2 PyProof.Rows StX ClX
theorem wipe_get {σ : L2.St} {j : Nat} : ∀ {vs : List Nat}, (wipe σ vs)[j]? = if j ∈ vs ∧ j < σ.length then some none else σ[j]?
  | [] => by simp [wipe]
  | v :: vs => by
    show ((wipe σ vs).set v none)[j]? = _
    by_cases h : v = j
    · subst h
      by_cases hl : v < σ.length
      · rw [List.getElem?_set_self (by rw [wipe_length]; exact hl)]
        simp [hl]
      · have e1 : ((wipe σ vs).set v none)[v]? = none := List.getElem?_eq_none (by rw [List.length_set, wipe_length]; omega)
        have e2 : σ[v]? = none := List.getElem?_eq_none (by omega)
        rw [e1, if_neg (fun z => hl z.2), e2]
    · rw [List.getElem?_set_ne h, wipe_get (vs := vs)]
      have : (j ∈ v :: vs) ↔ j ∈ vs := by
        constructor
        · intro z
          rcases List.mem_cons.mp z with z | z
          · exact absurd z.symm h
          · exact z
        · exact List.mem_cons_of_mem _
      simp [this]
theorem wipe_set {σ : L2.St} {k : Nat} {y : Option V} {vs : List Nat} (h : k ∈ vs) : wipe ((wipe σ vs).set k y) vs = wipe σ vs := by
  refine List.ext_getElem? fun j => ?_
  rw [wipe_get, List.length_set, wipe_length]
  by_cases hj : j ∈ vs ∧ j < σ.length
  · rw [if_pos hj, wipe_get, if_pos hj]
  · rw [if_neg hj]
    by_cases hk : k = j
    · subst hk
      have hl : ¬ k < σ.length := fun z => hj ⟨h, z⟩
      rw [List.getElem?_eq_none (by rw [List.length_set, wipe_length]; omega), List.getElem?_eq_none (by rw [wipe_length]; omega)]
    · rw [List.getElem?_set_ne hk]
section
variable {X : Cx} {c : RC} {W : WX} {elt e tg : Expr} {ifs : List Expr} {mr : LM} {mt : BM} {me : EM} {pos p : Pos} {M : Addr → Prop} {ρ : List Addr} {σ : L2.St} {H : Hp} {G : GS} {scope : Scope} {own : List (Str × Nat)} {k : Nat}
theorem RepN.zz {M1 M2 : Addr → Prop} {ρ1 ρ2 : List Addr} (hz : ∀ a, Zz c M1 ρ1 a → Zz c M2 ρ2 a) : ∀ {n : Nat} {d : DL.D} {u : V}, RepN c M1 ρ1 H n d u → RepN c M2 ρ2 H n d u := by
  intro n
  induction n with
  | zero => intro d u h; cases d <;> exact h
  | succ n ih =>
    intro d u h
    cases d with
    | tup xs => obtain ⟨a, vs, e, z, r⟩ := h; exact ⟨a, vs, e, z.imp (fun q => ⟨hz a q.1, q.2⟩) id, r.imp fun _ _ q => ih q⟩
    | lst xs => obtain ⟨a, vs, e, z, r⟩ := h; exact ⟨a, vs, e, z.imp (fun q => ⟨hz a q.1, q.2⟩) id, r.imp fun _ _ q => ih q⟩
    | ins k fs => obtain ⟨a, dx, gs, e, z, e2, nm, r⟩ := h; exact ⟨a, dx, gs, e, hz a z, e2, nm, r.imp fun _ _ q => ih q⟩
    | _ => exact h
theorem Rep.zz {M1 M2 : Addr → Prop} {ρ1 ρ2 : List Addr} (hz : ∀ a, Zz c M1 ρ1 a → Zz c M2 ρ2 a) {d : DL.D} {u : V} (h : Rep c M1 ρ1 H d u) : Rep c M2 ρ2 H d u := let ⟨n, q⟩ := h; ⟨n, RepN.zz hz q⟩
theorem map_dz {xs : List DL.D} {vs : List V} (h : All2 (Rep c M ρ H) xs vs) : All2 (RepE c M ρ H) (xs.map .d) vs := by
  induction h with
  | nil => exact .nil
  | cons r _ ih => exact .cons r ih
/-- while the new list at D grows -/
structure LcI (c : RC) (M : Addr → Prop) (ρ1 : List Addr) (H1 : Hp) (D : Addr) (ρ' : List Addr) (G' : GS) (envw : En) (σw : L2.St) (H : Hp) (done : List DL.D) : Prop where
  g : Ge M ρ1 H1 ρ' H
  nd : D ∉ ρ'
  s : SR c (fun a => M a ∨ a = D) ρ' G' H
  len : envw.length ≤ σw.length
  e : ∃ oa : Nat → Addr, (∀ (i : Nat) (sl : Sl), envw[i]? = some sl → SlR c (fun a => M a ∨ a = D) ρ' H oa σw i sl) ∧ (∀ (i j : Nat) (o u : OW), envw[i]? = some (.own o) → envw[j]? = some (.own u) → oa i = oa j → i = j) ∧ ∀ (i : Nat) (o : OW), envw[i]? = some (.own o) → oa i ≠ D
  at_ : ∃ acc, H D = some (.lst acc) ∧ All2 (Rep c (fun a => M a ∨ a = D) ρ' H) done acc
theorem LcI.r {ρ1 : List Addr} {H1 : Hp} {D : Addr} {ρ' : List Addr} {G' : GS} {envw : En} {σw : L2.St} {done : List DL.D} (L : LcI c M ρ1 H1 D ρ' G' envw σw H done) : Rl c (fun a => M a ∨ a = D) ρ' G' envw σw H :=
  let ⟨oa, h1, h2, _⟩ := L.e; ⟨L.s, L.len, oa, h1, h2⟩
theorem slr_ge {M' : Addr → Prop} {ρ' ρ2 : List Addr} {H' : Hp} {oa : Nat → Addr} {i : Nat} {sl : Sl} (hM : ∀ a, M' a → a ∉ ρ') (h : SlR c M' ρ' H oa σ i sl) (g : Ge M' ρ' H ρ2 H') : SlR c M' ρ2 H' oa σ i sl := by
  match sl, h with
  | .no, _ => trivial
  | .ev e, ⟨v, a, b⟩ => exact ⟨v, a, b.grow g.gr⟩
  | .own (.lst xs), ⟨a, b, vs, d, f⟩ => exact ⟨a, b, vs, g.keep _ _ d (hM _ b.1), reps_grow f g.gr⟩
  | .own (.ins k fs), ⟨a, o, b, dx, gs, d, f⟩ => exact ⟨a, o, b, dx, gs, g.keep _ _ d (hM _ b), flds_grow f g.gr⟩
  | .exn k fs, ⟨a, b⟩ => exact ⟨a, b.grow g.gr⟩
theorem lcI_ge {ρ1 : List Addr} {H1 : Hp} {D : Addr} {ρ' ρ2 : List Addr} {G' G2 : GS} {envw : En} {σw : L2.St} {H' : Hp} {done : List DL.D} (L : LcI c M ρ1 H1 D ρ' G' envw σw H done) (g : Ge (fun a => M a ∨ a = D) ρ' H ρ2 H') (s : SR c (fun a => M a ∨ a = D) ρ2 G2 H') : LcI c M ρ1 H1 D ρ2 G2 envw σw H' done := by
  obtain ⟨acc, hA, ra⟩ := L.at_
  obtain ⟨oa, h1, h2, h3⟩ := L.e
  have g' : Ge M ρ' H ρ2 H' := ⟨g.keep, g.there, g.grow⟩
  exact ⟨L.g.trans g', fun z => (s.sep D z).2 (.inr rfl), s, L.len, ⟨oa, fun i sl e => slr_ge (fun a m h => (L.s.sep a h).2 m) (h1 i sl e) g, h2, h3⟩, acc, g.keep D _ hA L.nd, reps_grow ra g.gr⟩
/-- one more item -/
theorem lcI_put {ρ1 : List Addr} {H1 : Hp} {D : Addr} {ρ' : List Addr} {G' : GS} {envw : En} {σw : L2.St} {done : List DL.D} {acc : List V} {y : DL.D} {v : V} (hD : H1 D = none) (L : LcI c M ρ1 H1 D ρ' G' envw σw H done) (hA : H D = some (.lst acc)) (ra : All2 (Rep c (fun a => M a ∨ a = D) ρ' H) done acc)
    (rv : Rep c (fun a => M a ∨ a = D) ρ' H y v) : LcI c M ρ1 H1 D ρ' G' envw σw (upd H D (.lst (acc ++ [v]))) (done ++ [y]) := by
  obtain ⟨oa, h1, h2, h3⟩ := L.e
  have hm' : (fun a => M a ∨ a = D) D := .inr rfl
  have gw := gr_own (M := fun a => M a ∨ a = D) (ρ := ρ') (o := .lst (acc ++ [v])) hm' hA
  have keepH : ∀ a o, H1 a = some o → (upd H D (.lst (acc ++ [v]))) a = H a := fun a o e => upd_ne (ne_of_none e hD)
  refine ⟨⟨fun a o e n => by rw [keepH a o e]; exact L.g.keep a o e n, fun a o e => by rw [keepH a o e]; exact L.g.there a o e, L.g.grow⟩, L.nd, L.s.own hm' hA, L.len, ⟨oa, fun i sl e => ?_, h2, h3⟩, acc ++ [v], upd_same, All2.append (reps_grow ra gw) (.cons (Rep.grow rv gw) .nil)⟩
  have h := h1 i sl e
  match sl, h, e with
  | .no, _, _ => trivial
  | .ev e, ⟨v, a, b⟩, _ => exact ⟨v, a, b.grow gw⟩
  | .own (.lst xs), ⟨a, b, vs, d, f⟩, e => exact ⟨a, b, vs, by rw [upd_ne (h3 i _ e)]; exact d, reps_grow f gw⟩
  | .own (.ins k fs), ⟨a, o, b, dx, gs, d, f⟩, e => exact ⟨a, o, b, dx, gs, by rw [upd_ne (by rw [← o]; exact h3 i _ e)]; exact d, flds_grow f gw⟩
  | .exn k fs, ⟨a, b⟩, _ => exact ⟨a, b.grow gw⟩
theorem cv_less {D : Addr} : Cv c (fun a => M a ∨ a = D) c M ρ := ⟨rfl, rfl, rfl, fun a h => ⟨h.1, fun z => h.2.1 (.inl z), h.2.2⟩⟩
/-- a comprehension whose list ends as Fin says -/
def eLcG {β : Type} (Fin : List DL.D → GS → Out β) (k : Nat) (vs : List Nat) (mr : LM) (mt : BM) (me : EM) : En → GS → Out β := fun env G => (mr env G).bind fun ds G1 => bindN (lcL k mt me ds (wipeE env vs) G1) fun ys G2 => if ys.length ≤ lstMax then Fin ys G2 else .st
def eLcF (Fin : List DL.D → GS → Out EV) (k : Nat) (vs : List Nat) (mr : LM) (mt : BM) (me : EM) : EM := fun env G => (mr env G).bind fun ds G1 => bindN (lcL k mt me ds (wipeE env vs) G1) fun ys G2 => if ys.length ≤ lstMax then Fin ys G2 else .st
/-- what is to be shown of Fin: the list that stands at D is it -/
def FinOk (c : RC) (W : WX) (Fin : List DL.D → GS → Out EV) : Prop := ∀ (M : Addr → Prop) (ρ1 ρ' : List Addr) (σ : L2.St) (G1 G' : GS) (H1 H2 : Hp) (D : Addr) (envw : En) (σw : L2.St) (done : List DL.D) (Q : VK),
  SR c M ρ1 G1 H1 → H1 D = none → LcI c M ρ1 H1 D ρ' G' envw σw H2 done → TQ (RE c) c W M ρ1 σ H1 (Fin done G') Q → Q (.ref D) H2
theorem tlc_ofG {β : Type} {Rr : (Addr → Prop) → List Addr → Hp → β → V → Prop} {Fin : List DL.D → GS → Out β} {wi : TI} {Q : VK} {vs : List Nat} {env : En} (R0 : Rl c M ρ G env σ H)
    (hF : ∀ (ρ1 ρ' : List Addr) (G1 G' : GS) (H1 H2 : Hp) (D : Addr) (done : List DL.D), Ge M ρ H ρ1 H1 → SR c M ρ1 G1 H1 → H1 D = none → LcI c M ρ1 H1 D ρ' G' (wipeE env vs) (wipe σ vs) H2 done → TQ Rr c W M ρ1 σ H1 (Fin done G') Q → Q (.ref D) H2)
    (hk : k ∈ vs) (hwi : ∀ R, tDI c W mr σ H R → wi σ H R) (q : TQ Rr c W M ρ σ H (eLcG Fin k vs mr mt me env G) Q) : tLc wi (gName k) (tDB c W0 mt) (tD c W0 me) vs σ H Q := by
  refine hwi _ ⟨M, ρ, G, env, R0, ?_⟩
  unfold eLcG at q
  cases hm : mr env G with
  | st => rw [hm] at q; exact q
  | er cl fs G1 => rw [hm] at q; exact q
  | ok ds G1 =>
    rw [hm] at q
    intro J ρ1 H1 g1 s1 hJ D hD
    have R1 := R0.ge g1 s1
    have q1 : TQ Rr c W M ρ1 σ H1 (bindN (lcL k mt me ds (wipeE env vs) G1) fun ys G2 => if ys.length ≤ lstMax then Fin ys G2 else .st) Q := TQ.grow q g1
    -- what is left to do, behind done
    let Pv : Nat → Hp → Prop := fun i H => ∃ ρ' G' done, LcI c M ρ1 H1 D ρ' G' (wipeE env vs) (wipe σ vs) H done ∧ done.length ≤ lstMax ∧ (∀ ys G3, lcL k mt me (ds.drop i) (wipeE env vs) G' = .ok ys G3 → (done ++ ys).length ≤ lstMax) ∧
      TQ Rr c W M ρ1 σ H1 (bindN (lcL k mt me (ds.drop i) (wipeE env vs) G') fun ys G2 => Fin (done ++ ys) G2) Q
    have bound : ∀ {ρ' : List Addr} {H2 : Hp} {o : Out (List DL.D)}, TQ Rr c W M ρ' σ H2 (bindN o fun ys G2 => if ys.length ≤ lstMax then Fin ys G2 else .st) Q → (∀ ys G3, o = .ok ys G3 → ys.length ≤ lstMax) ∧ TQ Rr c W M ρ' σ H2 (bindN o fun ys G2 => Fin ys G2) Q := fun {ρ' H2 o} h => by
      cases o with
      | ok ys G3 =>
        have h' : TQ Rr c W M ρ' σ H2 (if ys.length ≤ lstMax then Fin ys G3 else .st) Q := h
        split at h'
        · rename_i hl
          exact ⟨fun a b e => by cases e; exact hl, h'⟩
        · exact h'.elim
      | er cl fs G3 => exact (show False from h).elim
      | st => exact (show False from h).elim
    obtain ⟨b1, q2⟩ := bound q1
    have L0 : LcI c M ρ1 H1 D ρ1 G1 (wipeE env vs) (wipe σ vs) (upd H1 D (.lst [])) [] :=
      let RM := rl_more (o := .lst []) (rl_wipe R1 vs) hD
      let RW := rl_wipe R1 vs
      by
        obtain ⟨oa, h1, h2⟩ := RW.e
        have fx := s1.fresh hD
        have sm : Same H1 (upd H1 D (.lst [])) := same_upd hD
        have g : Gr M ρ1 H1 (fun a => M a ∨ a = D) ρ1 (upd H1 D (.lst [])) := ⟨fun a o q _ _ => sm a o q, fun a o q => ⟨o, sm a o q⟩, ⟨[], by simp, by simp⟩, fun a z => z.elim .inl fun e => .inr (by rw [e]; exact hD)⟩
        refine ⟨Ge.same sm, fx.2.2, RM.s, RM.len, ⟨oa, fun i sl e => ?_, h2, fun i o e => ?_⟩, [], upd_same, .nil⟩
        · have hq := h1 i sl e
          match sl, hq with
          | .no, _ => trivial
          | .ev e, ⟨v, a, b⟩ => exact ⟨v, a, b.grow g⟩
          | .own (.lst xs), ⟨a, b, vs, d, r⟩ => exact ⟨a, ⟨.inl b.1, b.2⟩, vs, sm _ _ d, reps_grow r g⟩
          | .own (.ins k2 f2), ⟨a, o2, b, dx, gs, d, r⟩ => exact ⟨a, o2, .inl b, dx, gs, sm _ _ d, flds_grow r g⟩
          | .exn k2 f2, ⟨a, b⟩ => exact ⟨a, b.grow g⟩
        · have hq := h1 i _ e
          match o, hq with
          | .lst xs, ⟨_, b, _⟩ => exact fun z => fx.2.1 (by rw [← z]; exact b.1)
          | .ins k2 f2, ⟨_, o2, b, _⟩ => exact fun z => fx.2.1 (by rw [← z, o2]; exact b)
    refine ⟨fun i m H => m = ds.length - i ∧ i ≤ ds.length ∧ Pv i H, ⟨ds.length, by simp, Nat.zero_le _, ρ1, G1, [], L0, by simp, by simpa using b1, by simpa using q2⟩, ?_⟩
    rintro i m H2 ⟨rfl, hi, ρ', G', done, L, hdn, hbd, q'⟩
    have gD : Gr M ρ1 H1 (fun a => M a ∨ a = D) ρ' H2 := ⟨fun a o e n _ => L.g.keep a o e n, L.g.there, L.g.grow, fun a z => z.elim .inl fun e => .inr (by rw [e]; exact hD)⟩
    have z := hJ _ ρ' H2 gD i
    by_cases hlt : i < ds.length
    · refine .inr ?_
      obtain ⟨zg, zy⟩ := z.1 ds[i] (List.getElem?_eq_getElem hlt)
      refine ⟨zg, Pv (i + 1), fun H' p' => ⟨ds.length - (i + 1), by omega, rfl, hlt, p'⟩, fun x H' y => ?_⟩
      obtain ⟨sm, rx⟩ := zy x H' y
      have L1 : LcI c M ρ1 H1 D ρ' G' (wipeE env vs) (wipe σ vs) H' done := lcI_ge L (Ge.same sm) (L.s.same sm)
      have R2 := L1.r.set (i := k) (x := EV.d ds[i]) rx
      refine ⟨wipe_set hk, (fun a => M a ∨ a = D), ρ', G', _, R2, ?_⟩
      rw [List.drop_eq_getElem_cons hlt] at q' hbd
      have q3 : TQ Rr c W M ρ1 σ H1 (bindN (lcL k mt me (ds[i] :: ds.drop (i + 1)) (wipeE env vs) G') fun ys G2 => Fin (done ++ ys) G2) Q := q'
      have key : lcL k mt me (ds[i] :: ds.drop (i + 1)) (wipeE env vs) G' = bindN (mt ((wipeE env vs).set k (.ev (.d ds[i]))) G') fun b G1 => if b = true then bindN (me ((wipeE env vs).set k (.ev (.d ds[i]))) G1) fun y G2 => (match y with
        | .d y => bindN (lcL k mt me (ds.drop (i + 1)) (wipeE env vs) G2) fun ys G3 => .ok (y :: ys) G3
        | _ => .st) else lcL k mt me (ds.drop (i + 1)) (wipeE env vs) G1 := rfl
      rw [key] at q3 hbd
      cases ht : mt ((wipeE env vs).set k (.ev (.d ds[i]))) G' with
      | st => rw [ht] at q3; exact (show False from q3).elim
      | er cl fs G3 => rw [ht] at q3; exact (show False from q3).elim
      | ok b G3 =>
        rw [ht] at q3 hbd
        intro b' ρ3 H3 g3 s3 eb
        obtain rfl : b' = b := eb.symm
        have L3 : LcI c M ρ1 H1 D ρ3 G3 (wipeE env vs) (wipe σ vs) H3 done := lcI_ge L1 g3 s3
        have q4 : TQ Rr c W M ρ1 σ H1 (bindN (if b' = true then bindN (me ((wipeE env vs).set k (.ev (.d ds[i]))) G3) fun y G2 => (match y with
          | .d y => bindN (lcL k mt me (ds.drop (i + 1)) (wipeE env vs) G2) fun ys G3 => .ok (y :: ys) G3
          | _ => .st) else lcL k mt me (ds.drop (i + 1)) (wipeE env vs) G3) fun ys G2 => Fin (done ++ ys) G2) Q := q3
        have hb4 : ∀ ys G5, (if b' = true then bindN (me ((wipeE env vs).set k (.ev (.d ds[i]))) G3) fun y G2 => (match y with
          | .d y => bindN (lcL k mt me (ds.drop (i + 1)) (wipeE env vs) G2) fun ys G3 => .ok (y :: ys) G3
          | _ => .st) else lcL k mt me (ds.drop (i + 1)) (wipeE env vs) G3) = .ok ys G5 → (done ++ ys).length ≤ lstMax := hbd
        cases b' with
        | false =>
          rw [if_neg (by decide)] at q4 hb4 ⊢
          exact ⟨ρ3, G3, done, L3, hdn, hb4, q4⟩
        | true =>
          rw [if_pos rfl] at q4 hb4 ⊢
          have R3 : Rl c (fun a => M a ∨ a = D) ρ3 G3 ((wipeE env vs).set k (.ev (.d ds[i]))) ((wipe σ vs).set k (some x)) H3 := R2.ge g3 s3
          refine ⟨_, ρ3, G3, _, R3, ?_⟩
          cases he : me ((wipeE env vs).set k (.ev (.d ds[i]))) G3 with
          | st => rw [he] at q4; exact (show False from q4).elim
          | er cl fs G5 => rw [he] at q4; exact (show False from q4).elim
          | ok y G5 =>
            rw [he] at q4 hb4
            cases y with
            | o j => exact (show False from q4).elim
            | d y =>
              intro v ρ5 H5 g5 s5 rv
              have L5 : LcI c M ρ1 H1 D ρ5 G5 (wipeE env vs) (wipe σ vs) H5 done := lcI_ge L3 g5 s5
              obtain ⟨acc, hA, ra⟩ := L5.at_
              have q5 : TQ Rr c W M ρ1 σ H1 (bindN (bindN (lcL k mt me (ds.drop (i + 1)) (wipeE env vs) G5) fun ys G3 => .ok (y :: ys) G3) fun ys G2 => Fin (done ++ ys) G2) Q := q4
              have hb5 : ∀ ys G6, (bindN (lcL k mt me (ds.drop (i + 1)) (wipeE env vs) G5) fun ys G3 => .ok (y :: ys) G3) = .ok ys G6 → (done ++ ys).length ≤ lstMax := hb4
              cases hr : lcL k mt me (ds.drop (i + 1)) (wipeE env vs) G5 with
              | st => rw [hr] at q5; exact (show False from q5).elim
              | er cl fs G6 => rw [hr] at q5; exact (show False from q5).elim
              | ok ys G6 =>
                rw [hr] at q5 hb5
                have hbb := hb5 (y :: ys) G6 rfl
                have hlen : acc.length < sizeLine := by
                  rw [← ra.length]
                  refine Nat.lt_of_lt_of_le (Nat.lt_succ_of_le hdn) (by decide)
                refine ⟨acc, hA, hlen, ρ5, G5, done ++ [y], lcI_put hD L5 hA ra rv, ?_, ?_, ?_⟩
                · simp at hbb ⊢; omega
                · intro ys' G7 e
                  rw [hr] at e
                  cases e
                  simpa using hbb
                · rw [hr]
                  have q7 : TQ Rr c W M ρ1 σ H1 (Fin (done ++ (y :: ys)) G6) Q := q5
                  show TQ Rr c W M ρ1 σ H1 (Fin ((done ++ [y]) ++ ys) G6) Q
                  rw [List.append_assoc]
                  exact q7
    · have e : i = ds.length := by omega
      subst e
      rw [List.drop_length] at q'
      refine .inl ⟨z.2 (Nat.le_refl _), ?_⟩
      have q6 : TQ Rr c W M ρ1 σ H1 (Fin (done ++ []) G') Q := q'
      rw [List.append_nil] at q6
      exact hF ρ1 ρ' G1 G' H1 H2 D done g1 s1 hD L q6
theorem tlc_ofF {Fin : List DL.D → GS → Out EV} (hF : FinOk c W Fin) {wi : TI} {Q : VK} {vs : List Nat} (hk : k ∈ vs) (hwi : ∀ R, tDI c W mr σ H R → wi σ H R) (q : tD c W (eLcF Fin k vs mr mt me) σ H Q) : tLc wi (gName k) (tDB c W0 mt) (tD c W0 me) vs σ H Q := by
  obtain ⟨M, ρ, G, env, R0, q⟩ := q
  exact tlc_ofG (Rr := RE c) (Fin := Fin) R0 (fun ρ1 ρ' G1 G' H1 H2 D done g1 s1 hD L q6 => hF M ρ1 ρ' σ G1 G' H1 H2 D _ _ done Q s1 hD L q6) hk hwi q
theorem finD : FinOk c W (fun ys G => .ok (.d (.lst ys)) G) := fun M ρ1 ρ' σ G1 G' H1 H2 D envw σw done Q s1 hD L q6 => by
  obtain ⟨acc, hA, ra⟩ := L.at_
  have fx := s1.fresh hD
  have sM : SR c M ρ' G' H2 := L.s.cv cv_less (fun a h => ⟨(L.s.sep a h).1, fun z => (L.s.sep a h).2 (.inl z)⟩) (fun a z => L.s.mt a (.inl z)) L.s.bt
  exact q6 (.ref D) ρ' H2 L.g sM (Rep.lst (.inl ⟨⟨fx.1, fx.2.1, L.nd⟩, .inl hA⟩) (ra.imp fun _ _ r => r.cv cv_less))
theorem tlc_of {wi : TI} {Q : VK} {vs : List Nat} (hk : k ∈ vs) (hwi : ∀ R, tDI c W mr σ H R → wi σ H R) (q : tD c W (eLc k vs mr mt me) σ H Q) : tLc wi (gName k) (tDB c W0 mt) (tD c W0 me) vs σ H Q := by
  refine tlc_ofF (Fin := fun ys G => .ok (.d (.lst ys)) G) finD hk hwi ?_
  exact q
/-- the list is an object that may be written -/
def eLcO (k : Nat) (vs : List Nat) (mr : LM) (mt : BM) (me : EM) : EM := eLcF (fun ys G => .ok (.o G.length) (G ++ [.lst (ys.map .d)])) k vs mr mt me
theorem finO : FinOk c W (fun ys G => .ok (.o G.length) (G ++ [.lst (ys.map .d)])) := fun M ρ1 ρ' σ G1 G' H1 H2 D envw σw done Q s1 hD L q6 => by
  obtain ⟨acc, hA, ra⟩ := L.at_
  have fx := s1.fresh hD
  have cz : ∀ a, Zz c (fun a => M a ∨ a = D) ρ' a → Zz c M (ρ' ++ [D]) a := fun a h => ⟨h.1, fun z => h.2.1 (.inl z), fun z => by
    rcases List.mem_append.mp z with z | z
    · exact h.2.2 z
    · exact h.2.1 (.inr (by simpa using z))⟩
  have hlen : ρ'.length = G'.length := L.s.len
  have rM : All2 (RepE c M (ρ' ++ [D]) H2) (done.map EV.d) acc := map_dz (ra.imp fun _ _ r => Rep.zz cz r)
  have hs : SR c M (ρ' ++ [D]) (G' ++ [.lst (done.map .d)]) H2 := by
    refine ⟨by simp [hlen], ?_, fun a h => ?_, fun i ys e => ?_, fun a m => L.s.mt a (.inl m), L.s.bt⟩
    · refine List.nodup_append.mpr ⟨L.s.nd, by simp, fun a h1 b h2 => ?_⟩
      rintro rfl
      exact L.nd (by rw [List.mem_singleton] at h2; rw [← h2]; exact h1)
    · rcases List.mem_append.mp h with h | h
      · exact ⟨(L.s.sep a h).1, fun z => (L.s.sep a h).2 (.inl z)⟩
      · rw [List.mem_singleton] at h
        subst h
        exact ⟨fx.1, fx.2.1⟩
    · by_cases hi : i < G'.length
      · rw [List.getElem?_append_left hi] at e
        obtain ⟨a, us, h1, h2, h3⟩ := L.s.at_ i ys e
        refine ⟨a, us, by rw [List.getElem?_append_left (by rw [hlen]; exact hi)]; exact h1, h2, h3.imp fun x u r => ?_⟩
        cases x with
        | d x => exact Rep.zz cz r
        | o j =>
          obtain ⟨b, e1, e2⟩ := r
          exact ⟨b, by rw [List.getElem?_append_left (List.getElem?_eq_some_iff.mp e1).1]; exact e1, e2⟩
      · have hi2 : i = G'.length := by
          have := (List.getElem?_eq_some_iff.mp e).1
          simp at this
          omega
        subst hi2
        rw [List.getElem?_append_right (Nat.le_refl _), Nat.sub_self] at e
        cases e
        exact ⟨D, acc, by rw [← hlen]; simp, hA, rM⟩
  have hg : Ge M ρ1 H1 (ρ' ++ [D]) H2 := by
    obtain ⟨ext, e1, e2⟩ := L.g.grow
    refine ⟨L.g.keep, L.g.there, ext ++ [D], by rw [e1, List.append_assoc], fun a h => ?_⟩
    rcases List.mem_append.mp h with h | h
    · exact e2 a h
    · rw [List.mem_singleton] at h; subst h; exact hD
  exact q6 (.ref D) (ρ' ++ [D]) H2 hg hs ⟨D, by rw [← hlen]; simp, rfl⟩
theorem de_lcO (hc : X.calm = true) (hN : X.N.Nodup) (hi : DI X c W tg e mr) (ok : BlkOk X.N X.env.scope scope own) (hk : k ∈ own.map (·.2))
    (hg : ∀ (s : Shared) (H : Hp) (C : Addr) (cl : List (Str × Addr)) (fp : List Addr), PG (X.blk s H scope (compEnvC scope cl C X.env) fp) tg (gName k)) (ht : ∀ (s : Shared) (H : Hp) (C : Addr) (cl : List (Str × Addr)) (fp : List Addr), DTs (X.blk s H scope (compEnvC scope cl C X.env) fp) c ifs mt)
    (he : ∀ (s : Shared) (H : Hp) (C : Addr) (cl : List (Str × Addr)) (fp : List Addr), DE (X.blk s H scope (compEnvC scope cl C X.env) fp) c W0 elt me) (hs : ∀ x, foldedSetIterable e X.env x = pure x := by intro _; rfl) :
    DE X c W (.ListComp elt [⟨tg, e, ifs, 0⟩] scope pos) (eLcO k (own.map (·.2)) mr mt me) :=
  pe_imp (pe_lc hc hN hi ok hg ht he hs) fun σ H Q q => tlc_ofF finO hk (fun R q => q) q
theorem de_lc (hc : X.calm = true) (hN : X.N.Nodup) (hi : DI X c W tg e mr) (ok : BlkOk X.N X.env.scope scope own) (hk : k ∈ own.map (·.2))
    (hg : ∀ (s : Shared) (H : Hp) (C : Addr) (cl : List (Str × Addr)) (fp : List Addr), PG (X.blk s H scope (compEnvC scope cl C X.env) fp) tg (gName k)) (ht : ∀ (s : Shared) (H : Hp) (C : Addr) (cl : List (Str × Addr)) (fp : List Addr), DTs (X.blk s H scope (compEnvC scope cl C X.env) fp) c ifs mt)
    (he : ∀ (s : Shared) (H : Hp) (C : Addr) (cl : List (Str × Addr)) (fp : List Addr), DE (X.blk s H scope (compEnvC scope cl C X.env) fp) c W0 elt me) (hs : ∀ x, foldedSetIterable e X.env x = pure x := by intro _; rfl) :
    DE X c W (.ListComp elt [⟨tg, e, ifs, 0⟩] scope pos) (eLc k (own.map (·.2)) mr mt me) :=
  pe_imp (pe_lc hc hN hi ok hg ht he hs) fun σ H Q q => tlc_of hk (fun R q => q) q
end
end DL
set_option Elab.async false
set_option linter.all false
set_option maxRecDepth 100000
set_option maxHeartbeats 4000000
namespace DL
open PySem L2 PyProof.Rows StX ClX
section
variable {X : Cx} {c : RC} {W : WX} {e o a b : Expr} {es : List Expr} {ma mb mo mi me : EM} {mr : AM} {pos p p2 : Pos} {M : Addr → Prop} {ρ : List Addr} {σ : L2.St} {H : Hp} {G : GS}
theorem all2_two {α β : Type} {R : α → β → Prop} {x y : α} {vs : List β} (h : All2 R [x, y] vs) : ∃ a b, vs = [a, b] ∧ R x a ∧ R y b := by
  cases h with
  | cons r t => cases t with
    | cons r2 t => cases t; exact ⟨_, _, rfl, r, r2⟩
theorem atI_all2 {α β : Type} {R : α → β → Prop} {xs : List α} {ys : List β} {i : Int} {x : α} (r : All2 R xs ys) (h : atI xs i = some x) : ∃ y, atI ys i = some y ∧ R x y := by
  unfold atI at h ⊢
  rw [← r.length]
  cases hi : ixN xs.length i with
  | none => rw [hi] at h; cases h
  | some j => rw [hi] at h; exact r.get h
theorem dix (hK : c.K = X.K) : IxR X (V2 c fIx) := by
  intro value slice pins s σ H x y v u Q I rx ry ⟨M, ρ, G, a, b, sr, ra, rb, q⟩ hs
  unfold fIx at q
  split at q
  · rename_i xs i
    obtain ⟨p, vs, rfl, z, rr⟩ := Rep.of_lst ra
    cases Rep.of_int rb
    cases hz : atI xs i with
    | none => rw [hz] at q; exact q.elim
    | some d =>
      rw [hz] at q
      obtain ⟨w, hw, rw'⟩ := atI_all2 rr hz
      exact ix_list value slice pins s σ H _ _ v u Q I rx ry ⟨p, vs, i, w, rfl, rfl, by rw [← hK]; exact z.sq, hw, q _ ρ H Ge.refl sr rw'⟩ hs
  · rename_i xs i
    obtain ⟨p, vs, rfl, z, rr⟩ := Rep.of_tup ra
    cases Rep.of_int rb
    cases hz : atI xs i with
    | none => rw [hz] at q; exact q.elim
    | some d =>
      rw [hz] at q
      obtain ⟨w, hw, rw'⟩ := atI_all2 rr hz
      exact ix_tup value slice pins s σ H _ _ v u Q I rx ry ⟨p, vs, i, w, rfl, rfl, by rw [← hK]; exact z.sq, hw, q _ ρ H Ge.refl sr rw'⟩ hs
  · rename_i k i
    obtain ⟨p, hp, rfl⟩ := ra
    cases Rep.of_int rb
    split at q
    · rename_i xs hx
      obtain ⟨p', vs, hp', hH, rr⟩ := sr.at_ k xs hx
      rw [hp] at hp'
      cases hp'
      cases hz : atI xs i with
      | none => rw [hz] at q; exact q.elim
      | some d =>
        rw [hz] at q
        obtain ⟨w, hw, rw'⟩ := atI_all2 rr hz
        exact ix_list value slice pins s σ H _ _ v u Q I rx ry ⟨p, vs, i, w, rfl, rfl, SqL.of hH, hw, q _ ρ H Ge.refl sr rw'⟩ hs
    · exact q.elim
  · exact q.elim
theorem de_ix {f : F2} (hr : IxR X (V2 c f)) (ha : DE X c W a ma) (hb : DE X c W b mb) (hs : PlainIx b := by intro _ _; rfl) : DE X c W (.Subscript a b pos) (eOp f ma mb) := by
  refine pe_imp (pe_ix hr ha hb hs) fun σ H Q q => ?_
  obtain ⟨M, ρ, G, env, R, q⟩ := q
  refine ⟨M, ρ, G, env, R, (TQ.bind (R := RE c) q).imp fun v H1 ⟨ρ1, G1, e1, g1, s1, r1, q1⟩ => ?_⟩
  refine ⟨M, ρ1, G1, env, R.ge g1 s1, (TQ.bind (R := RE c) q1).imp fun u H2 ⟨ρ2, G2, e2, g2, s2, r2, q2⟩ => ?_⟩
  exact ⟨M, ρ2, G2, e1, e2, s2, r1.grow g2.gr, r2, VQ.of q2⟩
/-! slices -/
abbrev OM := En → GS → Out (Option Int)
abbrev RO : (Addr → Prop) → List Addr → Hp → Option Int → Option Int → Prop := fun _ _ _ a b => a = b
def tDO (c : RC) (W : WX) (m : OM) : TO := fun σ H Q => ∃ M ρ G env, Rl c M ρ G env σ H ∧ TQ RO c W M ρ σ H (m env G) Q
def DO (X : Cx) (c : RC) (W : WX) (e : Option Expr) (m : OM) : Prop := PO X e (tDO c W m)
def oNone : OM := fun _ G => .ok none G
def oSome (m : EM) : OM := fun env G => (m env G).bind fun x G1 => match x with
  | .d (.int i) => .ok (some i) G1
  | _ => .st
theorem do_none : DO X c W none oNone := ⟨fun pins s σ H Q I ⟨M, ρ, G, env, R, q⟩ => po_none.run pins s σ H Q I (q.ok R.s rfl)⟩
theorem do_some (he : DE X c W e me) : DO X c W (some e) (oSome me) := ⟨fun pins s σ H Q I ⟨M, ρ, G, env, R, q⟩ => (po_some he).run pins s σ H Q I ⟨M, ρ, G, env, R, (TQ.bind (R := RE c) q).imp fun v H1 ⟨ρ1, G1, e1, g1, s1, r1, q1⟩ => by
  split at q1
  · rename_i i
    cases Rep.of_int r1
    exact ⟨i, rfl, q1.ok s1 rfl⟩
  · exact q1.elim⟩⟩
def cutL {α : Type} (xs : List α) (lo hi : Option Int) : List α := (xs.drop (HT.sIx xs.length 0 lo)).take (HT.sIx xs.length xs.length hi - HT.sIx xs.length 0 lo)
def eSl (m : EM) (lo hi : OM) : EM := fun env G => (m env G).bind fun x G1 => (lo env G1).bind fun l G2 => (hi env G2).bind fun h G3 => match x with
  | .d (.lst xs) => .ok (.d (.lst (cutL xs l h))) G3
  | _ => .st
theorem de_slL {lo hi : Option Expr} {ml mh : OM} (hK : c.K = X.K) (he : DE X c W e me) (hl : DO X c W lo ml) (hh : DO X c W hi mh) : DE X c W (.Subscript e (.Slice lo hi none p2) pos) (eSl me ml mh) := by
  refine pe_imp (pe_slice sl_list he hl hh) fun σ H Q q => ?_
  obtain ⟨M, ρ, G, env, R, q⟩ := q
  refine ⟨M, ρ, G, env, R, (TQ.bind (R := RE c) q).imp fun v H1 ⟨ρ1, G1, e1, g1, s1, r1, q1⟩ => ?_⟩
  refine ⟨M, ρ1, G1, env, R.ge g1 s1, (TQ.bind (R := RO) q1).imp fun l H2 ⟨ρ2, G2, l', g2, s2, r2, q2⟩ => ?_⟩
  refine ⟨M, ρ2, G2, env, (R.ge g1 s1).ge g2 s2, (TQ.bind (R := RO) q2).imp fun h H3 ⟨ρ3, G3, h', g3, s3, r3, q3⟩ => ?_⟩
  obtain rfl : l = l' := r2.symm
  obtain rfl : h = h' := r3.symm
  split at q3
  · rename_i xs
    obtain ⟨p, vs, rfl, z, rr⟩ := Rep.of_lst (RepE.grow (RepE.grow r1 g2.gr) g3.gr)
    refine ⟨p, vs, rfl, by rw [← hK]; exact z.sq, fun p' hp => ?_⟩
    have sm : Same H3 (upd H3 p' (.lst (cutV vs l h))) := same_upd hp
    refine q3.okS s3 sm (Rep.lst (.inl ⟨s3.fresh hp, .inl upd_same⟩) (reps_grow ?_ (Gr.same sm)))
    unfold cutL cutV
    rw [rr.length]
    exact all2_take _ (all2_drop _ rr)
  · exact q3.elim
/-! storing into the store -/
theorem sr_set {k : Nat} {xs : List EV} {vs : List V} {j : Nat} {x : EV} {v : V} {a : Addr} (s : SR c M ρ G H) (hk : G[k]? = some (GO.lst xs)) (ha : ρ[k]? = some a) (hH : H a = some (.lst vs)) (rr : All2 (RepE c M ρ H) xs vs) (r : RepE c M ρ H x v) :
    Ge M ρ H ρ (upd H a (.lst (vs.set j v))) ∧ SR c M ρ (G.set k (GO.lst (xs.set j x))) (upd H a (.lst (vs.set j v))) := by
  have hm := List.mem_of_getElem? ha
  have g : Ge M ρ H ρ (upd H a (.lst (vs.set j v))) := ⟨fun b o e n => by rw [upd_ne (fun z => n (by rw [z]; exact hm))]; exact e, fun b o e => by
    by_cases h : b = a
    · exact ⟨_, by rw [h]; exact upd_same⟩
    · exact ⟨o, by rw [upd_ne h]; exact e⟩, [], by simp, by simp⟩
  have alive : ∀ b, H b ≠ none → (upd H a (.lst (vs.set j v))) b ≠ none := fun b h => by
    by_cases hb : b = a
    · rw [hb, upd_same]; simp
    · rw [upd_ne hb]; exact h
  refine ⟨g, by rw [List.length_set]; exact s.len, s.nd, s.sep, fun i ys e => ?_, fun b m => alive b (s.mt b m), fun b m => alive b (s.bt b m)⟩
  by_cases hi : k = i
  · subst hi
    have hl : k < G.length := (List.getElem?_eq_some_iff.mp hk).1
    rw [List.getElem?_set_self hl] at e
    cases e
    exact ⟨a, _, ha, upd_same, All2.set (r.grow g.gr) j (repEs_grow rr g.gr)⟩
  · rw [List.getElem?_set_ne hi] at e
    obtain ⟨b, us, h1, h2, h3⟩ := s.at_ i ys e
    have hb : b ≠ a := fun z => hi (by
      subst z
      have q1 := List.getElem?_eq_some_iff.mp ha
      have q2 := List.getElem?_eq_some_iff.mp h1
      exact (List.getElem_inj s.nd).mp (q1.2.trans q2.2.symm))
    exact ⟨b, us, h1, by rw [upd_ne hb]; exact h2, repEs_grow h3 g.gr⟩
def sSub (mo mi me : EM) : SM := fun env G => ofE (me env G) env fun x G1 => ofE (mo env G1) env fun o G2 => ofE (mi env G2) env fun i G3 => match o, i with
  | .o k, .d (.int i) => (match (G3[k]? : Option GO) with
    | some (GO.lst xs) => (match ixN xs.length i with
      | some j => .nx env (G3.set k (GO.lst (xs.set j x)))
      | none => .st)
    | none => .st)
  | _, _ => .st
theorem ds_sub (ho : DE X c W o mo) (hi : DE X c W a mi) (he : DE X c W e me)
    (ha : ∀ v, assign (.Subscript o a p) X.env v = (do let ov ← holding [v] (eval o X.env); let iv ← holding [v, ov] (eval a X.env); standAt p; holding [v, ov, iv] (setItem ov iv v); release [v, ov, iv] []) := by intro _; rfl)
    (hs : swapsWithSole [.Subscript o a p] e pos.line X.env = pure false := by rfl) (hw : swappedStores [.Subscript o a p] e X.env = pure none := by rfl)
    (h1 : (assignEach [.Subscript o a p] X.env).map (·.2) = [assign (.Subscript o a p) X.env] := by rfl) : DS X c W (.Assign [.Subscript o a p] e pos) (sSub mo mi me) := by
  refine ps_imp (ps_asg he (pg_sub ho hi set_list ha) hs hw h1) fun Dn σ H q => ?_
  obtain ⟨M, ρ, G, env, R, q⟩ := q
  refine ⟨M, ρ, G, env, R, (SQ.ofE (R := RE c) R q).imp fun v H1 ⟨ρ1, G1, x, g1, R1, r1, q1⟩ => ?_⟩
  refine ⟨M, ρ1, G1, env, R1, (SQ.ofE (R := RE c) R1 q1).imp fun ov H2 ⟨ρ2, G2, o2, g2, R2, r2, q2⟩ => ?_⟩
  refine ⟨M, ρ2, G2, env, R2, (SQ.ofE (R := RE c) R2 q2).imp fun iv H3 ⟨ρ3, G3, i3, g3, R3, r3, q3⟩ => ?_⟩
  have r1' := (r1.grow g2.gr).grow g3.gr
  have r2' := r2.grow g3.gr
  cases o2 with
  | d z => exact (show False from q3).elim
  | o k =>
    cases i3 with
    | o z => exact (show False from q3).elim
    | d z =>
      cases z with
      | int i =>
        have q4 : SQ c W M ρ3 H3 (match (G3[k]? : Option GO) with
          | some (GO.lst xs) => (match ixN xs.length i with
            | some j => OutS.nx env (G3.set k (GO.lst (xs.set j x)))
            | none => .st)
          | none => .st) Dn := q3
        split at q4
        · rename_i xs hx
          split at q4
          · rename_i j hj
            obtain ⟨p', hp', rfl⟩ := r2'
            obtain ⟨p, vs, hp, hH, rr⟩ := R3.s.at_ k xs hx
            rw [hp] at hp'
            cases hp'
            cases Rep.of_int r3
            obtain ⟨g4, s4⟩ := sr_set (j := j) R3.s hx hp hH rr r1'
            exact ⟨_, vs, i, j, rfl, rfl, hH, by rw [← rr.length]; exact hj, q4 M ρ3 σ _ g4.gr (R3.ge g4 s4)⟩
          · exact q4.elim
        · exact q4.elim
      | _ => exact (show False from q3).elim
/-! built-ins -/
def fLen : FN := fun es G => match es with
  | [.d (.lst xs)] => some (.d (.int xs.length), G)
  | [.d (.tup xs)] => some (.d (.int xs.length), G)
  | [.d (.str x)] => if x.length ≤ strMax then some (.d (.int x.length), G) else none
  | [.o k] => (match (G[k]? : Option GO) with
    | some (GO.lst xs) => some (.d (.int xs.length), G)
    | none => none)
  | _ => none
theorem dcall_len (hK : c.K = X.K) : CallR X (.builtin "len") (VN c fLen) := callr_imp (callr_or call_len_seq call_len) fun vs H Q ⟨M, ρ, G, es, s, r, q⟩ => by
  unfold fLen at q
  split at q
  · cases r with
    | cons r t =>
      cases t
      obtain ⟨p, us, rfl, z, rr⟩ := Rep.of_lst r
      exact .inl ⟨p, us, rfl, .inl (by rw [← hK]; exact z.sq), by rw [← rr.length]; exact q _ ρ H Ge.refl s Rep.int⟩
  · cases r with
    | cons r t =>
      cases t
      obtain ⟨p, us, rfl, z, rr⟩ := Rep.of_tup r
      exact .inl ⟨p, us, rfl, .inr (by rw [← hK]; exact z.sq), by rw [← rr.length]; exact q _ ρ H Ge.refl s Rep.int⟩
  · split at q
    · rename_i x hx
      cases r with
      | cons r t =>
        cases t
        cases Rep.of_str r
        exact .inr ⟨_, x.length, rfl, ⟨Nat.le_trans hx (by decide), rfl⟩, q _ ρ H Ge.refl s Rep.int⟩
    · exact q.elim
  · rename_i k
    split at q
    · rename_i xs hx
      cases r with
      | cons r t =>
        cases t
        obtain ⟨p, hp, rfl⟩ := r
        obtain ⟨p', us, hp', hH, rr⟩ := s.at_ k xs hx
        rw [hp] at hp'
        cases hp'
        exact .inl ⟨p, us, rfl, .inl (SqL.of hH), by rw [← rr.length]; exact q _ ρ H Ge.refl s Rep.int⟩
    · exact q.elim
  · exact q.elim
def gInt : List D → Option D
  | [.int i] => some (.int i)
  | [.bl b] => some (.int (if b then 1 else 0))
  | _ => none
def fInt : FN := pureN gInt
theorem dcall_int : CallR X (.type "int") (VN c fInt) := callr_imp call_int1 fun vs H Q q0 => by
  obtain ⟨M, ρ, G, ds, z, s, r, hz, q⟩ := vn_pure q0
  clear q0
  unfold gInt at hz
  split at hz
  · cases r with
    | cons r t => cases t; cases hz; exact .inl ⟨_, by rw [r.of_int], q _ _ same_refl .int⟩
  · cases r with
    | cons r t => cases t; cases hz; exact .inr ⟨_, by rw [r.of_bl], q _ _ same_refl .int⟩
  · cases hz
def gTuple : List D → Option D
  | [.lst xs] => some (.tup xs)
  | [.tup xs] => some (.tup xs)
  | _ => none
def fTuple : FN := pureN gTuple
theorem dcall_tuple (hK : c.K = X.K) : CallR X (.type "tuple") (VN c fTuple) := callr_imp call_tuple_of fun vs H Q q0 => by
  obtain ⟨M, ρ, G, ds, z, s, r, hz, q⟩ := vn_pure q0
  clear q0
  unfold gTuple at hz
  split at hz
  · cases r with
    | cons r t =>
      cases t
      cases hz
      obtain ⟨p, us, rfl, z, rr⟩ := r.of_lst
      refine ⟨p, us, rfl, .inl ⟨by rw [← hK]; exact z.sq, fun l hl => ?_⟩⟩
      have sm : Same H (upd H l (.tup us)) := same_upd hl
      exact q _ _ sm (Rep.tup (.inl ⟨s.fresh hl, .inl upd_same⟩) (reps_grow rr (Gr.same sm)))
  · cases r with
    | cons r t =>
      cases t
      cases hz
      obtain ⟨p, us, rfl, z, rr⟩ := r.of_tup
      exact ⟨p, us, rfl, .inr ⟨by rw [← hK]; exact z.sq, q _ _ same_refl (Rep.tup z rr)⟩⟩
  · cases hz
def asBs : List D → Option (List Bool)
  | [] => some []
  | .bl b :: r => (asBs r).map (b :: ·)
  | _ :: _ => none
theorem asBs_rep : ∀ {ds : List D} {bs : List Bool} {vs : List V}, asBs ds = some bs → All2 (Rep c M ρ H) ds vs → vs = bs.map V.bl
  | [], _, _, h, .nil => by cases h; rfl
  | d :: ds, bs, v :: vs, h, .cons r t => by
    cases d <;> first | (cases h; done) | skip
    rename_i b
    unfold asBs at h
    cases e : asBs ds with
    | none => rw [e] at h; cases h
    | some cs => rw [e] at h; cases h; rw [r.of_bl, asBs_rep e t]; rfl
def gAll : List D → Option D
  | [.lst xs] => (asBs xs).map fun bs => .bl (bs.all id)
  | _ => none
def fAll : FN := pureN gAll
theorem dcall_all (hK : c.K = X.K) (hc : X.calm = true) : CallR X (.builtin "all") (VN c fAll) := callr_imp (cr_all hc) fun vs H Q q0 => by
  obtain ⟨M, ρ, G, ds, z, s, r, hz, q⟩ := vn_pure q0
  clear q0
  unfold gAll at hz
  split at hz
  · rename_i xs
    cases r with
    | cons r t =>
      cases t
      cases e : asBs xs with
      | none => rw [e] at hz; cases hz
      | some bs =>
        rw [e] at hz
        cases hz
        obtain ⟨p, us, rfl, z, rr⟩ := r.of_lst
        exact ⟨p, bs, rfl, by rw [← hK, ← asBs_rep e rr]; exact z.sq, q _ _ same_refl .bl⟩
  · cases hz
/-! isinstance -/
inductive Tg where
  | ty (n : String) | own (k : String)
  deriving DecidableEq
def Tg.v (C : String → Addr) : Tg → Value
  | .ty n => .type n
  | .own k => .ref (C k)
def tgOf : D → Tg
  | .non => .ty "NoneType"
  | .bl _ => .ty "bool"
  | .int _ => .ty "int"
  | .str _ => .ty "str"
  | .tup _ => .ty "tuple"
  | .lst _ => .ty "list"
  | .ins k _ => .own k
  | .cls _ => .ty "type"
  | .ty _ => .ty "type"
def tgC : D → Option Tg
  | .cls k => some (.own k)
  | .ty n => some (.ty n)
  | _ => none
def ktb : List (Tg × Tg × Bool) → Tg → Tg → Option Bool
  | [], _, _ => none
  | (t, u, b) :: r, t', u' => if t = t' ∧ u = u' then some b else ktb r t' u'
def gIsi (tb : List (Tg × Tg × Bool)) : List D → Option D
  | [x, k] => (tgC k).bind fun u => match x with
    | .cls _ => none
    | .ty _ => none
    | x => (ktb tb (tgOf x) u).map .bl
  | _ => none
def fIsi (tb : List (Tg × Tg × Bool)) : FN := pureN (gIsi tb)
/-- what isinstance wants to know of an own class, and of the model's own word for __class__ -/
structure IsiC (K : PySem.W.Frag) (C : Addr) : Prop where
  cl : Cls K C
  ca : PySem.W.findIn K (.ref C) "__class__" = some (some (.builtin "object.__class__"))
  cm : PySem.W.mroIn K C (.type "object") = some true
structure IsiK (K : PySem.W.Frag) : Prop where
  cn : PySem.W.specialIn K (.builtin "object.__class__") "__get__" = some (some (.builtin "getset_descriptor.__get__"))
  ct : PySem.W.takesIn K (.builtin "object.__class__") = some true
theorem ktb_mem {t u : Tg} {b : Bool} : ∀ {tb : List (Tg × Tg × Bool)}, ktb tb t u = some b → (t, u, b) ∈ tb
  | [], h => by cases h
  | (t', u', b') :: r, h => by
    unfold ktb at h
    split at h
    · rename_i hh; obtain ⟨rfl, rfl⟩ := hh; cases h; exact List.mem_cons_self
    · exact List.mem_cons_of_mem _ (ktb_mem h)
theorem dcall_isi {tb : List (Tg × Tg × Bool)} (hK : c.K = X.K) (hk : IsiK X.K) (h : ∀ t u b, (t, u, b) ∈ tb → PySem.W.kitOne X.K (t.v c.C) (u.v c.C) = some b ∧ ∀ k, t = .own k → IsiC X.K (c.C k)) : CallR X (.builtin "isinstance") (VN c (fIsi tb)) := callr_imp call_isi fun vs H Q q0 => by
  obtain ⟨M, ρ, G, ds, z, s, r, hz, q⟩ := vn_pure q0
  clear q0
  unfold gIsi at hz
  split at hz
  · rename_i x k
    obtain ⟨vx, vk, rfl, r1, r2⟩ := all2_two r
    cases hu : tgC k with
    | none => rw [hu] at hz; cases hz
    | some u =>
      rw [hu] at hz
      dsimp only [Option.bind] at hz
      have cv : ClsV vk (u.v c.C) := by
        cases k <;> first | (cases hu; done) | skip
        · cases hu; rw [r2.of_cls]; exact ClsV.own _
        · cases hu; rw [r2.of_ty]; exact ClsV.ty _
      have main : ∀ t, (ktb tb t u).map DL.D.bl = some z → TyX X.K H vx (t.v c.C) ∨ (∃ k, t = .own k ∧ (IsiC X.K (c.C k) → TyX X.K H vx (t.v c.C))) → rIsi X.K [vx, vk] H Q := fun t ht hty => by
        cases hb : ktb tb t u with
        | none => rw [hb] at ht; cases ht
        | some b =>
          rw [hb] at ht
          cases ht
          obtain ⟨h1, h2⟩ := h t u b (ktb_mem hb)
          refine ⟨vx, vk, t.v c.C, u.v c.C, b, rfl, cv, ?_, h1, q _ _ same_refl .bl⟩
          rcases hty with hty | ⟨k, e, hty⟩
          · exact hty
          · exact hty (h2 k e)
      cases x with
      | non => cases r1.of_non; exact main _ hz (.inl (.base .non))
      | bl b => cases r1.of_bl; exact main _ hz (.inl (.base (.bl b)))
      | int b => cases r1.of_int; exact main _ hz (.inl (.base (.int b)))
      | str b => cases r1.of_str; exact main _ hz (.inl (.base (.str b)))
      | tup b =>
        obtain ⟨p, us, rfl, zz, rr⟩ := r1.of_tup
        refine main _ hz (.inl ?_)
        rcases zz with ⟨_, z1⟩ | (z0 | z0) | ⟨o, its, n, h1, h2, _⟩
        · rcases z1 with z1 | ⟨o, z1⟩
          · exact .base (.tup z1)
          · exact .fTuple z1
        · cases z0
        · rcases z0 with ⟨_, z0⟩; cases z0
        · exact .kTuple (by rw [← hK]; exact h1) h2
      | lst b =>
        obtain ⟨p, us, rfl, zz, rr⟩ := r1.of_lst
        refine main _ hz (.inl ?_)
        rcases zz with ⟨_, z1⟩ | (z0 | z0) | ⟨o, its, n, h1, h2, _⟩
        · rcases z1 with z1 | ⟨o, z1⟩
          · exact .base (.lst z1)
          · exact .base (.frz z1)
        · cases z0
        · rcases z0 with ⟨_, z0⟩; cases z0
        · exact .kList (by rw [← hK]; exact h1) h2
      | ins k fs =>
        obtain ⟨p, dx, gs, rfl, zz, ea, fl⟩ := r1.of_ins
        exact main _ hz (.inr ⟨k, rfl, fun i => .base (.ins ea i.cl i.ca hk.cn hk.ct i.cm)⟩)
      | cls k => cases hz
      | ty k => cases hz
  · cases hz
end
end DL
set_option Elab.async false
set_option linter.all false
set_option maxRecDepth 100000
set_option maxHeartbeats 4000000
namespace DL
open PySem L2 PyProof.Rows StX ClX
section
variable {X : Cx} {c : RC} {M : Addr → Prop} {ρ : List Addr} {H : Hp}
theorem dop_ne (hK : c.K = X.K) (hu : X.A.units + 64 < cLine) : OpR X (compareOp .NotEq) (V2 c fNe) := opr_imp (op_ne.or (op_neD hu)) fun x y H Q q => by
  obtain ⟨M, ρ, G, a, b, z, s, ra, rb, hz, q⟩ := v2_pure q
  cases hk : gEq a b with
  | none => rw [hk] at hz; cases hz
  | some k =>
    rw [hk] at hz
    injection hz with hz
    cases hz
    rcases geq_of hK hk ra rb with ⟨h1, h2⟩ | ⟨d, e, h1, h2, h3, h4, h5⟩
    · exact .inl ⟨h1, by rw [h2]; exact q _ _ same_refl .bl⟩
    · exact .inr ⟨d, e, h1, h2, h3, h4, by rw [h5]; exact q _ _ same_refl .bl⟩
end
/-! ### the end: the law itself -/
def spLaw (K : PySem.W.Frag) : Sp := fun vs H Q _ => ∃ (a : Addr) (ns : List Int), vs = [.ref a] ∧ SqL K H a (ns.map V.int) ∧ ns.length ≤ 63 ∧ ∀ H', Q (.bl true) H'
/-- the script as data -/
def scr (ns : List Int) : EV := .d (.lst (ns.map .int))
theorem ints_rep {c : RC} {M : Addr → Prop} {ρ : List Addr} {H : Hp} : ∀ ns : List Int, All2 (Rep c M ρ H) (ns.map D.int) (ns.map V.int)
  | [] => .nil
  | n :: ns => .cons .int (ints_rep ns)
theorem spd_law {K : PySem.W.Frag} {C : String → Addr} {N : String → List Str} {g : FM} (h : ∀ ns : List Int, ns.length ≤ 63 → ∃ G', g [scr ns] [] = .ok (.d (.bl true)) G') : ∀ vs H Q E, spLaw K vs H Q E → Spd K C N (arN 1) g vs H Q E := fun vs H Q E ⟨a, ns, e, hS, hl, q⟩ => by
  subst e
  obtain ⟨G', hg⟩ := h ns hl
  refine ⟨rfl, fun _ => False, [], [], [scr ns], ⟨rfl, List.nodup_nil, by simp, by simp, fun _ z => z.elim, fun _ z => z.elim⟩, .cons (Rep.lst ?_ (ints_rep ns)) .nil, ?_⟩
  · rcases hS with h1 | h1
    · exact .inl ⟨⟨fun z => z, fun z => z, by simp⟩, h1⟩
    · exact .inr (.inr h1)
  · rw [hg]
    intro v ρ' H' _ _ r
    rw [Rep.of_bl r]
    exact q H'
section
variable {P : Program} {w : World} {K : PySem.W.Frag} {mg : Str → Option Value} {base : Heap} {C : String → Addr} {N : String → List Str}
theorem fno_of {x qual : Str} {st : Stmt} {f : Addr} {fd : FuncData} {Nm ps : List Str} {k : Nat} {m : SM} (F : Fun K x qual st f fd) (S : FnScope Nm ps (defScope st))
    (hb : ∀ (cdv : Value) (A : Around) (outer : List Env) (s : Shared) (H : Hp) (E : XK) (B : Addr → Prop), Room k (A.deeper (envOfC qual (defScope st) s.heap.objs.size f cdv)) →
      DSs (cxOf (L2N.CX P w) P w K mg base Nm qual (defScope st) f cdv A outer s H E) ⟨K, C, N, B, 0, 0⟩ (fun cls d _ H => E cls d H) (defBody st) m) : FnOk P w K mg base (L2N.CX P w) (k + 1) f fd ps (Spd K C N (arN ps.length) (runB Nm.length m)) := by
  have hlN : ps.length ≤ Nm.length := by have := congrArg List.length S.pre; rw [List.length_take] at this; omega
  obtain ⟨oc, od, kV, doc, pm, an, cdv, ct, osl, rfl, lk, hcd⟩ := F.ex
  refine fn_of lk hcd S (fun vs H Q E h => by simpa [arN] using h.1) fun A outer s H vs Q E hr hsp => ?_
  obtain ⟨hl, B, ρ, G, es, s0, r, q⟩ := hsp
  exact ⟨_, hb cdv A outer s H E B hr, nM, ρ, G, _, rl_start s0 r (by rw [show vs.length = ps.length by simpa [arN] using hl]; exact hlN), sq_of q⟩
end
theorem walk {l : PySem.W.OpenLaw} {k : Nat} {x : Str} {q : Program} {loose : List Str} {XP : (Str → Option Value) → Heap → Prop} {YP : World → Heap → Prop} {d : DefRec} {K : Params → PySem.W.Frag} (hn : l.most = some 63) (hdf : d.params.defaults = []) (hr : Room k callerA)
    (hY : ∀ (w : World) (h : Heap), YP w h → (K w.params).In h)
    (F : ∀ (w : World) (mg : Str → Option Value) (fa : Addr) (h : Heap), (K w.params).In h → h.Ns mainGlobals mg → mg d.name = some (.ref fa) →
      ∃ fd : FuncData, (∀ (s : Shared) (u : Value), BindsTo s fd ⟨[u], []⟩ [(x, u)]) ∧ ∀ base : Heap, (K w.params).In base → base.Ns mainGlobals mg → FnOk l.prog w (K w.params) mg base (L2N.CX l.prog w) k fa fd [x] (spLaw (K w.params))) :
    PySem.W.WalkO q loose XP YP l.row.toRowW d [] (fun f vs => PySem.call f vs) :=
  L2.walk_of (n := 63) (k := k) (x := x) (CX := fun w => L2N.CX l.prog w) (sp := fun w => spLaw (K w.params)) hn (by decide) hdf hr hY F (fun _ _ a ns hl _ hS => ⟨a, ns, rfl, hS, hl, fun _ => rfl⟩) fun _ _ _ _ _ ⟨_, _, _, _, _, _, _, _, _, _, _, _, h⟩ => h
/-! ### helpers for printed terms -/
theorem kix_all {K : PySem.W.Frag} {C : String → Addr} {N : String → List Str} {f : Str} : ∀ {ks : List (String × Nat)}, (∀ p ∈ ks, HasF K C N f p.1 p.2) → ∀ k i, kix ks k = some i → HasF K C N f k i
  | [], _, k, i, h => by cases h
  | (k', i') :: r, hh, k, i, h => by
    unfold kix at h
    by_cases e : k' = k
    · subst e; rw [if_pos rfl] at h; cases h; exact hh _ List.mem_cons_self
    · rw [if_neg e] at h; exact kix_all (fun p hp => hh p (List.mem_cons_of_mem _ hp)) k i h
theorem kfn_all {P : Program} {w : World} {K : PySem.W.Frag} {mg : Str → Option Value} {base : Heap} {C : String → Addr} {N : String → List Str} {lv : Nat} {m : Str} : ∀ {ms : List (String × (Ar × FM))}, (∀ p ∈ ms, HasM P w K mg base C N lv m p.1 p.2.1 p.2.2) → ∀ k A g, kfn ms k = some (A, g) → HasM P w K mg base C N lv m k A g
  | [], _, k, A, g, h => by cases h
  | (k', a') :: r, hh, k, A, g, h => by
    unfold kfn at h
    by_cases e : k' = k
    · subst e; rw [if_pos rfl] at h; cases h; exact hh _ List.mem_cons_self
    · rw [if_neg e] at h; exact kfn_all (fun p hp => hh p (List.mem_cons_of_mem _ hp)) k A g h
theorem all_nil {α : Type} {p : α → Prop} : ∀ x ∈ ([] : List α), p x := fun _ h => nomatch h
theorem all_cons {α : Type} {p : α → Prop} {a : α} {l : List α} (h : p a) (t : ∀ x ∈ l, p x) : ∀ x ∈ a :: l, p x := fun x hx => by
  rcases List.mem_cons.mp hx with e | hx
  · rw [e]; exact h
  · exact t x hx
/-- in a comprehension's block nothing is raised -/
theorem takesB {X : Cx} {s : Shared} {H : Hp} {scope : Scope} {cenv : Env} {fp : List Addr} : L2N.Takes (X.blk s H scope cenv fp) W0 := fun u s' ⟨_, _, _, _, _, _, _, _, _, _, _, _, _, _, _, _, z⟩ => z
theorem takesF {X : Cx} {E : XK} (hs : X.stack = X.env :: X.outer) (hf : X.env.frame = some X.env.locals) (hex : X.ex = []) {E₁ : Value → Shared → Prop}
    (hx : X.xe = fun e s' => PySem.wpAny (model X.prog X.w) X.A (leaving X.env e) (fun _ s'' => L2N.CX X.prog X.w X.outer X.H_0 X.s_0 E e s'') E₁ s') : L2N.Takes X (fun cls d _ H => E cls d H) := L2N.takes_of hs hf hex hx
end DL
set_option Elab.async false
set_option linter.all false
set_option maxRecDepth 100000
set_option maxHeartbeats 4000000
namespace DL
open PySem PySem.Calls PySem.Spec L2 PyProof.Rows StX ClX
section
variable {X : Cx} {c : RC} {M : Addr → Prop} {ρ : List Addr} {σ : L2.St} {H : Hp} {G : GS} {lv : Nat} {cl : String} {A : Ar} {g : FM} {f : Addr} {Y : Around}
/-- what the store functions say of an own method's answer: a bool, a whole number, a text -/
def resB (o : Option (EV × GS)) : Option (EV × GS) := match o with
  | some (.d (.bl b), G) => some (.d (.bl b), G)
  | _ => none
theorem vq_B {o : Option (EV × GS)} {Q : VK} (h : VQ c M ρ H (resB o) Q) : VQ c M ρ H o (fun v H' => (∃ b, v = .bl b) ∧ Q v H') := by
  unfold resB at h
  split at h
  · rename_i b G'
    intro v ρ' H' ge s r
    exact ⟨⟨b, Rep.of_bl r⟩, h v ρ' H' ge s r⟩
  · exact h.elim
/-- the type of what data stands for -/
def noC : DL.D → Bool
  | .cls _ => false
  | .ty _ => false
  | _ => true
theorem tyl_of {pins : List (Addr × Obj)} {s : Shared} {b : DL.D} {y : V} {u : Value} (hK : c.K = X.K) (I : Inv X pins σ H s) (rb : Rep c M ρ H b y) (ry : RelV y u) (hb : noC b = true) : PySem.W.Looks (model X.prog X.w) s.heap (typeOf u) ((tgOf b).v c.C) := by
  have key : ∀ {t : Value}, TyX X.K H y t → PySem.W.Looks (model X.prog X.w) s.heap (typeOf u) t := fun ty => by
    obtain ⟨P, Z, p, _⟩ := kit_of I ry ty
    exact Z.ty _ _ I.kIn p
  cases b with
  | non => cases rb.of_non; exact key (.base .non)
  | bl b => cases rb.of_bl; exact key (.base (.bl b))
  | int b => cases rb.of_int; exact key (.base (.int b))
  | str b => cases rb.of_str; exact key (.base (.str b))
  | tup b =>
    obtain ⟨p, us, rfl, zz, rr⟩ := rb.of_tup
    rcases zz with ⟨_, z1⟩ | (z0 | z0) | ⟨o, its, n, h1, h2, _⟩
    · rcases z1 with z1 | ⟨o, z1⟩
      · exact key (.base (.tup z1))
      · exact key (.fTuple z1)
    · cases z0
    · rcases z0 with ⟨_, z0⟩; cases z0
    · exact key (.kTuple (by rw [← hK]; exact h1) h2)
  | lst b =>
    obtain ⟨p, us, rfl, zz, rr⟩ := rb.of_lst
    rcases zz with ⟨_, z1⟩ | (z0 | z0) | ⟨o, its, n, h1, h2, _⟩
    · rcases z1 with z1 | ⟨o, z1⟩
      · exact key (.base (.lst z1))
      · exact key (.base (.frz z1))
    · cases z0
    · rcases z0 with ⟨_, z0⟩; cases z0
    · exact key (.kList (by rw [← hK]; exact h1) h2)
  | ins k fs =>
    obtain ⟨p, dx, gs, rfl, zz, ea, fl⟩ := rb.of_ins
    cases (show u = Value.ref p from ry)
    obtain ⟨ox, od, J⟩ := inst_at I ea
    exact J.type
  | cls k => cases hb
  | ty k => cases hb
/-- x == y, x of an own class with its own __eq__; nt: what y may be -/
def fEqO (nt : List Tg) (cl : String) (A : Ar) (g : FM) : F2 := fun x y G => match x, y with
  | .d (.ins k fs), .d b => if k = cl ∧ A 2 = true ∧ noC b = true ∧ tgOf b ∈ nt then resB (toOpt (g [.d (.ins k fs), .d b] G)) else none
  | _, _ => none
theorem dop_eqO {nt : List Tg} (hK : c.K = X.K) (hr : Room lv X.A) (hn : ∀ t ∈ nt, PySem.W.notFirst X.K (c.C cl) (t.v c.C) = true) (hs : PySem.W.findIn X.K (.ref (c.C cl)) "__eq__" = some (some (.ref f))) (hf : PySem.W.isFn X.K (.ref f) = true)
    (F : FnG X.prog X.w X.K X.mg X.base c.C c.N lv f A g) : OpR X (compareOp .Eq) (V2 c (fEqO nt cl A g)) := by
  intro pins s σ H x y v u Q I rx ry ⟨M, ρ, G, a, b, sr, ra, rb, q⟩
  unfold fEqO at q
  split at q
  · rename_i k fs b'
    split at q
    · rename_i hk
      obtain ⟨rfl, hA, hc, ht⟩ := hk
      have sp := spd_opt (A := A) (g := g) (es := [.d (.ins k fs), .d b']) sr (.cons ra (.cons rb .nil)) hA (vq_B q)
      obtain ⟨p, dx, gs, rfl, z, ea, fl⟩ := Rep.of_ins ra
      cases (show v = Value.ref p from rx)
      obtain ⟨ox, od, J⟩ := inst_at I ea
      obtain ⟨m, hF⟩ := I.fr
      show wpAny (model X.prog X.w) X.A (richCompare .Eq (.ref p) u) (EP X pins σ Q) X.xe s
      refine PySem.W.cmp_K (op := .Eq) hr.units0 hF I.ok.mod.kin J (tyl_of hK I rb ry hc) (hn _ ht) hs hf ?_
      rw [hK] at sp
      refine wpAny_mono (wpAny_call (run_fnA (us := [.ref p, u]) (vs := [.ref p, y]) F hr pass0' I (.cons rfl (.cons ry .nil)) sp)) (fun w s' hw => ?_) fun _ _ x => x
      obtain ⟨z', H', I', rz, ⟨b, e⟩, qz⟩ := hw
      subst e
      cases rz
      exact ⟨.bl b, H', I', rfl, qz⟩
    · exact q.elim
  · exact q.elim
end
end DL
set_option Elab.async false
set_option linter.all false
set_option maxRecDepth 100000
set_option maxHeartbeats 4000000
namespace DL
open PySem PySem.Spec L2 PyProof.Rows StX ClX
section
variable {X : Cx} {c : RC} {W : WX} {M : Addr → Prop} {ρ : List Addr} {σ : L2.St} {H : Hp} {G : GS} {e o : Expr} {mo me : EM} {pos apos : Pos} {lv : Nat} {cl : String} {A : Ar} {g : FM} {f : Addr}
/-! ### texts -/
/-- {x} -/
def fFmt : F1 := pure1 fun
  | .str y => if y.length ≤ 1000000 then some (.str y) else none
  | .int i => if i.natAbs.log2 < 1920 then some (.str (toString i)) else none
  | _ => none
theorem de_fmt (he : DE X c W e me) : DE X c W (.FormattedValue e (-1) none pos) (eUn fFmt me) := by
  refine pe_imp (pe_fmt he) fun σ H Q q => ?_
  obtain ⟨M, ρ, G, env, R, q⟩ := q
  refine ⟨M, ρ, G, env, R, (TQ.bind (R := RE c) q).imp fun v H1 ⟨ρ1, G1, e1, g1, s1, r1, q1⟩ => ?_⟩
  cases e1 with
  | o i => exact q1.elim
  | d x =>
    cases x with
    | str y =>
      have q2 : TQ (RE c) c W M ρ1 σ H1 (lift ((if y.length ≤ 1000000 then some (DL.D.str y) else none).map fun z => (EV.d z, G1))) Q := q1
      split at q2
      · rename_i hl
        exact .inl ⟨y, Rep.of_str r1, Nat.le_trans hl (by decide), TQ.ok q2 s1 Rep.str⟩
      · exact q2.elim
    | int i =>
      have q2 : TQ (RE c) c W M ρ1 σ H1 (lift ((if i.natAbs.log2 < 1920 then some (DL.D.str (toString i)) else none).map fun z => (EV.d z, G1))) Q := q1
      split at q2
      · rename_i hl
        exact .inr ⟨i, Rep.of_int r1, hl, TQ.ok q2 s1 Rep.str⟩
      · exact q2.elim
    | _ => exact q1.elim
/-! f-strings of two parts or more -/
def jsO : List EM → Str → En → GS → Out Str
  | [], acc, _, G => .ok acc G
  | m :: ms, acc, env, G => (m env G).bind fun x G1 => match x with
    | .d (.str y) => if (acc ++ y).length ≤ 1000000 then jsO ms (acc ++ y) env G1 else .st
    | _ => .st
def eJs (ms : List EM) : EM := fun env G => (jsO ms Str.empty env G).bind fun z G1 => .ok (.d (.str z)) G1
theorem js_run {env : En} : ∀ (ms : List EM) (acc : Str) (M : Addr → Prop) (ρ : List Addr) (G : GS) (H : Hp) (Q : Str → Hp → Prop), Rl c M ρ G env σ H →
    TQ (fun M ρ H (e : Str) (v : Str) => e = v) c W M ρ σ H (jsO ms acc env G) Q → tJs (ms.map (tD c W)) acc σ H Q
  | [], acc, M, ρ, G, H, Q, R, q => q acc ρ H Ge.refl R.s rfl
  | m :: ms, acc, M, ρ, G, H, Q, R, q => by
    refine ⟨M, ρ, G, env, R, (TQ.bind (R := RE c) q).imp fun v H1 ⟨ρ1, G1, e1, g1, s1, r1, q1⟩ => ?_⟩
    split at q1
    · rename_i y
      split at q1
      · rename_i hl
        exact ⟨y, Rep.of_str r1, Nat.le_trans hl (by decide), js_run ms (acc ++ y) M ρ1 G1 H1 Q (R.ge g1 s1) q1⟩
      · exact q1.elim
    · exact q1.elim
theorem de_js {v1 v2 : Expr} {rest : List Expr} {ms : List EM} (h : PJ X (v1 :: v2 :: rest) (ms.map (tD c W))) : DE X c W (.JoinedStr (v1 :: v2 :: rest) pos) (eJs ms) := by
  refine pe_imp (pe_joined h) fun σ H Q q => ?_
  obtain ⟨M, ρ, G, env, R, q⟩ := q
  refine js_run ms Str.empty M ρ G H _ R ?_
  have q' : TQ (RE c) c W M ρ σ H ((jsO ms Str.empty env G).bind fun z G1 => .ok (.d (.str z)) G1) Q := q
  cases hj : jsO ms Str.empty env G with
  | ok z G1 => rw [hj] at q'; exact fun v ρ' H' g s e => by subst e; exact q' _ ρ' H' g s Rep.str
  | er cl fs G1 => rw [hj] at q'; exact q'
  | st => rw [hj] at q'; exact q'
/-! str, repr -/
/-! in of whole numbers; is of bools -/
def fIsNotB : F2 := pure2 fun
  | .bl a, .bl b => some (.bl (!decide (a = b)))
  | _, _ => none
theorem dop_isnotB : OpR X (compareOp .IsNot) (V2 c fIsNotB) := opr_imp op_isnot_bl fun x y H Q q => by
  obtain ⟨M, ρ, G, a, b, z, s, ra, rb, hz, q⟩ := v2_pure q
  split at hz
  · rename_i a b
    cases hz
    exact ⟨a, b, ra.of_bl, rb.of_bl, q _ _ same_refl .bl⟩
  · cases hz
end
end DL
set_option Elab.async false
set_option linter.all false
set_option maxRecDepth 100000
set_option maxHeartbeats 4000000
/-! super().__init__(..) of an own error over the hand layer. -/
namespace SX
open PySem PySem.Spec PyProof.Rows L2 PySem.W NdefX
/-- the bound __init__ of the error at x -/
abbrev mw (x : Addr) : Obj := kxs_mw "ValueError.__init__" x
section
variable {P : Program} {w : World} {A : Around} {E : Value → Shared → Prop} {s : Shared}
variable {nm q : Str} {C Nn : Addr} {bs bm : List Value} {hdct : Bool} {sn : List Str} {sub : List Value} {ab : Bool} {col : Option Bool} {dd : Option Addr} {k0 k1 k2 k3 k5 : Option Value}
theorem mw_call {b x t0 : Addr} {rs : List Value} {Q : Value → Shared → Prop} (hC : s.heap.get? C = some (excClassObj nm q C Nn bs bm hdct sn sub ab col dd k0 k1 k2 k3 k5 "ValueError.__new__")) (hx : s.heap.get? x = some (PySem.HandSPX.excO C t0)) (hb : s.heap.get? b = some (mw x))
    (hl : rs.length ≤ sizeLine) (hq : ∀ h' t1, (∀ y o, y ≠ x → s.heap.get? y = some o → h'.get? y = some o) → h'.get? x = some (PySem.HandSPX.excO C t1) → Q .none { s with heap := h' }) : wpAny (model P w) A (call (.ref b) rs) Q E s := by
  obtain ⟨h, g, d, t, os⟩ := s
  refine wpAny_call (codeAny_of_tree ?_)
  show wpAny _ A.in1 (callAny (.ref b) ⟨rs, []⟩) _ _ _
  simp only [callAny]
  refine wpAny_bind (wpAny_load hb ?_)
  have e1 : (Value.type "method-wrapper" == Value.type "method" || Value.type "method-wrapper" == Value.type "builtin_function_or_method" || Value.type "method-wrapper" == Value.type "method-wrapper") = true := by decide
  simp only [mw, kxs_mw, e1, if_true]
  refine KFB.if_so (by decide) ?_
  refine wpAny_bind (check_bound_init PySem.F.excBase_ValueError.toExcCallFacts hC hx rfl ?_)
  refine wpAny_bind (wpAny_pure (wpAny_pure ?_))
  refine ⟨plainId_quiet PySem.F.excBase_ValueError.init.plain _, codeAny_builtin PySem.F.excBase_ValueError.initEntry ?_⟩
  exact exc_init_tree (cls := .ref C) (t0 := t0) (dv := none) (c2 := .none) (c3 := .none) (b4 := .bool false) hx hl fun h' k e' _ => hq h' _ k e'
end
/-- what the text says of a method f of the class at D that says super() -/
structure SupF (P : Program) (K : PySem.W.Frag) (G : NF) (f cc D : Addr) (sf : Str) : Prop where
  cl : G.cl = [(("__class__" : Str), cc)]
  fn : ∃ oc od fd osl ar, K.lookup f = some ⟨oc, od, .func fd, osl⟩ ∧ (fd.params.posonlyargs ++ fd.params.args).head? = some ar ∧ ar.arg = sf
  code : ∃ c1 d1 vs s1 file tf, K.lookup G.c = some ⟨c1, d1, .fields vs, s1⟩ ∧ vs[2]? = some (.str file tf) ∧ ((P.main.file : Str) == file) = true
  cell : ∃ c1 d1 s1, K.lookup cc = some ⟨c1, d1, .cell (some (.ref D)), s1⟩
  clsD : ∃ cd, clsIn K D = some cd
  sup : nsIn K mainGlobals "super" = some none
  ks : G.scope.names.lookup ("super" : Str) = some .globalImplicit
  kc : G.scope.names.lookup ("__class__" : Str) = some .free
  ka : G.scope.names.lookup sf = some .local
  kk : G.scope.kind = .function
  top : (P.main.scope.names.lookup ("super" : Str)).isSome = false
section
variable {CX : CXT} {P : Program} {w : World} {K : PySem.W.Frag} {mg : Str → Option Value} {base : Heap} {N : List Str} {G : NF} {f cc D C a : Addr} {A : Around} {outer : List Env} {s0 s : Shared} {H0 H : Hp} {E : XK} {sf : Str} {pins : List (Addr × Obj)} {σ : L2.St}
/-- super() where an attribute of it is asked: a record for the object at a -/
theorem sup_base {body : List Stmt} {p0 p1 : Pos} {attr : Str} {whole : Sem Value} {ox : Obj} {Q : Value → Shared → Prop} {EE : Value → Shared → Prop} (S : SupF P K G f cc D sf) (I : Inv (ncx CX P w K mg base N G f A outer s0 H0 E) pins σ H s)
    (h0 : N[0]? = some sf) (hs : σ[0]? = some (some (.ref a))) (ha : s.heap.get? a = some ox) (hcl : ox.cls = .ref C) (hnc : ∀ z, ox.data ≠ .cls z) (hsub : mroIn K C (.ref D) = some true) (hat : (attr == ("__class__" : Str)) = false) (hm : mg "super" = none)
    (h : ∀ so s', Inv (ncx CX P w K mg base N G f A outer s0 H0 E) ((so, ks_superObj D a C) :: pins) σ H s' → Q (.ref so) s') :
    _root_.PySem.wpAt (model P w) (A.deeper (envF G f s0.heap.objs.size)) (.func body (envF G f s0.heap.objs.size)) (attributeBase (.Call (.Name "super" p0) [] [] p1) attr (envF G f s0.heap.objs.size) whole) Q EE s := by
  obtain ⟨oc, od, fd, osl, ar, hf, hp, har⟩ := S.fn
  obtain ⟨c1, d1, vs, s1, file, tf, hcode, hvs, hfile⟩ := S.code
  obtain ⟨c2, d2, s2, hcell⟩ := S.cell
  obtain ⟨cd, hD⟩ := S.clsD
  have kin : K.In s.heap := I.kIn
  obtain ⟨oD, hD1, hD2⟩ : ∃ oD, s.heap.get? D = some oD ∧ oD.data = .cls cd := by
    unfold clsIn at hD
    split at hD
    · rename_i e1 e2 e3 e4 ho
      cases hD
      exact ⟨_, kin _ _ ho, rfl⟩
    · cases hD
  obtain ⟨m, hn, hl⟩ := I.loc
  obtain ⟨u, r, l⟩ := hl 0 sf _ h0 hs (.inl S.ka)
  obtain rfl : u = Value.ref a := r
  have hlook : m sf = some (.ref a) := by
    rcases l with ⟨_, z⟩ | ⟨z, _⟩
    · exact z
    · have z' : G.scope.names.lookup sf = some .cell ∨ G.scope.names.lookup sf = some .free := z
      rw [S.ka] at z'
      rcases z' with z' | z' <;> cases z'
  obtain ⟨mb, hb1, hb2⟩ := I.mod.blt
  have kf : (envF G f s0.heap.objs.size).scope.kind = .function := S.kk
  refine ks_wpAt_super_base (env := envF G f s0.heap.objs.size) S.ks S.kc hat rfl (kin _ _ hf) rfl hp rfl (kin _ _ hcode) rfl hvs hfile S.top ?_
  refine ks_loadName_global kf S.ks (Calls.loadGlobal_builtin (env := envF G f s0.heap.objs.size) (I.mod.glob.keeps I.bk) hm (hb1.keeps I.bk) ((hb2 _ (by decide)).trans (show bootBuiltins "super" = some (.type "super") from ?_)) ⟨rfl, ?_⟩)
  · exact PyProof.Rows.Boot.«super»
  refine wpAny_loadName_free kf S.kc (c := cc) (by show G.cl.lookup _ = _; rw [S.cl]; rfl) ⟨_, kin _ _ hcell, rfl⟩ ?_
  rw [har]
  refine wpAny_loadName_local kf S.ka hn hlook ?_
  refine ks_wpAny_isType_cls (h := s.heap) (g := s.gens) hD1 hD2 ⟨rfl, ?_⟩
  refine ks_wpAny_call_super (h := s.heap) hD1 hD2 ha hcl hnc (looks_mroIn kin hsub) fun h' e k => ?_
  exact h _ _ (ClX.pin_new I k (Nat.le_refl _) e fun v z => nomatch z)
/-- super().__init__(e, ..) of an own error: nothing of it is told -/
theorem sup_init {body : List Stmt} {p0 p1 ap pos : Pos} {e : Expr} {es : List Expr} {t : TA} {Q : Value → Shared → Prop} (S : SupF P K G f cc D sf) (I : Inv (ncx CX P w K mg base N G f A outer s0 H0 E) pins σ H s)
    (h0 : N[0]? = some sf) (hs : σ[0]? = some (some (.ref a))) (T : OexC K C) (ea : H a = some (exo a C none)) (hsub : mroIn K C (.ref D) = some true) (hst : nsIn K cStatics "thirdparty.any" = some none) (hsi : ks_superIn K C D "__init__" = some (some (.builtin "ValueError.__init__"))) (hm : mg "super" = none)
    (ha : PA (ncx CX P w K mg base N G f A outer s0 H0 E) (e :: es) t)
    (ht : t σ H fun vs H1 => vs.length ≤ 1000 ∧ H1 a = some (exo a C none) ∧ ∀ s', Inv (ncx CX P w K mg base N G f A outer s0 H0 E) pins σ H1 s' → Q .none s')
    (he : starEach (e :: es) (envF G f s0.heap.objs.size) = (false, eval e (envF G f s0.heap.objs.size)) :: starEach es (envF G f s0.heap.objs.size) := by rfl) (hpl : (backTo pos (starEach es (envF G f s0.heap.objs.size))).any (·.1) = false := by rfl) {pl : Sem Bool}
    (hev : eval (.Call (.Attribute (.Call (.Name "super" p0) [] [] p1) "__init__" ap) (e :: es) [] pos) (envF G f s0.heap.objs.size) = (do
      let ov ← attributeBase (.Call (.Name "super" p0) [] [] p1) "__init__" (envF G f s0.heap.objs.size) (eval (.Call (.Name "super" p0) [] [] p1) (envF G f s0.heap.objs.size))
      standAt ap.atName
      let (f', first) ← holding [ov] (getMethod ov "__init__" pl)
      callWith pos f' first (backTo pos (starEach (e :: es) (envF G f s0.heap.objs.size))) []) := by rfl) :
    _root_.PySem.wpAt (model P w) (A.deeper (envF G f s0.heap.objs.size)) (.func body (envF G f s0.heap.objs.size)) (eval (.Call (.Attribute (.Call (.Name "super" p0) [] [] p1) "__init__" ap) (e :: es) [] pos) (envF G f s0.heap.objs.size)) Q
      (ncx CX P w K mg base N G f A outer s0 H0 E).xe s := by
  obtain ⟨nm, q, Nn, bs, bm, sn, sub, ab, col, dd, k0, k1, k2, k3, k5, hC, hbm⟩ := T.cls
  obtain ⟨t1, ho⟩ := exo_at I.hok ea
  refine ks_wpAt_MethodCall (sup_base S I h0 hs ho rfl (fun z y => nomatch y) hsub (by decide) hm fun so s1 I1 => ?_) hev
  have kin : K.In s1.heap := I1.kIn
  obtain ⟨t2, ho1⟩ := exo_at I1.hok ea
  have hcl : clsIn K C = some { name := nm, bases := bs, mro := .ref C :: bm, ns := Nn, qualname := q, hasDict := true, slotNames := sn, subclasses := sub, abstract := ab, collection := col, hasDel := false } := by unfold clsIn; rw [hC] <;> rfl
  have hve : mroIn K C (.type "ValueError") = some true := by
    have hr : PySem.HandSPX.refsVE (.ref C :: bm) = true := hbm
    unfold mroIn
    rw [hcl, Option.bind_some, if_neg (show ¬ (List.isEmpty (Value.ref C :: bm) = true) from Bool.false_ne_true), PySem.HandSPX.refsVE_contains "ValueError" _ hr]
    decide +kernel
  have IA : InstAt s1.heap a { cls := .ref C, dict := none, data := .fields #[.ref t2, .none, .none, .none, .bool false, .none] } C none := ⟨ho1, rfl, rfl, trivial⟩
  have hne : a ≠ C := ks_ne kin IA hcl
  have hso : s1.heap.get? so = some (ks_superObj D a C) := ClX.pin_at I1
  unfold ks_superIn at hsi
  rw [hcl] at hsi
  have hsi' : alongIn K "__init__" (((Value.ref C :: bm).dropWhile (· != .ref D)).drop 1) = some (some (.builtin "ValueError.__init__")) := hsi
  obtain ⟨hh, g, d, tk, os⟩ := s1
  refine kxs_getMethod kxs_ValueError hso (looks_opaque kin hst) (l₀ := .ref C :: bm) ?_ rfl kin hsi' (IA.type.andThen (looks_mroIn kin hve)) hne (by decide) ?_
  · exact fun A Q E s k q => wpAny_bind ((looks_clsIn kin hcl) A _ E s k (wpAny_pure q))
  have I2 : Inv (ncx CX P w K mg base N G f A outer s0 H0 E) ((hh.objs.size, mw a) :: (so, ks_superObj D a C) :: pins) σ H ⟨hh.push (mw a), g, d, tk + 1, os⟩ :=
    ClX.pin_new (s := ⟨hh, g, d, tk, os⟩) I1 (fun _ _ z => Heap.get?_push_of_some _ z) (Nat.le_refl _) (Heap.get?_push_size hh rfl) (fun v z => nomatch z)
  show wpAny _ _ (callWith pos (.ref hh.objs.size) [] _ []) _ _ _
  rw [he]
  refine kxs_callWith (i := "ValueError.__init__") (x := a) (by show (false || (backTo pos (starEach es (envF G f s0.heap.objs.size))).any (·.1)) = false; rw [hpl]; rfl) (Calls.evalArgs_plain ?_)
  have hrun := ha.run pos _ _ σ H _ I2 ht
  have he' : starEach (e :: es) (ncx CX P w K mg base N G f A outer s0 H0 E).env = (false, eval e (envF G f s0.heap.objs.size)) :: starEach es (envF G f s0.heap.objs.size) := he
  rw [he'] at hrun
  refine thn hrun fun us s2 ⟨vs, H1, I3, r, hl, ea1, k⟩ => ⟨ClX.pin_at I3, ?_⟩
  obtain ⟨t3, ho3⟩ := exo_at I3.hok ea1
  obtain ⟨h2, g2, d2, tk2, os2⟩ := s2
  refine mw_call (s := ⟨h2, g2, d2, tk2, os2⟩) (I3.kIn _ _ hC) ho3 (ClX.pin_at I3) (by show us.length ≤ sizeLine; rw [← r.length, sizeLine_eq]; omega) fun h' t4 kk hx => ?_
  have J := I3.write (t' := tk2) (x := a) (e := a) (o := exo a C none) (by rw [ea1]; exact True.intro) (.inl rfl) kk ⟨_, hx⟩ (exo_ok hx)
  have eu : upd H1 a (exo a C none) = H1 := by
    funext b
    by_cases hb : b = a
    · rw [hb, upd_same, ea1]
    · rw [upd_ne hb]
  rw [eu] at J
  exact k _ (ClX.unpin (ClX.unpin J))
end
end SX
set_option Elab.async false
set_option linter.all false
set_option maxRecDepth 100000
set_option maxHeartbeats 4000000
/-! An own error over ValueError by its __init__, raised where nothing is handled. -/
namespace SX
open PySem PySem.Spec PyProof.Rows L2 PySem.W NdefX
section
variable {CX : CXT} {P : Program} {w : World} {K : PySem.W.Frag} {mg : Str → Option Value} {base : Heap} {N ps : List Str} {G : NF} {f cc D : Addr} {k : Nat} {sf : Str} {dV kV doc pm ctv oc : Value} {od an : Option Addr} {osl : Array (Option Value)} {sp : Sp}
/-- a method that says super(), by its body; the body runs where its own frame is known -/
theorem fn_sup (S : SupF P K G f cc D sf) (lk : K.lookup f = some ⟨oc, od, .func (fnX G.name G.qual G.params G.body G.scope G.cl dV kV doc pm an (.ref G.c) ctv), osl⟩) (hcd : codeIn K (.ref G.c) G.qual = true) (Sc : NScope N ps [("__class__" : Str)] G.scope) (len : ∀ vs H Q E, sp vs H Q E → vs.length = ps.length)
    (hb : ∀ (A : Around) (outer : List Env) (s : Shared) (H : Hp) (vs : List V) (Q : VK) (E : XK), Room k (A.deeper (envF G f s.heap.objs.size)) → sp vs H Q E → ∀ s1, Inv (ncx CX P w K mg base N G f A outer s H E) [] (startF N vs [none]) H s1 →
      _root_.PySem.wpAt (model P w) (A.deeper (envF G f s.heap.objs.size)) (.func G.body (envF G f s.heap.objs.size)) (execs G.body (envF G f s.heap.objs.size)) (SP (ncx CX P w K mg base N G f A outer s H E) [] { nx := fun _ H' => Q .non H', rt := Q }) (ncx CX P w K mg base N G f A outer s H E).xe s1) :
    FnOk P w K mg base CX (k + 1) f (fnX G.name G.qual G.params G.body G.scope G.cl dV kV doc pm an (.ref G.c) ctv) ps sp := by
  refine ⟨len, fun A outer s H args us vs Q E hr e0 hbd r hsp => ?_⟩
  have hl := len _ _ _ _ hsp
  have kin : K.In s.heap := e0.mod.kin.keeps fun b o e => (e0.bs b o e).1
  have lim : s.heap.NoLimit := e0.mod.nolimit.keeps fun b o e => (e0.bs b o e).1
  refine codeAny_call_function hr.depth (kin _ _ lk) rfl Sc.co Sc.gen rfl (codeRec_of kin hcd) (hbd _ _ _ _ ?_)
  refine wpAny_newFunctionEnv Sc.nocell (fun ⟨n, _⟩ hy => Sc.par n (List.of_mem_zip hy).1) (fun h₁ hns hsb => ⟨lim.fresh _ hsb, ?_⟩) Sc.kind
  show codeAny _ _ (.func G.body (envF G f s.heap.objs.size)) _ _
  have kp : ∀ b o, s.heap.get? b = some o → h₁.get? b = some o := fun b o e => hsb.extBut b o (Nat.ne_of_lt (Heap.lt_size e)) (Heap.get?_push_of_some _ e)
  obtain ⟨c1, d1, s1, hcell⟩ := S.cell
  have C : CellsAt G.cl [("__class__" : Str)] [none] s.heap H := by
    have key : ∀ y c, G.cl.lookup y = some c → y = "__class__" ∧ c = cc := fun y c e => by
      rw [S.cl] at e
      by_cases h : y = "__class__"
      · subst h
        have e' : some cc = some c := e
        exact ⟨rfl, (Option.some.inj e').symm⟩
      · have h' : (y == ("__class__" : Str)) = false := by simpa using h
        simp [List.lookup, h'] at e
    have hbase := e0.mod.kin _ _ hcell
    refine ⟨rfl, fun y c e => ?_, fun x y c e1 e2 => ?_, fun i y e => ?_⟩
    · obtain ⟨_, rfl⟩ := key y c e
      exact ⟨(e0.bs _ _ hbase).2, _, _, (e0.bs _ _ hbase).1, rfl⟩
    · exact (key x c e1).1.trans (key y c e2).1.symm
    · have hi : i = 0 := by
        have := (List.getElem?_eq_some_iff.mp e).1
        simpa using this
      subst hi
      have hy : y = "__class__" := by simpa using e.symm
      subst hy
      exact ⟨cc, by rw [S.cl]; rfl, fun v z => by cases z⟩
  have I := inv_startN (CX := CX) (f := f) (E := E) (tk := s.toks + (ps.zip us).length) Sc hr.hd e0 hl r C hns kp
  refine ks_codeAny_funcAt (ks_wpAt_mono (hb A outer s H vs Q E (hr.deeper _) hsp _ I) (fun fl s' hs => ?_) fun e s' hs => hs)
  have fin : ∀ {σ' : L2.St} {H' : Hp} {v : V} {u : Value}, Inv (ncx CX P w K mg base N G f A outer s H E) [] σ' H' s' → RelV v u → Q v H' → CE outer P w H s Q u s' :=
    fun {σ' H' v u} J rv q => ⟨v, H', J.os, J.bare, J.base, J.hok, rv, q⟩
  cases fl with
  | ret u =>
    obtain ⟨v, σ', H', J, rv, q⟩ := hs
    exact fin J rv q
  | next =>
    obtain ⟨σ', H', J, q⟩ := hs
    exact fin (v := V.non) (u := Value.none) J rfl q
  | brk =>
    obtain ⟨_, _, _, q⟩ := hs
    exact False.elim q
  | cont =>
    obtain ⟨_, _, _, q⟩ := hs
    exact False.elim q
end
section
variable {X : Cx} {e : Expr} {es : List Expr} {ta : TA} {p pos : Pos}
/-- C(e, ..) where the exception has no context -/
theorem pmkN_oex {CX : CXT} {x : Str} {C fI : Addr} {k : Nat} {fd : FuncData} {ps : List Str} {sp : Sp} (T : OexC X.K C) (iC : findIn X.K (.ref C) "__init__" = some (some (.ref fI))) (tI : typeIn X.K (.ref fI) = some (.type "function")) (Fi : FnOk X.prog X.w X.K X.mg X.base CX k fI fd ps sp) (hr : Room (k + 1) X.A)
    (hb : Binds X.K fd ps []) (hx : Passes CX X (fun _ _ _ => False)) (hg : Gl X x) (hm : X.mg x = some (.ref C)) (ha : PA X (e :: es) ta) (hdb : (x == ("__debug__" : Str)) = false := by decide)
    (he : starEach (e :: es) X.env = (false, eval e X.env) :: starEach es X.env := by rfl) (hpl : (backTo pos (starEach es X.env)).any (·.1) = false := by rfl) : L2N.PMk X (.Call (.Name x p) (e :: es) [] pos) (tMkO C sp [] ta) := by
  intro pins s σ H Q I h
  obtain ⟨nm, q, Nn, bs, bm, sn, sub, ab, col, dd, k0, k1, k2, k3, k5, hC, hbm⟩ := T.cls
  refine wpAny_Call_Name_kw (ld_glob I hg hm ?_ hdb)
  refine callWith_K (h₀ := X.base) I.ok.mod.kin T.kC (thn (ha.run pos pins s σ H _ I h) fun us s1 ⟨vs, H1, I1, r1, hz, q1⟩ => ⟨I1.kIn, ?_⟩) he hpl
  show wpAny _ _ (call (.ref C) us) _ _ _
  obtain ⟨hp, g, dr, tk, os⟩ := s1
  have hsz : hp.objs.size ≤ hp.objs.size + 1 := Nat.le_succ _
  have hq := q1 (hp.objs.size + 1) (I1.hok.fresh hsz)
  rw [List.append_nil] at hq
  have kk : ∀ b o, hp.get? b = some o → ((hp.push (kdv_tup us)).push (PySem.HandSPX.excO C hp.objs.size)).get? b = some o := fun b o z => Heap.get?_push_of_some _ (Heap.get?_push_of_some _ z)
  have hget : ((hp.push (kdv_tup us)).push (PySem.HandSPX.excO C hp.objs.size)).get? (hp.objs.size + 1) = some (PySem.HandSPX.excO C hp.objs.size) := by heap_get
  have I2 := I1.laid (t' := tk) (a := hp.objs.size + 1) (o := exo (hp.objs.size + 1) C none) (h' := (hp.push (kdv_tup us)).push (PySem.HandSPX.excO C hp.objs.size)) kk hsz (exo_ok hget)
  have r2 : Vals (V.ref (hp.objs.size + 1) :: vs) (Value.ref (hp.objs.size + 1) :: us) := .cons rfl r1
  have hl : (Value.ref (hp.objs.size + 1) :: us).length = ps.length := r2.length.symm.trans (Fi.len _ _ _ _ hq)
  have bd := hb _ (Value.ref (hp.objs.size + 1) :: us) I2.kIn (by rw [List.append_nil]; exact hl)
  rw [List.append_nil] at bd
  refine wpAny_call (PySem.HandSPX.call_own PySem.F.excBase_ValueError (fun Y => PySem.HandSPX.refsVE_contains Y bm hbm) (I1.kIn _ _ hC) (looks_findIn I1.kIn iC) (fun sf => bind_fn I1.kIn sf tI) (by rw [← Paired.length r1, sizeLine_eq]; omega)
    (codeAny_mono (Fi.run _ X.stack _ _ ⟨Value.ref (hp.objs.size + 1) :: us, []⟩ _ _ _ (fun _ _ _ => False) (hr.make C us []) (I2.env0.make C us []) bd r2 hq) fun rs s' hq' => ?_))
  match rs, hq' with
  | .error er, z => exact hx pins σ _ _ er s' I2 z
  | .ok .next, z => exact z.elim
  | .ok .brk, z => exact z.elim
  | .ok .cont, z => exact z.elim
  | .ok (.ret u), ⟨v, H2, os2, bare2, un2, hok2, rv, ev, d, fs, ea, ed, hd1, q2⟩ =>
    subst ev
    obtain ⟨h2, g2, d2, t2, os'⟩ := s'
    obtain ⟨t0, Gh, J, kG, ge, hoe, na⟩ := mk_end0 (d2 := d2) (t2 := t2) I1 hsz kk un2 hok2 os2 bare2 ea ed hd1
    exact ⟨rv, _, _, _, ⟨Gh, g2, d2, t2, os'⟩, _, .ref C, some d, rfl, J, kG, ge, hoe, ⟨rfl, rfl, fun vs z => by cases z; rfl⟩, rfl, rfl, na, rfl, bare2, raises_own T.exC T.tyC, q2⟩
end
end SX
set_option Elab.async false
set_option linter.all false
set_option maxRecDepth 100000
set_option maxHeartbeats 4000000
/-! Own errors of one field: made, raised. -/
namespace DL
open PySem L2 PyProof.Rows NdefX
section
variable {c : RC} {M : Addr → Prop} {ρ : List Addr} {H H' : Hp} {a C : Addr} {dx : Option Addr}
theorem exo_lst {e C : Addr} {d : Option Addr} {xs : List V} : exo e C d ≠ .lst xs := fun z => by
  have z' : HO.ext _ = HO.lst xs := z
  cases z'
theorem exo_ins {e C k : Addr} {d : Option Addr} {y : Addr} {gs : List (Str × V)} : exo e C d ≠ .ins k y gs := fun z => by
  have z' : HO.ext _ = HO.ins k y gs := z
  cases z'
/-- all that is read stands, but what is at a -/
structure Off (a : Addr) (H H' : Hp) : Prop where
  at_ : ∃ e C d, H a = some (exo e C d)
  keep : ∀ b o, b ≠ a → H b = some o → H' b = some o
theorem Off.rd {u : HO} {b : Addr} (f : Off a H H') (hu : ∀ e C d, exo e C d ≠ u) (r : Rd H b u) : Rd H' b u := by
  obtain ⟨e, C, d, z⟩ := f.at_
  have ne : b ≠ a := fun q => by
    rw [q] at r
    rcases r with r | ⟨o, r⟩
    · rw [z] at r; exact hu _ _ _ (Option.some.inj r)
    · rw [z] at r; exact exo_frz (Option.some.inj r)
  rcases r with r | ⟨o, r⟩
  · exact .inl (f.keep _ _ ne r)
  · exact .inr ⟨o, f.keep _ _ ne r⟩
theorem RepN.off (f : Off a H H') : ∀ {n : Nat} {d : D} {v : V}, RepN c M ρ H n d v → RepN c M ρ H' n d v := by
  intro n
  induction n with
  | zero => intro d v h; cases d <;> exact h
  | succ n ih =>
    intro d v h
    cases d with
    | tup xs => obtain ⟨b, vs, e, z, r⟩ := h; exact ⟨b, vs, e, z.imp (fun q => ⟨q.1, f.rd (fun _ _ _ => exo_tup) q.2⟩) id, r.imp fun _ _ q => ih q⟩
    | lst xs => obtain ⟨b, vs, e, z, r⟩ := h; exact ⟨b, vs, e, z.imp (fun q => ⟨q.1, f.rd (fun _ _ _ => exo_lst) q.2⟩) id, r.imp fun _ _ q => ih q⟩
    | ins k fs =>
      obtain ⟨b, dx, gs, e, z, e2, nm, r⟩ := h
      refine ⟨b, dx, gs, e, z, f.keep _ _ (fun q => ?_) e2, nm, r.imp fun _ _ q => ih q⟩
      obtain ⟨_, _, _, z⟩ := f.at_
      rw [q, z] at e2; exact exo_ins (Option.some.inj e2)
    | _ => exact h
theorem Rep.off (f : Off a H H') {d : D} {v : V} (h : Rep c M ρ H d v) : Rep c M ρ H' d v := let ⟨n, q⟩ := h; ⟨n, q.off f⟩
theorem RepE.off (f : Off a H H') {d : EV} {v : V} (h : RepE c M ρ H d v) : RepE c M ρ H' d v := by
  cases d with
  | d x => exact Rep.off f h
  | o i => exact h
theorem SR.off {G : GS} (f : Off a H H') (s : SR c M ρ G H) (na : ¬ M a) (nb : ¬ c.B a) : SR c M ρ G H' := by
  have ne : ∀ b, b ≠ a → H b ≠ none → H' b ≠ none := fun b hb h => by
    cases e : H b with
    | none => exact absurd e h
    | some o => rw [f.keep _ _ hb e]; simp
  refine ⟨s.len, s.nd, s.sep, fun i xs e => ?_, fun b m => ne b (fun q => na (q ▸ m)) (s.mt b m), fun b m => ne b (fun q => nb (q ▸ m)) (s.bt b m)⟩
  obtain ⟨b, vs, p, q, r⟩ := s.at_ i xs e
  refine ⟨b, vs, p, f.keep _ _ (fun z => ?_) q, r.imp fun _ _ h => h.off f⟩
  obtain ⟨_, _, _, y⟩ := f.at_
  rw [z, y] at q; exact exo_lst (Option.some.inj q)
end
/-- raise C(e), of one field -/
def sEr (cl : String) (ok : D → Bool) (m : EM) : SM := fun env G => ofE (m env G) env fun e G1 => match e with
  | .d x => if ok x = true then .er cl [x] env G1 else .st
  | _ => .st
section
variable {X : Cx} {c : RC} {W : WX} {e : Expr} {m : EM} {p pos pos' : Pos}
theorem pass_no : Passes (L2N.CX X.prog X.w) X (fun _ _ _ => False) := fun _ _ _ _ _ _ _ ⟨_, _, _, _, _, _, _, _, _, _, _, _, h⟩ => h.elim
end
end DL
set_option Elab.async false
set_option linter.all false
set_option maxRecDepth 100000
set_option maxHeartbeats 4000000
/-! try .. except C as e; e.f; calls within an except suite. -/
namespace DL
open PySem L2 PyProof.Rows
/-- e.f of the error that slot i holds -/
def eXf (i : Nat) (cl : String) (j : Nat) : EM := fun env G => match env[i]? with
  | some (.exn k fs) => if k = cl then (match fs[j]? with
    | some x => .ok (.d x) G
    | none => .st) else .st
  | _ => .st
/-- holds no object of the frame's own -/
def plainS : Sl → Bool
  | .no => true
  | .ev _ => true
  | _ => false
def afterO (i : Nat) (o : OutS) : OutS := match o with
  | .nx env G => if (env.set i .no).all plainS = true then .nx (env.set i .no) G else .st
  | .bk env G => if (env.set i .no).all plainS = true then .bk (env.set i .no) G else .st
  | .ct env G => if (env.set i .no).all plainS = true then .ct (env.set i .no) G else .st
  | .rt e G => .rt e G
  | _ => .st
/-- try: mb, except as slot i: ms, where only the error cl comes -/
def sTryAs (i : Nat) (cl : String) (mb ms : SM) : SM := fun env G => match mb env G with
  | .er k fs env1 G1 => if k = cl ∧ env1.all plainS = true ∧ i < env1.length then afterO i (ms (env1.set i (.exn cl fs)) G1) else .st
  | o => o
section
variable {c : RC} {M M' : Addr → Prop} {ρ ρ' : List Addr} {G : GS} {env : En} {σ : L2.St} {H H' : Hp}
theorem rl_plain {c' : RC} (v : Cv c M c' M' ρ) (s : SR c' M' ρ G H) (R : Rl c M ρ G env σ H) (h : env.all plainS = true) : Rl c' M' ρ G env σ H := by
  obtain ⟨oa, h1, _⟩ := R.e
  refine ⟨s, R.len, oa, fun i sl e => ?_, fun i j o u e => ?_⟩
  · have hp := List.all_eq_true.mp h sl (List.mem_of_getElem? e)
    match sl, hp, h1 i sl e with
    | .no, _, _ => trivial
    | .ev x, _, ⟨u, a, b⟩ => exact ⟨u, a, b.cv v⟩
  · have hp := List.all_eq_true.mp h _ (List.mem_of_getElem? e)
    cases hp
/-- into the suite -/
theorem rl_suite {a dd : Addr} {cl : String} {fs : List D} {gs : List (Str × V)} {i : Nat} (R : Rl c M ρ G env σ H) (h : env.all plainS = true) (hx : H dd = some (.xd gs)) (f : Flds c M ρ H cl fs gs) (hi : i < σ.length) :
    Rl ⟨c.K, c.C, c.N, c.B, a, dd⟩ nM ρ G (env.set i (.exn cl fs)) (σ.set i (some (.ref a))) H := by
  have v : Cv c M ⟨c.K, c.C, c.N, c.B, a, dd⟩ nM ρ := ⟨rfl, rfl, rfl, fun b z => ⟨z.1, fun y => y, z.2.2⟩⟩
  have s : SR ⟨c.K, c.C, c.N, c.B, a, dd⟩ nM ρ G H := R.s.cv v (fun b hb => ⟨(R.s.sep b hb).1, fun z => z⟩) (fun _ z => z.elim) R.s.bt
  have nρ : dd ∉ ρ := fun hm => by
    obtain ⟨j, hj⟩ := List.getElem?_of_mem hm
    have hl : j < G.length := by rw [← R.s.len]; exact (List.getElem?_eq_some_iff.mp hj).1
    cases hg : G[j] with
    | lst xs =>
      obtain ⟨b, ws, p, z, _⟩ := R.s.at_ j xs (by rw [List.getElem?_eq_getElem hl, hg])
      rw [hj] at p; cases p
      rw [hx] at z; cases z
  obtain ⟨oa, h1, _⟩ := R.e
  have R' := rl_plain v s R h
  obtain ⟨ob, h2, _⟩ := R'.e
  refine ⟨s, by simpa using R.len, ob, fun j sl e => ?_, fun j k o u e => ?_⟩
  · by_cases hj : j = i
    · subst hj
      have hl : j < env.length := by simpa using (List.getElem?_eq_some_iff.mp e).1
      rw [List.getElem?_set_self hl] at e; cases e
      exact ⟨List.getElem?_set_self hi, ⟨fun z => z, nρ⟩, gs, hx, flds_cv v f⟩
    · rw [List.getElem?_set_ne (Ne.symm hj)] at e
      have sg : (σ.set i (some (V.ref a)))[j]? = σ[j]? := List.getElem?_set_ne (Ne.symm hj)
      have hp := List.all_eq_true.mp h sl (List.mem_of_getElem? e)
      match sl, hp, h2 j sl e with
      | .no, _, _ => trivial
      | .ev x, _, ⟨u, p, q⟩ => exact ⟨u, by rw [sg]; exact p, q⟩
  · by_cases hj : j = i
    · subst hj
      have hl : j < env.length := by simpa using (List.getElem?_eq_some_iff.mp e).1
      rw [List.getElem?_set_self hl] at e; cases e
    · rw [List.getElem?_set_ne (Ne.symm hj)] at e
      have hp := List.all_eq_true.mp h _ (List.mem_of_getElem? e)
      cases hp
/-- out of it: the name goes -/
theorem rl_out {a dd : Addr} {i : Nat} (R : Rl ⟨c.K, c.C, c.N, c.B, a, dd⟩ M ρ G env σ H) (h : (env.set i .no).all plainS = true) : Rl c M ρ G (env.set i .no) (σ.set i none) H := by
  have v : Cv ⟨c.K, c.C, c.N, c.B, a, dd⟩ M c M ρ := ⟨rfl, rfl, rfl, fun b z => z⟩
  have s : SR c M ρ G H := R.s.cv v R.s.sep R.s.mt R.s.bt
  obtain ⟨oa, h1, _⟩ := R.e
  refine ⟨s, by simpa using R.len, oa, fun j sl e => ?_, fun j k o u e => ?_⟩
  · have hp := List.all_eq_true.mp h sl (List.mem_of_getElem? e)
    by_cases hj : j = i
    · subst hj
      have hl : j < env.length := by simpa using (List.getElem?_eq_some_iff.mp e).1
      rw [List.getElem?_set_self hl] at e; cases e
      trivial
    · rw [List.getElem?_set_ne (Ne.symm hj)] at e
      have sg : (σ.set i none)[j]? = σ[j]? := List.getElem?_set_ne (Ne.symm hj)
      match sl, hp, h1 j sl e with
      | .no, _, _ => trivial
      | .ev x, _, ⟨u, p, q⟩ => exact ⟨u, by rw [sg]; exact p, q.cv v⟩
  · have hp := List.all_eq_true.mp h _ (List.mem_of_getElem? e)
    cases hp
end
section
variable {X : Cx} {c : RC} {W : WX}
theorem takesS {a : Addr} {pn : List (Addr × Obj)} : L2N.Takes (X.suite a pn) W0 := fun u s' ⟨_, _, _, _, _, _, _, _, _, _, _, _, _, _, _, _, z⟩ => z
theorem de_xf {a dd : Addr} {oe : Obj} {pn : List (Addr × Obj)} {n en : Str} {i j : Nat} {cl : String} {p pos : Pos} (T : XfC X.K (c.C cl)) (hno : PySem.W.findIn X.K (.ref (c.C cl)) n = some none) (hix : ixf n (c.N cl) = some j)
    (hz : L2N.Zn (.ref (c.C cl)) (some dd) oe) (hf : ∃ vs, oe.data = .fields vs) (he : PE (X.suite a ((a, oe) :: pn)) (.Name en p) (tVar i)) (hb : attributeBase (.Name en p) n X.env (eval (.Name en p) X.env) = eval (.Name en p) X.env := by rfl) :
    DE (X.suite a ((a, oe) :: pn)) ⟨c.K, c.C, c.N, c.B, a, dd⟩ W (.Attribute (.Name en p) n pos) (eXf i cl j) := by
  refine pe_imp (pe_xf T hno hz.zc hf he hb) fun σ H Q q => ?_
  obtain ⟨M, ρ, G, env, R, q⟩ := q
  unfold eXf at q
  obtain ⟨oa, h1, _⟩ := R.e
  split at q
  · rename_i k fs hk
    split at q
    · rename_i hc
      subst hc
      split at q
      · rename_i x hx
        obtain ⟨hs, _, gs, hd, f⟩ := h1 i _ hk
        obtain ⟨v, hl, r⟩ := flds_get f hix hx
        exact ⟨_, hs, rfl, rfl, dd, gs, v, rfl, hd, hl, q.ok R.s r⟩
      · exact q.elim
    · exact q.elim
  · exact q.elim
theorem SQ.after {c' : RC} {a dd : Addr} {i : Nat} {M : Addr → Prop} {ρ : List Addr} {H : Hp} {o : OutS} {Dn : Ends} (h : SQ c W M ρ H (afterO i o) Dn) :
    SQ ⟨c.K, c.C, c.N, c.B, a, dd⟩ W0 nM ρ H o { nx := fun σ' H' => Dn.nx (σ'.set i none) H', rt := Dn.rt, bk := fun σ' H' => Dn.bk (σ'.set i none) H', ct := fun σ' H' => Dn.ct (σ'.set i none) H' } := by
  have gr : ∀ {M' : Addr → Prop} {ρ' : List Addr} {H' : Hp}, Gr nM ρ H M' ρ' H' → Gr M ρ H M' ρ' H' := fun g => ⟨fun a o e n _ => g.keep a o e n fun z => z, g.there, g.grow, fun a z => (g.mine a z).elim (fun y => y.elim) .inr⟩
  cases o with
  | nx env G =>
    have h' : SQ c W M ρ H (if (env.set i .no).all plainS = true then .nx (env.set i .no) G else .st) Dn := h
    split at h'
    · rename_i hp
      exact fun M' ρ' σ' H' g R => h' M' ρ' _ H' (gr g) (rl_out R hp)
    · exact h'.elim
  | bk env G =>
    have h' : SQ c W M ρ H (if (env.set i .no).all plainS = true then .bk (env.set i .no) G else .st) Dn := h
    split at h'
    · rename_i hp
      exact fun M' ρ' σ' H' g R => h' M' ρ' _ H' (gr g) (rl_out R hp)
    · exact h'.elim
  | ct env G =>
    have h' : SQ c W M ρ H (if (env.set i .no).all plainS = true then .ct (env.set i .no) G else .st) Dn := h
    split at h'
    · rename_i hp
      exact fun M' ρ' σ' H' g R => h' M' ρ' _ H' (gr g) (rl_out R hp)
    · exact h'.elim
  | rt e G => exact fun M' ρ' v H' g s r => h M' ρ' v H' (gr g) (SR.cv (c := ⟨c.K, c.C, c.N, c.B, a, dd⟩) (M := M') ⟨rfl, rfl, rfl, fun b z => z⟩ s s.sep s.mt s.bt) (RepE.cv (c := ⟨c.K, c.C, c.N, c.B, a, dd⟩) (M := M') (c' := c) (M' := M') ⟨rfl, rfl, rfl, fun b z => z⟩ r)
  | er cl fs e G => exact h.elim
  | st => exact h
theorem ds_tryas {x n : Str} {cl : String} {i : Nat} {body suite : List Stmt} {b₀ : Stmt} {np pos pos' : Pos} {mb ms : SM} {hc0 : Value} (hs : X.stack = X.env :: X.outer) (hf : X.env.frame = some X.env.locals) (hN : X.N.Nodup) (hi : X.N[i]? = some n) (hln : X.env.kindOf n = some .local)
    (hc : Names X x hc0) (tk : L2N.Takes X W) (hex : PySem.W.exmOne X.K (.ref (c.C cl)) hc0 = some true)
    (hb : ∀ (W : WX) (pn : List (Addr × Obj)) (xe : Value → Shared → Prop), L2N.Takes (X.tr pn xe) W → DSs (X.tr pn xe) c W body mb)
    (hsu : ∀ (a dd : Addr) (oe : Obj) (pn : List (Addr × Obj)), L2N.Zn (.ref (c.C cl)) (some dd) oe → (∃ vs, oe.data = .fields vs) → DSs (X.suite a ((a, oe) :: pn)) ⟨c.K, c.C, c.N, c.B, a, dd⟩ W0 (b₀ :: suite) ms) :
    DS X c W (.Try body [.ExceptHandler (some (.Name x np)) (some n) (b₀ :: suite) pos'] [] [] pos) (sTryAs i cl mb ms) := by
  have hps := L2N.ps_try_as (X := X) (x := x) (n := n) (c := hc0) (i := i) (body := body) (suite := suite) (b₀ := b₀) (np := np) (pos := pos) (pos' := pos') (Wout := W) (tb := fun W => tDS c W mb)
    (ts := fun a cls d Dn σ H => ∃ dd, cls = .ref (c.C cl) ∧ d = some dd ∧ tDS ⟨c.K, c.C, c.N, c.B, a, dd⟩ W0 ms Dn σ H) hs hf hN hi hln hc tk (fun W pn xe tk' _ => hb W pn xe tk') (fun a oe cls d pn hz hfl => ⟨fun pins s σ H D I q => ?_⟩)
  · refine ps_imp hps fun Dn σ H q => ?_
    obtain ⟨M, ρ, G, env, R, q⟩ := q
    refine ⟨M, ρ, G, env, R, ?_⟩
    unfold sTryAs at q
    cases hm : mb env G with
    | nx e G1 => rw [hm] at q; exact q
    | bk e G1 => rw [hm] at q; exact q
    | ct e G1 => rw [hm] at q; exact q
    | rt e G1 => rw [hm] at q; exact q
    | st => rw [hm] at q; exact q
    | er k fs env1 G1 =>
      rw [hm] at q
      have q' : SQ c W M ρ H (if k = cl ∧ env1.all plainS = true ∧ i < env1.length then afterO i (ms (env1.set i (.exn cl fs)) G1) else .st) Dn := q
      split at q'
      · rename_i hk
        obtain ⟨rfl, hp, hl⟩ := hk
        intro M' ρ' σ' H' dd gs g R' hx f
        refine ⟨true, hex, fun _ a na => ⟨dd, rfl, rfl, nM, ρ', G1, _, rl_suite R' hp hx f (Nat.lt_of_lt_of_le hl R'.len), SQ.after (c' := c) (SQ.grow q' g)⟩, fun z => by cases z⟩
      · exact q'.elim
  · obtain ⟨dd, rfl, rfl, q⟩ := q
    exact (hsu a dd oe pn hz hfl).run pins s σ H D I q
end
/-! ### defs called where an error is handled -/
open L2H in
abbrev FnGH (P : Program) (w : World) (K : PySem.W.Frag) (mg : Str → Option Value) (base : Heap) (C : String → Addr) (N : String → List Str) (k : Nat) (f : Addr) (n : Ar) (g : FM) : Prop := ∃ fd ps, Binds K fd ps [] ∧ L2H.FnH P w K mg base (L2N.CX P w) k f fd ps (Spd K C N n g)
section
variable {P : Program} {w : World} {K : PySem.W.Frag} {mg : Str → Option Value} {base : Heap} {C : String → Addr} {N : String → List Str}
theorem fngh_of {x qual : Str} {st : Stmt} {f : Addr} {fd : FuncData} {Nm ps : List Str} {k : Nat} {m : SM} (F : Fun K x qual st f fd) (S : FnScope Nm ps (defScope st)) (bd : Binds K fd ps [])
    (hb : ∀ (cdv : Value) (A : Around) (outer : List Env) (s : Shared) (H : Hp) (E : XK) (B : Addr → Prop) (p : Addr × Obj), L2H.RoomH k (A.deeper (envOfC qual (defScope st) s.heap.objs.size f cdv)) → L2H.Hot1 A p →
      DSs (L2H.cxH (L2N.CX P w) P w K mg base Nm qual (defScope st) f cdv A outer s H E p) ⟨K, C, N, B, 0, 0⟩ (fun cls d _ H => E cls d H) (defBody st) m) : FnGH P w K mg base C N (k + 1) f (arN ps.length) (runB Nm.length m) := by
  have hlN : ps.length ≤ Nm.length := by have := congrArg List.length S.pre; rw [List.length_take] at this; omega
  refine ⟨fd, ps, bd, ?_⟩
  obtain ⟨oc, od, kV, doc, pm, an, cdv, ct, osl, rfl, lk, hcd⟩ := F.ex
  refine L2H.fn_ofH lk hcd S (fun vs H Q E h => by simpa [arN] using h.1) fun A outer s H vs Q E p hot hr hsp => ?_
  obtain ⟨hl, B, ρ, G, es, s0, r, q⟩ := hsp
  exact ⟨_, hb cdv A outer s H E B p hr hot, nM, ρ, G, _, rl_start s0 r (by rw [show vs.length = ps.length by simpa [arN] using hl]; exact hlN), sq_of q⟩
end
section
variable {X : Cx} {c : RC} {W : WX} {e a b : Expr} {es : List Expr} {ma mb : EM} {mr : AM} {pos p : Pos}
theorem de_callH {x : Str} {k : Nat} {n : Ar} {f : Addr} {g : FM} (F : FnGH X.prog X.w X.K X.mg X.base c.C c.N k f n g) (hK : c.K = X.K) (hr : L2H.RoomH k X.A) (hh : L2H.HotC X) (hg : Gl X x) (hm : X.mg x = some (.ref f)) (hk : PySem.W.keepIn X.K (.ref f) = true) (tk : L2N.Takes X W) (ha : DA X c W (e :: es) mr)
    (hdb : (x == ("__debug__" : Str)) = false := by decide) (he : starEach (e :: es) X.env = (false, eval e X.env) :: starEach es X.env := by rfl) (hpl : (backTo pos (starEach es X.env)).any (·.1) = false := by rfl) :
    DE X c W (.Call (.Name x p) (e :: es) [] pos) (eCall n g mr) := by
  obtain ⟨fd, ps, bd, F⟩ := F
  refine ⟨fun pins s σ H Q I h => ?_⟩
  obtain ⟨M, ρ, G, env, R, q⟩ := h
  refine wpAny_Call_Name_kw (ld_glob I hg hm ?_ hdb)
  have h' : tDA c W mr σ H fun vs H1 => Spd c.K c.C c.N n g vs H1 Q (WE W σ) := ⟨M, ρ, G, env, R, (TQ.bind (R := RA c) q).imp fun v H1 ⟨ρ1, G1, e1, g1, s1, r1, q1⟩ => spd_of s1 r1 q1⟩
  refine PySem.W.callWith_K (h₀ := X.base) I.ok.mod.kin hk (thn (PA.run ha pos pins s σ H _ I h') fun us s1 ⟨vs, H1, I1, r, q⟩ => ⟨I1.kIn, ?_⟩) he hpl
  rw [hK] at q
  exact L2H.run_fnH (E := fun σ => WE W σ) F hr hh bd (L2N.passAt tk σ) I1 r q
/-- in the suite -/
theorem hot_suite {a : Addr} {oe : Obj} {cls : Value} {d : Option Addr} {pn : List (Addr × Obj)} (hz : L2N.Zn cls d oe) (hf : ∃ vs, oe.data = .fields vs) : L2H.HotC (X.suite a ((a, oe) :: pn)) := by
  obtain ⟨vs, hd⟩ := hf
  exact ⟨(a, oe), ⟨rfl, vs, hd, hz.2.2 vs hd⟩, List.mem_cons_self⟩
theorem room_suite {k : Nat} {a : Addr} {pn : List (Addr × Obj)} (r : Room k X.A) : L2H.RoomH k (X.suite a pn).A := ⟨r.dp, r.un⟩
end
end DL
set_option Elab.async false
set_option linter.all false
set_option maxRecDepth 100000
set_option maxHeartbeats 4000000
/-! what a printed text says of an own error of one field. -/
namespace DL
open PySem L2 PyProof.Rows NdefX
abbrev nfo (st : Stmt) (nm qual : Str) (cc c : Addr) : NF := ⟨nm, qual, defArgs st, defBody st, defScope st, [(("__class__" : Str), cc)], c⟩
theorem clsIn_of {K : PySem.W.Frag} {C : Addr} (T : OexC K C) : ∃ cd, PySem.W.clsIn K C = some cd := by
  obtain ⟨nm, q, N, bs, bm, sn, sub, ab, col, dd, k0, k1, k2, k3, k5, hC, hbm⟩ := T.cls
  exact ⟨_, by unfold PySem.W.clsIn; rw [hC] <;> rfl⟩
/-- the values whose text is short -/
def okI : D → Bool
  | .int i => decide (i.natAbs.log2 < 1920)
  | _ => false
theorem jsO_ok {env : En} {G : GS} : ∀ (ms : List EM) (acc : Str), (∀ m ∈ ms, ∃ y : Str, m env G = .ok (.d (.str y)) G ∧ y.length ≤ 2000) → acc.length + 2000 * ms.length ≤ 1000000 → ∃ z, jsO ms acc env G = .ok z G
  | [], acc, _, _ => ⟨acc, rfl⟩
  | m :: ms, acc, h, hl => by
    obtain ⟨y, hy, hyl⟩ := h m List.mem_cons_self
    have hla : (acc ++ y).length ≤ acc.length + 2000 := by rw [Str.length_append]; omega
    have hll : 2000 * (m :: ms).length = 2000 * ms.length + 2000 := by simp [Nat.mul_add]
    obtain ⟨z, hz⟩ := jsO_ok ms (acc ++ y) (fun m' hm => h m' (List.mem_cons_of_mem _ hm)) (by omega)
    refine ⟨z, ?_⟩
    unfold jsO
    rw [hy]
    show (if (acc ++ y).length ≤ 1000000 then jsO ms (acc ++ y) env G else .st) = _
    rw [if_pos (by omega), hz]
theorem eJs_ok {env : En} {G : GS} {ms : List EM} (h : ∀ m ∈ ms, ∃ y : Str, m env G = .ok (.d (.str y)) G ∧ y.length ≤ 2000) (hl : ms.length ≤ 100) : ∃ y, eJs ms env G = .ok y G := by
  obtain ⟨z, hz⟩ := jsO_ok ms Str.empty h (by have : Str.empty.length = 0 := rfl; omega)
  exact ⟨_, by unfold eJs; rw [hz]; rfl⟩
theorem fmt_ok {i : Int} {env : En} {G : GS} {j : Nat} (he : env[j]? = some (.ev (.d (.int i)))) (hi : i.natAbs.log2 < 1920) : ∃ y : Str, eUn fFmt (eVar j) env G = .ok (.d (.str y)) G ∧ y.length ≤ 2000 := by
  refine ⟨toString i, ?_, Nat.le_trans (PyProof.Rows.int_text_len_1921 hi) (by decide)⟩
  unfold eUn eVar
  rw [he]
  show lift (fFmt (.d (.int i)) G) = _
  unfold fFmt pure1
  show lift ((if i.natAbs.log2 < 1920 then some (D.str (toString i)) else none).map fun z => (EV.d z, G)) = _
  rw [if_pos hi]
  rfl
theorem str_ok {x : Str} {env : En} {G : GS} (h : x.length ≤ 2000 := by decide) : ∃ y : Str, eC (.str x) env G = .ok (.d (.str y)) G ∧ y.length ≤ 2000 := ⟨x, rfl, h⟩
theorem roomH_units {k : Nat} {A : Around} (r : L2H.RoomH k A) : A.units + 64 < cLine := by have := r.un; omega
end DL
namespace L2H
theorem RoomH.units {k : Nat} {A : PySem.Around} (r : RoomH k A) : A.units + 64 < PySem.cLine := DL.roomH_units r
end L2H
set_option Elab.async false
set_option linter.all false
set_option maxRecDepth 100000
set_option maxHeartbeats 4000000
/-! isinstance(e, C) of the error that a suite handles. -/
namespace DL
open PySem L2 PyProof.Rows
end DL
set_option Elab.async false
set_option linter.all false
set_option maxRecDepth 100000
set_option maxHeartbeats 4000000
/-! names in a chain, pairs unpacked, instances called, a class in a variable called. -/
namespace DL
open PySem L2 PyProof.Rows StX ClX
/-! ### x = y = e -/
def sSet2 (i j : Nat) (m : EM) : SM := fun env G => ofE (m env G) env fun e G1 => .nx ((env.set i (.ev e)).set j (.ev e)) G1
/-- (x, y, ..) = e: one slot after another -/
def setAll : List Nat → List D → En → Option En
  | [], [], env => some env
  | i :: is, x :: xs, env => setAll is xs (env.set i (.ev (.d x)))
  | _, _, _ => none
def sUnp (is : List Nat) (m : EM) : SM := fun env G => ofE (m env G) env fun e G1 => match e with
  | .d (.tup xs) => (match setAll is xs env with
    | some env' => .nx env' G1
    | none => .st)
  | _ => .st
section
variable {X : Cx} {c : RC} {W : WX} {e t1 t2 : Expr} {es : List Expr} {me : EM} {pos : Pos}
/-- names as targets -/
def gNames : List Nat → TGs
  | [] => gNil
  | i :: is => gCons (gName i) (gNames is)
theorem gnames_run {M : Addr → Prop} {ρ : List Addr} {G : GS} {H : Hp} {Q : L2.St → Hp → Prop} : ∀ (is : List Nat) (xs : List D) (vs : List V) (env env' : En) (σ : L2.St), Rl c M ρ G env σ H → All2 (Rep c M ρ H) xs vs → setAll is xs env = some env' →
    (∀ σ', Rl c M ρ G env' σ' H → Q σ' H) → gNames is vs σ H Q
  | [], [], _, env, env', σ, R, .nil, h, k => by
    cases h
    exact ⟨rfl, k σ R⟩
  | i :: is, x :: xs, _, env, env', σ, R, .cons (b := v) r t, h, k => by
    refine ⟨v, _, rfl, ?_⟩
    exact gnames_run is xs _ (env.set i (.ev (.d x))) env' (σ.set i (some v)) (R.set (x := .d x) r) t h k
  | [], _ :: _, _, _, _, _, _, _, h, _ => by cases h
  | _ :: _, [], _, _, _, _, _, _, h, _ => by cases h
theorem ds_unp {is : List Nat} {n k : Nat} {pt : Pos} (hc : X.calm = true) (hK : c.K = X.K) (he : DE X c W e me) (hg : PGs X es (gNames is)) (hl : is.length = n) (hn : (assignEach es X.env).length = n := by rfl) (hst : (assignEach es X.env).findIdx? (·.1) = none := by rfl)
    (hs : swapsWithSole [.Tuple es k pt] e pos.line X.env = pure false := by rfl) (hw : swappedStores [.Tuple es k pt] e X.env = pure none := by rfl) (h1 : (assignEach [.Tuple es k pt] X.env).map (·.2) = [assign (.Tuple es k pt) X.env] := by rfl) :
    DS X c W (.Assign [.Tuple es k pt] e pos) (sUnp is me) := by
  refine ps_imp (ps_asg he (pg_tup (n := n) hc hg hn hst) hs hw h1) fun Dn σ H q => ?_
  obtain ⟨M, ρ, G, env, R, q⟩ := q
  refine ⟨M, ρ, G, env, R, (SQ.ofE (R := RE c) R q).imp fun v H1 ⟨ρ1, G1, e1, g1, R1, r1, q1⟩ => ?_⟩
  split at q1
  · rename_i xs
    split at q1
    · rename_i env' hx
      obtain ⟨a, vs, rfl, z, rr⟩ := Rep.of_tup r1
      have len : ∀ (is : List Nat) (xs : List D) (env env' : En), setAll is xs env = some env' → xs.length = is.length := by
        intro is
        induction is with
        | nil => intro xs env env' h; cases xs <;> first | rfl | cases h
        | cons i is ih => intro xs env env' h; cases xs with
          | nil => cases h
          | cons x xs => simp [ih xs _ _ h]
      refine ⟨a, vs, rfl, by rw [← hK]; exact z.sq, by rw [← rr.length, len _ _ _ _ hx, hl], gnames_run is xs vs env env' σ R1 rr hx fun σ' R' => ?_⟩
      exact q1 M ρ1 σ' H1 Gr.refl R'
    · exact q1.elim
  · exact q1.elim
end
/-! ### instances called -/
def eCallO (ms : List (String × (Ar × FM))) (mo : EM) (r : AM) : EM := eMeth ms mo r
end DL
set_option Elab.async false
set_option linter.all false
set_option maxRecDepth 100000
set_option maxHeartbeats 4000000
/-! keywords; super().__init__(..) of a plain class. -/
namespace DL
open PySem L2 PyProof.Rows StX ClX NdefX
/-- n written values, then k keywords' values -/
def aApp (n k : Nat) (a b : AM) : AM := fun env G => (a env G).bind fun xs G1 => (b env G1).bind fun ys G2 => if xs.length = n ∧ ys.length = k then .ok (xs ++ ys) G2 else .st
def DK (X : Cx) (c : RC) (W : WX) (kws : List Keyword) (m : AM) : Prop := PK X kws (tDA c W m)
theorem pk_imp {X : Cx} {kws : List Keyword} {t t' : TA} (h : PK X kws t) (k : ∀ σ H Q, t' σ H Q → t σ H Q) : PK X kws t' := ⟨fun pos pins s σ H Q I q => h.run pos pins s σ H Q I (k σ H Q q)⟩
section
variable {X : Cx} {c : RC} {W : WX} {e : Expr} {es : List Expr} {kws : List Keyword} {me : EM} {mr mk : AM} {pos p kpos : Pos} {nm : Option Str} {M : Addr → Prop} {ρ : List Addr} {σ : L2.St} {H : Hp}
theorem dk_nil : DK X c W [] aNil := pk_imp pk_nil fun σ H Q ⟨M, ρ, G, env, R, q⟩ => q.ok R.s .nil
theorem dk_cons (he : DE X c W e me) (hr : DK X c W kws mr) : DK X c W (⟨nm, e, kpos⟩ :: kws) (aCons me mr) := by
  refine pk_imp (pk_cons he hr) fun σ H Q q => ?_
  obtain ⟨M, ρ, G, env, R, q⟩ := q
  refine ⟨M, ρ, G, env, R, (TQ.bind (R := RE c) q).imp fun v H1 ⟨ρ1, G1, e1, g1, s1, r1, q1⟩ => ?_⟩
  refine ⟨M, ρ1, G1, env, R.ge g1 s1, (TQ.bind (R := RA c) q1).imp fun u H2 ⟨ρ2, G2, e2, g2, s2, r2, q2⟩ => ?_⟩
  exact q2.ok s2 (.cons (r1.grow g2.gr) r2)
/-- what is wanted of written values and keywords, one behind the other -/
theorem app_split {n k : Nat} {α : Type} {f : List EV → GS → Out EV} {Q : VK} {env : En} {G : GS} (R : Rl c M ρ G env σ H) (q : TQ (RE c) c W M ρ σ H ((aApp n k mr mk env G).bind f) Q) :
    tDA c W mr σ H fun vs H1 => tDA c W mk σ H1 fun zs H2 => vs.length = n ∧ zs.length = k ∧ ∃ ρ2 G2 es2, SR c M ρ2 G2 H2 ∧ All2 (RepE c M ρ2 H2) es2 (vs ++ zs) ∧ Ge M ρ H ρ2 H2 ∧ TQ (RE c) c W M ρ2 σ H2 (f es2 G2) Q := by
  have q0 := TQ.bind (R := RA c) q
  unfold aApp at q0
  refine ⟨M, ρ, G, env, R, (TQ.bind (R := RA c) q0).imp fun vs H1 ⟨ρ1, G1, e1, g1, s1, r1, q1⟩ => ?_⟩
  refine ⟨M, ρ1, G1, env, R.ge g1 s1, (TQ.bind (R := RA c) q1).imp fun zs H2 ⟨ρ2, G2, e2, g2, s2, r2, q2⟩ => ?_⟩
  split at q2
  · rename_i hl
    have rr : All2 (RepE c M ρ2 H2) (e1 ++ e2) (vs ++ zs) := All2.append (repEs_grow r1 g2.gr) r2
    obtain ⟨ρ3, G3, e3, g3, s3, r3, q3⟩ := q2 (vs ++ zs) ρ2 H2 Ge.refl s2 rr
    exact ⟨by rw [← r1.length]; exact hl.1, by rw [← r2.length]; exact hl.2, ρ3, G3, e3, s3, r3, g3, q3⟩
  · exact q2.elim
/-- an instance is made by a call with keywords -/
theorem run_makeKA {CX : CXT} {k n : Nat} {f C : Addr} {fd : FuncData} {ps ks : List Str} {sp : Sp} {E : XK} {Q : VK} {s : Shared} {pins : List (Addr × Obj)} {vs zs : List V} {us ws : List Value}
    (Mc : Mk X.K C f) (F : FnOk X.prog X.w X.K X.mg X.base CX k f fd ps sp) (hr : Room (k + 1) X.A) (hb : KBn X.K fd ps (n + 1) ks (· ++ ·) (· ++ ·)) (hx : PassesAt CX X σ E) (I : Inv X pins σ H s) (r : Vals vs us) (rz : Vals zs ws) (l1 : vs.length = n) (l2 : zs.length = ks.length)
    (h : ∀ x dx, H x = Option.none → H dx = Option.none → dx ≠ x → sp (V.ref x :: vs ++ zs) (upd (upd H dx (.own x)) x (.ins C dx [])) (fun v H2 => v = .non ∧ Q (.ref x) H2) E) :
    wpAny (model X.prog X.w) X.A (call (.ref C) us (ks.zip ws)) (EP X pins σ Q) X.xe s := by
  let m := s.heap.objs.size
  have q := h (m + 1) m (I.hok.fresh (Nat.le_succ m)) (I.hok.fresh (Nat.le_refl m)) (Nat.ne_of_lt m.lt_succ_self)
  have J := Inv.made (C := C) I
  have ra : Vals (V.ref (m + 1) :: vs) (Value.ref (m + 1) :: us) := .cons rfl r
  have n1 : (Value.ref (m + 1) :: us).length = n + 1 := ra.length.symm.trans (congrArg Nat.succ l1)
  have z := F.run _ X.stack _ _ ⟨Value.ref (m + 1) :: us, ks.zip ws⟩ _ _ _ E (hr.make C us (ks.zip ws)) (J.env0.make C us (ks.zip ws)) (hb.to _ _ ws J.kIn n1 (rz.length.symm.trans l2)) (hb.rel ra rz) q
  refine wpAny_call (make_map (f := f) I.kIn Mc.makes Mc.init (beq_iff_eq.mp Mc.fn) (codeAny_mono z fun res s' y => ?_))
  match res, y with
  | .error e, y => exact hx pins _ _ e s' J y
  | .ok (.ret u), y =>
    rcases J.after y with ⟨v, H3, J3, rv, hv, q3⟩
    cases hv
    exact ⟨rv, V.ref (m + 1), H3, J3, rfl, q3⟩
  | .ok .next, y => exact y.elim
  | .ok .brk, y => exact y.elim
  | .ok .cont, y => exact y.elim
theorem de_makeK {k n m : Nat} {x : Str} {cl : String} {A : Ar} {g : IM} {f : Addr} {fd : FuncData} {ps ks : List Str} (Mc : Mk X.K (c.C cl) f) (F : FnOk X.prog X.w X.K X.mg X.base (L2N.CX X.prog X.w) k f fd ps (SpI X.K c.C c.N cl A g)) (hb : KBn X.K fd ps (n + 1) ks (· ++ ·) (· ++ ·)) (hl : ks.length = m) (hK : c.K = X.K) (hr : Room (k + 1) X.A) (hg : Gl X x) (hm : X.mg x = some (.ref (c.C cl))) (tk : L2N.Takes X W)
    (ha : DA X c W (e :: es) mr) (hkw : DK X c W kws mk) (hall : (backToKw pos (keywordEach kws X.env)).all (·.1.isSome) = true := by rfl) (hks : (backToKw pos (keywordEach kws X.env)).filterMap (·.1) = ks := by rfl) (hdb : (x == ("__debug__" : Str)) = false := by decide)
    (he : starEach (e :: es) X.env = (false, eval e X.env) :: starEach es X.env := by rfl) (hpl : ((backTo pos (starEach (e :: es) X.env)).any (·.1) || (backToKw pos (keywordEach kws X.env)).any (·.1.isNone)) = false := by rfl) :
    DE X c W (.Call (.Name x p) (e :: es) kws pos) (eMake cl A g (aApp n m mr mk)) := by
  subst hl
  refine ⟨fun pins s σ H Q I h => ?_⟩
  obtain ⟨M, ρ, G, env, R, q⟩ := h
  refine wpAny_Call_Name_kw (ld_glob I hg hm ?_ hdb)
  have t0 := app_split (α := Unit) R q
  refine PySem.W.callWith_KW (h₀ := X.base) I.ok.mod.kin Mc.kp hall (thn (PA.run ha pos pins s σ H _ I t0) fun us s1 ⟨vs, H1, I1, r, q1⟩ => ?_) hpl he
  refine thn (PK.run hkw pos pins s1 σ H1 _ I1 q1) fun ws s2 ⟨zs, H2, I2, rz, l1, l2, ρ2, G2, es2, s3, r3, g3, q3⟩ => ⟨I2.kIn, ?_⟩
  rw [hks]
  refine run_makeKA Mc F hr hb (L2N.passAt tk σ) I2 r rz l1 l2 fun x dx hx hd hne => ?_
  rw [← hK]
  exact spi_of s3 r3 q3 hx hd hne
end
/-! ### super().m(.., k = v) -/
/-! ### super().__init__(.., k = v) -/
end DL
set_option Elab.async false
set_option linter.all false
set_option maxRecDepth 100000
set_option maxHeartbeats 4000000
/-! own truth in a test; texts in a tuple of texts. -/
namespace DL
open PySem PySem.Calls PySem.Spec L2 PyProof.Rows StX ClX
def truO (cl : String) (A : Ar) (g : FM) : EV → GS → Option (Bool × GS) := fun e G => match e with
  | .d (.ins k fs) => if k = cl ∧ A 1 = true then (match g [.d (.ins k fs)] G with
    | .ok (.d (.bl b)) G' => some (b, G')
    | _ => none) else none
  | _ => none
end DL
set_option Elab.async false
set_option linter.all false
set_option maxRecDepth 100000
set_option maxHeartbeats 4000000
/-! what a printed text says of defs with keyword-only parameters, of an __init__ that says super(). -/
namespace DL
open PySem L2 PyProof.Rows StX ClX NdefX
section
variable {P : Program} {w : World} {K : PySem.W.Frag} {mg : Str → Option Value} {base : Heap} {C : String → Addr} {N : String → List Str}
/-- an __init__, every parameter bound -/
theorem fnoi_of {x qual s1 : Str} {st : Stmt} {f : Addr} {fd : FuncData} {Nm ps : List Str} {k : Nat} {cl : String} {m : SM} (F : Fun K x qual st f fd) (S : FnScope Nm (s1 :: ps) (defScope st))
    (hb : ∀ (cdv : Value) (A : Around) (outer : List Env) (s : Shared) (H : Hp) (E : XK) (B : Addr → Prop) (x : Addr), Room k (A.deeper (envOfC qual (defScope st) s.heap.objs.size f cdv)) →
      DSs (cxOf (L2N.CX P w) P w K mg base Nm qual (defScope st) f cdv A outer s H E) ⟨K, C, N, B, x, 0⟩ (fun cls d _ H => E cls d H) (defBody st) m) : FnOk P w K mg base (L2N.CX P w) (k + 1) f fd (s1 :: ps) (SpI K C N cl (arN ps.length) (runI Nm.length cl m)) := by
  have hlN : (s1 :: ps).length ≤ Nm.length := by have := congrArg List.length S.pre; rw [List.length_take] at this; omega
  obtain ⟨oc, od, kV, doc, pm, an, cdv, ct, osl, rfl, lk, hcd⟩ := F.ex
  refine fn_of lk hcd S (fun vs H Q E ⟨x, rest, e, hl, _⟩ => by rw [e]; simpa [arN] using hl) fun A outer s H vs Q E hr hsp => ?_
  obtain ⟨x, rest, rfl, hl, B, ρ, G, es, dx, s0, r, hx, hB, q⟩ := hsp
  have hl' : rest.length = ps.length := by simpa [arN] using hl
  refine ⟨_, hb cdv A outer s H E B x hr, (· = x), ρ, G, envI Nm.length cl es, rl_init (c := ⟨K, C, N, B, x, 0⟩) (Nm := Nm) s0 r hx (by rw [hl']; exact hlN), ?_⟩
  refine sq_init (c := ⟨K, C, N, B, x, 0⟩) (k := cl) ?_
  unfold IQ
  unfold runI at q
  cases ho : retI cl (m (envI Nm.length cl es) G) with
  | ok fs G' => rw [ho] at q; exact q
  | er c2 fs G' => rw [ho] at q; exact q
  | st => rw [ho] at q; exact q
theorem _root_.L2.Fun.kbn {x qual : Str} {st : Stmt} {f : Addr} {fd : FuncData} {ps ks : List Str} {n : Nat} (F : Fun K x qual st f fd)
    (h : ∀ (kV doc pm : Value) (an : Option Addr) (cdv ct : Value) (us ws : List Value), us.length = n → ws.length = ks.length → bindArgs (PySem.W.fnOf x qual (defArgs st) (defBody st) (defScope st) .none kV doc pm an cdv ct) ⟨us, ks.zip ws⟩ = pure (ps.zip (us ++ ws))) : KBn K fd ps n ks (· ++ ·) (· ++ ·) := by
  obtain ⟨oc, od, kV, doc, pm, an, cdv, ct, osl, rfl, lk, hcd⟩ := F.ex
  exact ⟨fun s us ws _ l1 l2 => .of_eq (h kV doc pm an cdv ct us ws l1 l2), fun r1 r2 => r1.append r2⟩
end
end DL
set_option Elab.async false
set_option linter.all false
set_option maxRecDepth 100000
set_option maxHeartbeats 4000000
namespace DL
open PySem L2 PyProof.Rows StX ClX NdefX
end DL
set_option Elab.async false
set_option linter.all false
set_option maxRecDepth 100000
set_option maxHeartbeats 4000000
/-! tuples cut and joined; == of own classes that share their __eq__, with a plain value at the right -/
namespace DL
open PySem L2 PyProof.Rows StX ClX NdefX
section
variable {X : Cx} {c : RC} {W : WX} {e : Expr} {me : EM} {pos p2 : Pos} {M : Addr → Prop} {ρ : List Addr} {σ : L2.St} {H : Hp} {G : GS} {lv : Nat} {A : Ar} {g : FM} {f : Addr}
def eSlT (m : EM) (lo hi : OM) : EM := fun env G => (m env G).bind fun x G1 => (lo env G1).bind fun l G2 => (hi env G2).bind fun h G3 => match x with
  | .d (.tup xs) => .ok (.d (.tup (cutL xs l h))) G3
  | _ => .st
theorem all2_app {α β : Type} {R : α → β → Prop} : ∀ {xs : List α} {ys : List β} {us : List α} {vs : List β}, All2 R xs ys → All2 R us vs → All2 R (xs ++ us) (ys ++ vs)
  | _, _, _, _, .nil, k => k
  | _, _, _, _, .cons h t, k => .cons h (all2_app t k)
end
end DL
set_option Elab.async false
set_option linter.all false
set_option maxRecDepth 100000
set_option maxHeartbeats 4000000
/-! == of tuples that hold own instances -/
namespace DL
open PySem PySem.Calls PySem.Spec L2 PyProof.Rows StX ClX NdefX
end DL
set_option Elab.async false
set_option linter.all false
set_option maxRecDepth 100000
set_option maxHeartbeats 4000000
namespace DL
open PySem L2 PyProof.Rows StX ClX
/-! ### the frame's own lists -/
section
variable {X : Cx} {c : RC} {W : WX} {e o a : Expr} {es : List Expr} {sts : List Stmt} {me mi : EM} {mr : AM} {mb : SM} {pos p p2 apos : Pos} {M : Addr → Prop} {ρ : List Addr} {σ : L2.St} {H : Hp} {G : GS} {env : En}
/-- from here on the list is read alone -/
def frzE (i : Nat) (env : En) : En := match (env[i]? : Option Sl) with
  | some (.own (.lst xs)) => env.set i (.ev (.d (.lst xs)))
  | _ => env
theorem rl_frz (i : Nat) (R : Rl c M ρ G env σ H) : ∃ M', (∀ a, M' a → M a) ∧ Rl c M' ρ G (frzE i env) σ H := by
  unfold frzE
  split
  rotate_left
  · exact ⟨M, fun _ h => h, R⟩
  rename_i xs hi
  obtain ⟨oa, h1, h2⟩ := R.e
  obtain ⟨hσ, ⟨hm, hB⟩, vs, hH, rr⟩ := h1 i _ hi
  have hr : oa i ∉ ρ := fun z => (R.s.sep _ z).2 hm
  have cv : Cv c M c (fun a => M a ∧ a ≠ oa i) ρ := ⟨rfl, rfl, rfl, fun a h => ⟨h.1, fun z => h.2.1 z.1, h.2.2⟩⟩
  have gr : Gr M ρ H (fun a => M a ∧ a ≠ oa i) ρ H := ⟨fun _ _ e _ _ => e, fun _ o e => ⟨o, e⟩, ⟨[], by simp, by simp⟩, fun _ h => .inl h.1⟩
  refine ⟨fun a => M a ∧ a ≠ oa i, fun _ h => h.1, R.s.cv cv (fun a h => ⟨(R.s.sep a h).1, fun z => (R.s.sep a h).2 z.1⟩) (fun a z => R.s.mt a z.1) R.s.bt, by simpa using R.len, oa, fun j sl e => ?_, fun j k o u e1 e2 e3 => ?_⟩
  · rcases env_set e with ⟨rfl, rfl⟩ | ⟨hj, e⟩
    · exact ⟨_, hσ, Rep.lst (.inl ⟨⟨hB, fun z => z.2 rfl, hr⟩, .inl hH⟩) (reps_grow rr gr)⟩
    · have h := h1 j sl e
      match sl, h with
      | .no, _ => trivial
      | .ev e, ⟨v, a, b⟩ => exact ⟨v, a, b.grow gr⟩
      | .own (.lst ys), ⟨a, b, vs, d, f⟩ => exact ⟨a, ⟨⟨b.1, fun z => hj (h2 j i _ _ e hi z)⟩, b.2⟩, vs, d, reps_grow f gr⟩
      | .own (.ins k fs), ⟨a, o2, b, dx, gs, d, f⟩ => exact ⟨a, o2, ⟨b, fun z => hj (h2 j i _ _ e hi (o2.trans z))⟩, dx, gs, d, flds_grow f gr⟩
      | .exn k fs, ⟨a, b⟩ => exact ⟨a, b.grow gr⟩
  · rcases env_set e1 with ⟨_, z⟩ | ⟨_, e1⟩
    · cases z
    · rcases env_set e2 with ⟨_, z⟩ | ⟨_, e2⟩
      · cases z
      · exact h2 j k _ _ e1 e2 e3
def sFrz (i : Nat) (m : SM) : SM := fun env G => m (frzE i env) G
theorem dss_frz {m : SM} {i : Nat} (h : DSs X c W sts m) : DSs X c W sts (sFrz i m) := by
  refine pss_imp h fun Dn σ H q => ?_
  obtain ⟨M, ρ, G, env, R, q⟩ := q
  obtain ⟨M', hM, R'⟩ := rl_frz i R
  exact ⟨M', ρ, G, _, R', SQ.grow q ⟨fun _ _ e _ _ => e, fun _ o e => ⟨o, e⟩, ⟨[], by simp, by simp⟩, fun _ h => .inl (hM _ h)⟩⟩
/-- the value is a new list, that nobody else has -/
def RF (c : RC) (ρ0 : List Addr) (H0 : Hp) : (Addr → Prop) → List Addr → Hp → List D × GS → V → Prop := fun M ρ' H' p v => ∃ a vs, v = .ref a ∧ ¬ c.B a ∧ H0 a = none ∧ Ge M ρ0 H0 ρ' H' ∧ H' a = some (.lst vs) ∧ All2 (Rep c (fun b => M b ∨ b = a) ρ' H') p.1 vs ∧ SR c (fun b => M b ∨ b = a) ρ' p.2 H'
abbrev FM' := En → GS → Out (List D × GS)
def tF (c : RC) (W : WX) (m : FM') : TE := fun σ H Q => ∃ M ρ G env, Rl c M ρ G env σ H ∧ TQ (RF c ρ H) c W M ρ σ H (m env G) Q
def DF (X : Cx) (c : RC) (W : WX) (e : Expr) (m : FM') : Prop := PE X e (tF c W m)
/-- the frame has it as its own -/
theorem rl_own {i : Nat} {M : Addr → Prop} {ρ' : List Addr} {H' : Hp} {G' : GS} {a : Addr} {xs : List D} {vs : List V} (R : Rl c M ρ G env σ H) (g : Ge M ρ H ρ' H') (hB : ¬ c.B a) (h0 : H a = none) (hH : H' a = some (.lst vs)) (rr : All2 (Rep c (fun b => M b ∨ b = a) ρ' H') xs vs) (s : SR c (fun b => M b ∨ b = a) ρ' G' H') :
    Gr M ρ H (fun b => M b ∨ b = a) ρ' H' ∧ Rl c (fun b => M b ∨ b = a) ρ' G' (env.set i (.own (.lst xs))) (σ.set i (some (.ref a))) H' := by
  have gr : Gr M ρ H (fun b => M b ∨ b = a) ρ' H' := ⟨fun b o e n _ => g.keep b o e n, g.there, g.grow, fun b z => z.elim .inl fun e => .inr (by rw [e]; exact h0)⟩
  have nr : ∀ b, M b → b ∉ ρ := fun b hm hr => (R.s.sep b hr).2 hm
  have na : ∀ b, M b → b ≠ a := fun b hm e => R.s.mt b hm (by rw [e]; exact h0)
  obtain ⟨oa, h1, h2⟩ := R.e
  have mo : ∀ j o, env[j]? = some (.own o) → M (oa j) := fun j o e => by
    have h := h1 j _ e
    match o, h with
    | .lst ys, ⟨_, b, _⟩ => exact b.1
    | .ins k fs, ⟨_, o2, b, _⟩ => rw [o2]; exact b
  obtain ⟨ob, hb1, hb2⟩ : ∃ ob : Nat → Addr, ob i = a ∧ ∀ j, j ≠ i → ob j = oa j := ⟨fun j => if j = i then a else oa j, if_pos rfl, fun j h => if_neg h⟩
  refine ⟨gr, s, by simpa using R.len, ob, fun j sl e => ?_, fun j k o u e1 e2 e3 => ?_⟩
  · rcases env_set e with ⟨rfl, rfl⟩ | ⟨hj, e⟩
    · have hl : j < env.length := by
        have := (List.getElem?_eq_some_iff.mp e).1
        rwa [List.length_set] at this
      refine ⟨?_, ?_, vs, ?_, rr⟩
      · rw [List.getElem?_set_self (Nat.lt_of_lt_of_le hl R.len), hb1]
      · rw [hb1]; exact ⟨.inr rfl, hB⟩
      · rw [hb1]; exact hH
    · have h := h1 j sl e
      have sg : (σ.set i (some (.ref a)))[j]? = σ[j]? := List.getElem?_set_ne (Ne.symm hj)
      match sl, h with
      | .no, _ => trivial
      | .ev e, ⟨v, x, b⟩ => exact ⟨v, by rw [sg]; exact x, b.grow gr⟩
      | .own (.lst ys), ⟨x, b, vs, d, f⟩ => exact ⟨by rw [sg, hb2 j hj]; exact x, by rw [hb2 j hj]; exact ⟨.inl b.1, b.2⟩, vs, by rw [hb2 j hj]; exact g.keep _ _ d (nr _ b.1), reps_grow f gr⟩
      | .own (.ins k fs), ⟨x, o2, b, dx, gs, d, f⟩ => exact ⟨by rw [sg]; exact x, by rw [hb2 j hj]; exact o2, .inl b, dx, gs, g.keep _ _ d (nr _ b), flds_grow f gr⟩
      | .exn k fs, ⟨x, b⟩ => exact ⟨by rw [sg]; exact x, b.grow gr⟩
  · rcases env_set e1 with ⟨hj, _⟩ | ⟨hj, e1⟩
    · rcases env_set e2 with ⟨hk, _⟩ | ⟨hk, e2⟩
      · rw [hj, hk]
      · rw [hj, hb1, hb2 k hk] at e3
        exact absurd e3.symm (na _ (mo k _ e2))
    · rcases env_set e2 with ⟨hk, _⟩ | ⟨hk, e2⟩
      · rw [hk, hb1, hb2 j hj] at e3
        exact absurd e3 (na _ (mo j _ e1))
      · rw [hb2 j hj, hb2 k hk] at e3
        exact h2 j k _ _ e1 e2 e3
def sOwn (i : Nat) (m : FM') : SM := fun env G => ofE (m env G) env fun p _ => .nx (env.set i (.own (.lst p.1))) p.2
/-- an expression ahead of the rest of a statement, its value new -/
theorem SQ.ofF {m : Out (List D × GS)} {k : List D × GS → GS → OutS} {Dn : Ends} (Rr : Rl c M ρ G env σ H) (h : SQ c W M ρ H (DL.ofE m env k) Dn) :
    TQ (RF c ρ H) c W M ρ σ H m (fun v H1 => ∃ ρ1 G1 e, Ge M ρ H ρ1 H1 ∧ RF c ρ H M ρ1 H1 e v ∧ SQ c W M ρ H (k e G1) Dn) := by
  cases m with
  | ok e G => exact fun v ρ1 H1 g s r => ⟨ρ1, G, e, g, r, h⟩
  | er cl fs G => exact fun dd gs ρ1 H1 g s e f => h M ρ1 σ H1 dd gs g.gr (Rr.ge g s) e f
  | st => exact h
theorem ds_own {m : FM'} {i : Nat} {x : Str} {pos' : Pos} (hN : X.N.Nodup) (hi : X.N[i]? = some x) (hx : Loc X.env.scope x) (he : DF X c W e m) (hs : swapsWith e (some (.Name x pos')) pos.line X.env = pure false := by rfl)
    (hf : X.fn x = true ∨ X.env.scope.names.lookup x = some .local := by first | exact .inl rfl | exact .inr rfl | assumption) : DS X c W (.Assign [.Name x pos'] e pos) (sOwn i m) := by
  refine ps_imp (ps_set hN hi hx he hs hf) fun Dn σ H q => ?_
  obtain ⟨M, ρ, G, env, R, q⟩ := q
  refine ⟨M, ρ, G, env, R, (SQ.ofF R q).imp fun v H1 ⟨ρ1, G1, e1, g1, r1, q1⟩ => ?_⟩
  obtain ⟨a, vs, rfl, hB, h0, g, hH, rr, s⟩ := r1
  obtain ⟨gr, R1⟩ := rl_own (i := i) R g hB h0 hH rr s
  exact q1 _ ρ1 _ H1 gr R1
/-- a new list at a free address -/
theorem rf_new {ρ1 : List Addr} {H1 : Hp} {G1 : GS} {ds : List D} {vs : List V} {a : Addr} (g : Ge M ρ H ρ1 H1) (s : SR c M ρ1 G1 H1) (rr : All2 (Rep c M ρ1 H1) ds vs) (ha : H1 a = none) : SR c M ρ1 G1 (upd H1 a (.lst vs)) ∧ Ge M ρ H ρ1 (upd H1 a (.lst vs)) ∧ RF c ρ H M ρ1 (upd H1 a (.lst vs)) (ds, G1) (.ref a) := by
  have sm : Same H1 (upd H1 a (.lst vs)) := same_upd ha
  have fx := s.fresh ha
  have h0 : H a = none := by
    cases e : H a with
    | none => rfl
    | some o => obtain ⟨o', q⟩ := g.there a o e; rw [ha] at q; cases q
  have g1 : Gr M ρ1 H1 (fun b => M b ∨ b = a) ρ1 (upd H1 a (.lst vs)) := ⟨fun b o q _ _ => sm b o q, fun b o q => ⟨o, sm b o q⟩, ⟨[], by simp, by simp⟩, fun b z => z.elim .inl fun e => .inr (by rw [e]; exact ha)⟩
  refine ⟨s.same sm, g.trans (Ge.same sm), a, vs, rfl, fx.1, h0, g.trans (Ge.same sm), upd_same, reps_grow rr g1, s.len, s.nd, fun b hb => ⟨(s.sep b hb).1, fun z => z.elim (s.sep b hb).2 fun e => fx.2.2 (by rw [← e]; exact hb)⟩, fun i xs e => ?_, fun b z => z.elim (fun z => same_ne sm (s.mt b z)) fun e => by rw [e, upd_same]; simp, fun b z => same_ne sm (s.bt b z)⟩
  obtain ⟨b, us, p, q, r⟩ := s.at_ i xs e
  exact ⟨b, us, p, sm _ _ q, repEs_grow r g1⟩
def nLst (r : AM) : FM' := fun env G => (r env G).bind fun xs G1 => match datas xs with
  | some ds => if ds.length ≤ lstMax then .ok (ds, G1) G1 else .st
  | none => .st
theorem df_lst (ha : DA X c W es mr) : DF X c W (.List es pos) (nLst mr) := by
  refine pe_imp (pe_lst ha) fun σ H Q q => ?_
  obtain ⟨M, ρ, G, env, R, q⟩ := q
  refine ⟨M, ρ, G, env, R, ?_⟩
  unfold nLst at q
  cases hm : mr env G with
  | st => rw [hm] at q; exact q
  | er cl fs G1 => rw [hm] at q; exact q
  | ok xs G1 =>
    rw [hm] at q
    intro v ρ1 H1 g1 s1 r1
    have q1 : TQ (RF c ρ H) c W M ρ σ H (match datas xs with
      | some ds => if ds.length ≤ lstMax then .ok (ds, G1) G1 else .st
      | none => .st) Q := q
    split at q1
    · rename_i ds hd
      split at q1
      · rename_i hl
        have rr := datas_rep hd r1
        refine ⟨by rw [← rr.length]; exact lst_ok hl, fun p hp => ?_⟩
        obtain ⟨s2, g2, rf⟩ := rf_new g1 s1 rr hp
        exact q1 (.ref p) ρ1 _ g2 s2 rf
      · exact q1.elim
    · exact q1.elim
def nLc (k : Nat) (vs : List Nat) (mr : LM) (mt : BM) (me : EM) : FM' := eLcG (fun ys G => .ok (ys, G) G) k vs mr mt me
end
end DL
set_option Elab.async false
set_option linter.all false
set_option maxRecDepth 100000
set_option maxHeartbeats 4000000
namespace DL
open PySem L2 PyProof.Rows StX ClX
def oL (i : Nat) (env : En) : Option (List D) := match (env[i]? : Option Sl) with
  | some (.own (.lst xs)) => some xs
  | _ => none
theorem oL_at {i : Nat} {env : En} {xs : List D} (h : oL i env = some xs) : env[i]? = some (.own (.lst xs)) := by
  unfold oL at h
  split at h
  · rename_i ys e; cases h; exact e
  · cases h
section
variable {X : Cx} {c : RC} {W : WX} {e o a : Expr} {es : List Expr} {sts : List Stmt} {me mi : EM} {mr : AM} {mb : SM} {pos p p2 apos : Pos} {M : Addr → Prop} {ρ : List Addr} {σ : L2.St} {H : Hp} {G : GS} {env : En}
/-- the frame's own list, and how it is written -/
theorem rl_put {i : Nat} {xs : List D} (R : Rl c M ρ G env σ H) (hi : oL i env = some xs) : ∃ l vs, σ[i]? = some (some (V.ref l)) ∧ M l ∧ l ∉ ρ ∧ H l = some (.lst vs) ∧ All2 (Rep c M ρ H) xs vs ∧
    ∀ (ρ1 : List Addr) (G1 : GS) (H1 : Hp) (ys : List D) (us ws : List V), Rl c M ρ1 G1 env σ H1 → H1 l = some (.lst ws) → All2 (Rep c M ρ1 H1) ys us → Gr M ρ1 H1 M ρ1 (upd H1 l (.lst us)) ∧ Rl c M ρ1 G1 (env.set i (.own (.lst ys))) σ (upd H1 l (.lst us)) := by
  have hi := oL_at hi
  obtain ⟨oa, h1, h2⟩ := R.e
  obtain ⟨hσ, ⟨hm, hB⟩, vs, hH, rr⟩ := h1 i _ hi
  refine ⟨oa i, vs, hσ, hm, fun z => (R.s.sep _ z).2 hm, hH, rr, fun ρ1 G1 H1 ys us ws R1 hw ry => ?_⟩
  have gw := gr_own (ρ := ρ1) (o := .lst us) hm hw
  obtain ⟨ob, k1, k2⟩ := R1.e
  have eo : ob i = oa i := by
    obtain ⟨hσ', _⟩ := k1 i _ hi
    rw [hσ] at hσ'
    injection hσ' with z
    injection z with z
    injection z with z
    exact z.symm
  refine ⟨gw, R1.s.own hm hw, by simpa using R1.len, ob, fun j sl e => ?_, fun j k o u e1 e2 e3 => ?_⟩
  · rcases env_set e with ⟨rfl, rfl⟩ | ⟨hj, e⟩
    · obtain ⟨hσ', hmB, _⟩ := k1 j _ hi
      exact ⟨hσ', hmB, us, by rw [eo]; exact upd_same, reps_grow ry gw⟩
    · have h := k1 j sl e
      match sl, h with
      | .no, _ => trivial
      | .ev e, ⟨v, x, b⟩ => exact ⟨v, x, b.grow gw⟩
      | .own (.lst zs), ⟨x, b, vs, d, f⟩ => exact ⟨x, b, vs, by rw [upd_ne (fun z => hj (k2 j i _ _ e hi (z.trans eo.symm)))]; exact d, reps_grow f gw⟩
      | .own (.ins k fs), ⟨x, o2, b, dx, gs, d, f⟩ => exact ⟨x, o2, b, dx, gs, by rw [upd_ne (fun z => hj (k2 j i _ _ e hi ((o2.trans z).trans eo.symm)))]; exact d, flds_grow f gw⟩
      | .exn k fs, ⟨x, b⟩ => exact ⟨x, b.grow gw⟩
  · rcases env_set e1 with ⟨hj, _⟩ | ⟨hj, e1⟩
    · rcases env_set e2 with ⟨hk, _⟩ | ⟨hk, e2⟩
      · rw [hj, hk]
      · rw [hj] at e3 ⊢; exact k2 i k _ _ hi e2 e3
    · rcases env_set e2 with ⟨hk, _⟩ | ⟨hk, e2⟩
      · rw [hk] at e3 ⊢; exact k2 j i _ _ e1 hi e3
      · exact k2 j k _ _ e1 e2 e3
/-- x.append(e) -/
def sApp (i : Nat) (m : EM) : SM := fun env G => match oL i env with
  | some xs => ofE (m env G) env fun e G1 => (match e with
    | .d x => if xs.length < lstMax then .nx (env.set i (.own (.lst (xs ++ [x])))) G1 else .st
    | _ => .st)
  | none => .st
/-- x[i] = e -/
def sOSub (i : Nat) (mi me : EM) : SM := fun env G => match oL i env with
  | some xs => ofE (me env G) env fun x G1 => ofE (mi env G1) env fun j G2 => (match x, j with
    | .d x, .d (.int j) => (match ixN xs.length j with
      | some j => .nx (env.set i (.own (.lst (xs.set j x)))) G2
      | none => .st)
    | _, _ => .st)
  | none => .st
theorem ds_osub {i : Nat} {x : Str} (hv : PE X (.Name x p2) (tVar i)) (hi : DE X c W a mi) (he : DE X c W e me)
    (ha : ∀ v, assign (.Subscript (.Name x p2) a p) X.env v = (do let ov ← holding [v] (eval (.Name x p2) X.env); let iv ← holding [v, ov] (eval a X.env); standAt p; holding [v, ov, iv] (setItem ov iv v); release [v, ov, iv] []) := by intro _; rfl)
    (hs : swapsWithSole [.Subscript (.Name x p2) a p] e pos.line X.env = pure false := by rfl) (hw : swappedStores [.Subscript (.Name x p2) a p] e X.env = pure none := by rfl)
    (h1 : (assignEach [.Subscript (.Name x p2) a p] X.env).map (·.2) = [assign (.Subscript (.Name x p2) a p) X.env] := by rfl) : DS X c W (.Assign [.Subscript (.Name x p2) a p] e pos) (sOSub i mi me) := by
  refine ps_imp (ps_asg he (pg_sub hv hi set_list ha) hs hw h1) fun Dn σ H q => ?_
  obtain ⟨M, ρ, G, env, R, q⟩ := q
  unfold sOSub at q
  split at q
  rotate_left
  · exact q.elim
  rename_i xs ho
  obtain ⟨l, vs, hσ, hm, hr, hH, rr, put⟩ := rl_put R ho
  refine ⟨M, ρ, G, env, R, (SQ.ofE (R := RE c) R q).imp fun v H1 ⟨ρ1, G1, x1, g1, R1, r1, q1⟩ => ?_⟩
  refine ⟨.ref l, hσ, M, ρ1, G1, env, R1, (SQ.ofE (R := RE c) R1 q1).imp fun iv H2 ⟨ρ2, G2, j2, g2, R2, r2, q2⟩ => ?_⟩
  have r1' := r1.grow g2.gr
  cases x1 with
  | o k => exact (show False from q2).elim
  | d z =>
    cases j2 with
    | o k => exact (show False from q2).elim
    | d w =>
      cases w with
      | int j =>
        have q3 : SQ c W M ρ2 H2 (match ixN xs.length j with
          | some j => OutS.nx (env.set i (.own (.lst (xs.set j z)))) G2
          | none => .st) Dn := q2
        split at q3
        · rename_i n hn
          have h2 := (g1.trans g2).keep _ _ hH hr
          have rr2 := reps_grow rr (g1.trans g2).gr
          obtain ⟨gw, R3⟩ := put ρ2 G2 H2 (xs.set n z) (vs.set n v) vs R2 h2 (All2.set (R := Rep c M ρ2 H2) r1' n rr2)
          cases Rep.of_int r2
          exact ⟨l, vs, j, n, rfl, rfl, h2, by rw [← rr.length]; exact hn, q3 M ρ2 σ _ gw R3⟩
        · exact q3.elim
      | _ => exact (show False from q2).elim
/-- x[e] -/
def eOIx (i : Nat) (mi : EM) : EM := fun env G => match oL i env with
  | some xs => (mi env G).bind fun j G1 => (match j with
    | .d (.int j) => (match atI xs j with
      | some x => .ok (.d x) G1
      | none => .st)
    | _ => .st)
  | none => .st
theorem de_oix {i : Nat} {x : Str} (hK : c.K = X.K) (hv : PE X (.Name x p2) (tVar i)) (hi : DE X c W a mi) (hs : PlainIx a := by intro _ _; rfl) : DE X c W (.Subscript (.Name x p2) a pos) (eOIx i mi) := by
  refine pe_imp (pe_ix ix_list hv hi hs) fun σ H Q q => ?_
  obtain ⟨M, ρ, G, env, R, q⟩ := q
  unfold eOIx at q
  split at q
  rotate_left
  · exact q.elim
  rename_i xs ho
  obtain ⟨l, vs, hσ, hm, hr, hH, rr, put⟩ := rl_put R ho
  refine ⟨.ref l, hσ, M, ρ, G, env, R, (TQ.bind (R := RE c) q).imp fun v H1 ⟨ρ1, G1, e1, g1, s1, r1, q1⟩ => ?_⟩
  split at q1
  · rename_i j
    split at q1
    · rename_i z hz
      cases Rep.of_int r1
      obtain ⟨w, hw, rw'⟩ := atI_all2 (reps_grow rr g1.gr) hz
      exact ⟨l, vs, j, w, rfl, rfl, SqL.of (g1.keep _ _ hH hr), hw, q1.ok s1 rw'⟩
    · exact q1.elim
  · exact q1.elim
/-- len(x) -/
def eOLen (i : Nat) : EM := fun env G => match oL i env with
  | some xs => .ok (.d (.int xs.length)) G
  | none => .st
/-- list(e), its value new -/
def lOf : List EV → Option (List D)
  | [.d (.lst ds)] => some ds
  | [.d (.tup ds)] => some ds
  | _ => none
def nList (r : AM) : FM' := fun env G => (r env G).bind fun xs G1 => match lOf xs with
  | some ds => .ok (ds, G1) G1
  | none => .st
end
end DL
set_option Elab.async false
set_option linter.all false
set_option maxRecDepth 100000
set_option maxHeartbeats 4000000
/-! texts: {x!r}, {x} of an own class -/
namespace DL
open PySem PySem.Calls PySem.Spec L2 PyProof.Rows StX ClX
section
variable {P : Program} {w : World} {K : PySem.W.Frag} {mg : Str → Option Value} {base : Heap} {C : String → Addr} {N : String → List Str} {j k : Nat} {f : Addr} {sp : Sp} {CX : CXT} {m : Str} {cl : String} {A : Ar} {g : FM}
theorem fnr_up (F : FnR P w K mg base CX j f sp) (h : j ≤ k) : FnR P w K mg base CX k f sp := fun A outer s H us vs Q E hr => F A outer s H us vs Q E (hr.mono h)
theorem HasM.up (h : HasM P w K mg base C N j m cl A g) (hk : j ≤ k) : HasM P w K mg base C N k m cl A g := ⟨h.cl, h.no, let ⟨f, a, b⟩ := h.fn; ⟨f, a, fnr_up b hk⟩⟩
end
end DL
set_option Elab.async false
set_option linter.all false
set_option maxRecDepth 100000
set_option maxHeartbeats 4000000
/-! keyword-only defaults left out, methods and defs called with keywords, properties -/
namespace DL
open PySem L2 PyProof.Rows StX ClX
/-- constants -/
abbrev CstR : D → V → Prop := fun d v => ∀ (c : RC) (M : Addr → Prop) (ρ : List Addr) (H : Hp), Rep c M ρ H d v
theorem cst_bl {b : Bool} : CstR (.bl b) (.bl b) := fun _ _ _ _ => .bl
def dflF (ds : List D) (g : FM) : FM := fun es G => g (es ++ ds.map EV.d) G
def dflI (ds : List D) (g : IM) : IM := fun es G => g (es ++ ds.map EV.d) G
theorem cst_all {c : RC} {M : Addr → Prop} {ρ : List Addr} {H : Hp} : ∀ {ds : List D} {vs : List V}, All2 CstR ds vs → All2 (RepE c M ρ H) (ds.map EV.d) vs
  | _, _, .nil => .nil
  | _, _, .cons r t => .cons (r c M ρ H) (cst_all t)
/-- the defaults of keyword-only parameters, when none of these is given -/
theorem binds_kw {K : PySem.W.Frag} {fd : FuncData} {ps : List Str} {kws : List (Str × V)} {D : Addr} (hq : ∀ q ∈ kws, ∃ u, PySem.W.nsIn K D q.1 = some (some u) ∧ RelV q.2 u) (n : Nat) (hn : n + kws.length = ps.length)
    (h : ∀ (us ks : List Value), us.length = n → ks.length = kws.length → KwChain D ((kws.map (·.1)).zip ks) (bindArgs fd ⟨us, []⟩) (ps.zip (us ++ ks))) : ∃ ds, Vals (kws.map (·.2)) ds ∧ Binds K fd ps ds := by
  obtain ⟨ks, hl, rk, hks⟩ := kwd_vals hq
  refine ⟨ks, rk, fun s us X hlen => ?_⟩
  have l2 : us.length = n := by
    rw [List.length_append, hl] at hlen
    omega
  exact BindsTo.of_looks fun M => KwChain.looks X hks (h us ks l2 hl)
section
variable {P : Program} {w : World} {K : PySem.W.Frag} {mg : Str → Option Value} {base : Heap} {C : String → Addr} {N : String → List Str} {k n m : Nat} {f : Addr} {fd : FuncData} {ps : List Str} {g : FM} {gi : IM} {dds : List D} {dvs : List V} {cl : String}
theorem fni_dfl (F : FnOk P w K mg base (L2N.CX P w) k f fd ps (SpI K C N cl (arN m) gi)) (b : ∃ ds, Vals dvs ds ∧ Binds K fd ps ds) (hd : All2 CstR dds dvs) (hm : n + dds.length = m) : FnI P w K mg base C N k f cl (arN n) (dflI dds gi) := by
  obtain ⟨ds, rd, bd⟩ := b
  refine FnR.imp (F.raw bd rd) fun vs H Q E ⟨x, rest, hv, hl, B, ρ, G, es, dx, s0, r, hx, hB, q⟩ => ?_
  have hl' : rest.length = n := by simpa [arN] using hl
  subst hv
  refine ⟨x, rest ++ dvs, rfl, ?_, B, ρ, G, es ++ dds.map EV.d, dx, s0, All2.append r (cst_all hd), hx, hB, q⟩
  have := hd.length
  simp [arN]
  omega
end
section
variable {X : Cx} {c : RC} {W : WX} {e o : Expr} {es : List Expr} {kws : List Keyword} {me mo : EM} {mr mk : AM} {pos p apos : Pos} {M : Addr → Prop} {ρ : List Addr} {σ : L2.St} {H : Hp} {G : GS} {env : En} {pl : Sem Bool} {lv : Nat} {m : Str}
/-- o.m(e, .., k = v, ..) -/
def eMethK (cl : String) (A : Ar) (g : FM) (mo : EM) (r : AM) : EM := fun env G => (mo env G).bind fun x G1 => match x with
  | .d (.ins k fs) => if k = cl then (r env G1).bind fun xs G2 => if A (xs.length + 1) = true then g (.d (.ins k fs) :: xs) G2 else .st else .st
  | _ => .st
/-- o.p, a property -/
def eProp (cl : String) (A : Ar) (g : FM) (mo : EM) : EM := fun env G => (mo env G).bind fun x G1 => match x with
  | .d (.ins k fs) => if k = cl ∧ A 1 = true then lift (toOpt (g [.d (.ins k fs)] G1)) else .st
  | _ => .st
end
end DL
set_option Elab.async false
set_option linter.all false
set_option maxRecDepth 100000
set_option maxHeartbeats 4000000
/-! try with several clauses `except C as e`: each error that can come is told with the clause that takes it -/
namespace DL
open PySem L2 PyProof.Rows
abbrev TEnt := String × Nat × SM
/-- try: mb, the errors that can come with slot and suite -/
def sTryN (T : List TEnt) (mb : SM) : SM := fun env G => match mb env G with
  | .er k fs env1 G1 => match T.find? fun t => t.1 == k with
    | some t => if env1.all plainS = true ∧ t.2.1 < env1.length then afterO t.2.1 (t.2.2 (env1.set t.2.1 (.exn k fs)) G1) else .st
    | none => .st
  | o => o
end DL
set_option Elab.async false
set_option linter.all false
set_option maxRecDepth 100000
set_option maxHeartbeats 4000000
/-! list + list; `not x` of an own class as a value -/
namespace DL
open PySem L2 PyProof.Rows StX ClX
section
variable {X : Cx} {c : RC} {W : WX} {e : Expr} {me : EM} {cl : String} {A : Ar} {g : FM} {f : Addr} {lv : Nat} {pos : Pos}
/-- not x, x of an own class with its own truth -/
def eNotO (cl : String) (A : Ar) (g : FM) (me : EM) : EM := fun env G => (me env G).bind fun x G1 => match truO cl A g x G1 with
  | some (b, G2) => .ok (.d (.bl (!b))) G2
  | none => .st
end
end DL
set_option Elab.async false
set_option linter.all false
set_option maxRecDepth 100000
set_option maxHeartbeats 4000000
/-! texts by signs: iterated, asked for a sign, sliced, indexed; an own list asked for a text -/
namespace DL
open PySem L2 PyProof.Rows StX ClX
end DL
set_option Elab.async false
set_option linter.all false
set_option maxRecDepth 100000
set_option maxHeartbeats 4000000
/-! cls(*xs) -/
namespace DL
open PySem L2 PyProof.Rows StX ClX
end DL
set_option Elab.async false
set_option linter.all false
set_option maxRecDepth 100000
set_option maxHeartbeats 4000000
/-! sorted of texts -/
namespace DL
open PySem PySem.Spec L2 PyProof.Rows StX ClX
end DL
set_option Elab.async false
set_option linter.all false
set_option maxRecDepth 100000
set_option maxHeartbeats 4000000
/-! sets of keys that can be walked: any kind of key -/
namespace DL
open PySem PySem.Spec L2 PyProof.Rows StX ClX
/-- one more key -/
def putL {K : Type} [DecidableEq K] (l : List K) (k : K) : List K := if k ∈ l then l else l ++ [k]
def ddp {K : Type} [DecidableEq K] (l : List K) : List K := l.foldl putL []
section
variable {P : Program} {w : World} {K : Type} [DecidableEq K] {knd : PySem.KeyKind P w K}
structure Ent (knd : PySem.KeyKind P w K) (k : K) (e : Int × Value) : Prop where
  is : knd.is k e.2 = true
  hash : e.1 = knd.hash k
  scan : e.2.scannable = true
/-- entries and a table for the keys l -/
structure KTab (knd : PySem.KeyKind P w K) (l : List K) (es : Array (Int × Value)) (t : SetTable) : Prop where
  ents : ∃ l0 : List K, l0.Perm l ∧ All2 (Ent knd) l0 es.toList
  nd : l.Nodup
  few : l.length < scanBound
  fits : t.fits es.size = true
  up : Ris t.place.toList
  led : w.params.followText "set-order" = true ∨ t.led = true
/-- the set at a -/
def KSet (knd : PySem.KeyKind P w K) (h : Heap) (a : Addr) (l : List K) : Prop := ∃ o es ep t, h.get? a = some o ∧ o.ExactSet ∧ o.data = .set es ep t ∧ KTab knd l es t
variable {l : List K} {es : Array (Int × Value)} {t : SetTable}
theorem KTab.size (T : KTab knd l es t) : es.size = l.length := by
  obtain ⟨l0, p, h⟩ := T.ents
  rw [← Array.length_toList, ← h.length, p.length_eq]
theorem KTab.plain (T : KTab knd l es t) (b : Bool) : KTab knd l es (if b = true then t else { t with plain := false }) := by
  cases b
  · exact ⟨T.ents, T.nd, T.few, SetTable.fits_plain_off T.fits, T.up, T.led⟩
  · exact T
variable {A : Around} {E : Value → Shared → Prop} {s : Shared} {a : Addr}
end
end DL
set_option Elab.async false
set_option linter.all false
set_option maxRecDepth 100000
set_option maxHeartbeats 4000000
/-! set comprehensions of ints and texts, sorted of such a set -/
namespace DL
open PySem PySem.Spec L2 PyProof.Rows StX ClX PpSet
/-- the set of the keys l at a, as a tracked thing -/
def KSO (P : Program) (w : World) (a : Addr) (l : List Key) : HO := .ext fun h => KSet (mixKind P w) h a l
end DL
set_option Elab.async false
set_option linter.all false
set_option maxRecDepth 100000
set_option maxHeartbeats 4000000
/-! sorted of a set of texts; a set comprehension inside sorted -/
namespace DL
open PySem PySem.Spec L2 PyProof.Rows StX ClX PpSet
end DL
set_option Elab.async false
set_option linter.all false
set_option maxRecDepth 100000
set_option maxHeartbeats 4000000
/-! sorted({text for x in xs if ..}) -/
namespace DL
open PySem L2 PyProof.Rows StX ClX
section
variable {X : Cx} {c : RC} {W : WX} {elt e tg : Expr} {ifs : List Expr} {mr : LM} {mt : BM} {me : EM} {pos p : Pos} {M : Addr → Prop} {ρ : List Addr} {σ : L2.St} {H : Hp} {G : GS} {scope : Scope} {own : List (Str × Nat)} {k : Nat} {P : Program} {w : World}
/-- while the new set at D grows -/
structure KcI (P : Program) (w : World) (c : RC) (M : Addr → Prop) (ρ1 : List Addr) (H1 : Hp) (D : Addr) (ρ' : List Addr) (G' : GS) (envw : En) (σw : L2.St) (H : Hp) (done : List Str) : Prop where
  g : Ge M ρ1 H1 ρ' H
  nd : D ∉ ρ'
  s : SR c (fun a => M a ∨ a = D) ρ' G' H
  len : envw.length ≤ σw.length
  e : ∃ oa : Nat → Addr, (∀ (i : Nat) (sl : Sl), envw[i]? = some sl → SlR c (fun a => M a ∨ a = D) ρ' H oa σw i sl) ∧ (∀ (i j : Nat) (o u : OW), envw[i]? = some (.own o) → envw[j]? = some (.own u) → oa i = oa j → i = j) ∧ ∀ (i : Nat) (o : OW), envw[i]? = some (.own o) → oa i ≠ D
  at_ : H D = some (KSO P w D ((ddp done).map Sum.inr))
theorem KcI.r {ρ1 : List Addr} {H1 : Hp} {D : Addr} {ρ' : List Addr} {G' : GS} {envw : En} {σw : L2.St} {done : List Str} (L : KcI P w c M ρ1 H1 D ρ' G' envw σw H done) : Rl c (fun a => M a ∨ a = D) ρ' G' envw σw H :=
  let ⟨oa, h1, h2, _⟩ := L.e; ⟨L.s, L.len, oa, h1, h2⟩
end
end DL
set_option Elab.async false
set_option linter.all false
set_option maxRecDepth 100000
set_option maxHeartbeats 4000000
/-! sorted({text for x in xs if ..}): the rule -/
namespace DL
open PySem L2 PyProof.Rows StX ClX
end DL
set_option Elab.async false
set_option linter.all false
set_option maxRecDepth 100000
set_option maxHeartbeats 4000000
/-! starred arguments anywhere, of lists of the store too; makes with them -/
namespace DL
open PySem L2 PyProof.Rows StX ClX
def aStX (m : EM) (r : AM) : AM := fun env G => (m env G).bind fun x G1 => match x with
  | .d (.tup xs) => (r env G1).bind fun ys G2 => .ok (xs.map .d ++ ys) G2
  | .d (.lst xs) => (r env G1).bind fun ys G2 => .ok (xs.map .d ++ ys) G2
  | .o k => (match (G1[k]? : Option GO) with
    | some (GO.lst xs) => (r env G1).bind fun ys G2 => .ok (xs ++ ys) G2
    | none => .st)
  | _ => .st
section
variable {X : Cx} {c : RC} {W : WX} {e e2 : Expr} {es : List Expr} {me : EM} {mr : AM} {pos p sp_ : Pos}
variable {x : Str} {cl : String} {A : Ar} {g : IM} {k i : Nat} {f : Addr}
/-- what a make with all of a list or a tuple needs -/
theorem star_tdX {M : Addr → Prop} {ρ : List Addr} {G : GS} {env : En} {σ : L2.St} {H : Hp} {Q : VK} (hK : c.K = X.K) (R : Rl c M ρ G env σ H) (q : TQ (RE c) c W M ρ σ H (eMake cl A g (aStX me aNil) env G) Q) :
    tD c W me σ H fun y H1 => ∃ a xs, y = V.ref a ∧ (SqT X.K H1 a xs ∨ SqL X.K H1 a xs) ∧ ∀ x dx, H1 x = Option.none → H1 dx = Option.none → dx ≠ x → SpI c.K c.C c.N cl A g (V.ref x :: xs) (upd (upd H1 dx (.own x)) x (.ins (c.C cl) dx [])) (fun v H2 => v = .non ∧ Q (.ref x) H2) (WE W σ) := by
  refine ⟨M, ρ, G, env, R, ?_⟩
  have q' := TQ.bind (R := RA c) q
  refine (TQ.bind (R := RE c) q').imp fun v H1 ⟨ρ1, G1, e1, g1, s1, r1, q1⟩ => ?_
  rw [← hK]
  have go : ∀ {xs : List EV} {vs : List V}, All2 (RepE c M ρ1 H1) xs vs → TQ (RA c) c W M ρ1 σ H1 ((aNil env G1).bind fun ys G2 => .ok (xs ++ ys) G2) (fun vs H2 => ∃ ρ2 G2 e2, Ge M ρ H ρ2 H2 ∧ SR c M ρ2 G2 H2 ∧ RA c M ρ2 H2 e2 vs ∧ TQ (RE c) c W M ρ2 σ H2 (if A e2.length = true then mkO cl (g e2 G2) else .st) Q) →
      ∀ x dx, H1 x = Option.none → H1 dx = Option.none → dx ≠ x → SpI c.K c.C c.N cl A g (V.ref x :: vs) (upd (upd H1 dx (.own x)) x (.ins (c.C cl) dx [])) (fun v H2 => v = .non ∧ Q (.ref x) H2) (WE W σ) := fun {xs vs} rr q1 x dx hx hd hne => by
    obtain ⟨ρ2, G2, e2, g2, s2, r2, q2⟩ := q1 vs ρ1 H1 Ge.refl s1 (by rw [List.append_nil]; exact rr)
    exact spi_of s2 r2 q2 hx hd hne
  split at q1
  · rename_i xs
    obtain ⟨a, vs, rfl, z, rr⟩ := Rep.of_tup r1
    exact ⟨a, vs, rfl, .inl z.sq, go (map_d rr) q1⟩
  · rename_i xs
    obtain ⟨a, vs, rfl, z, rr⟩ := Rep.of_lst r1
    exact ⟨a, vs, rfl, .inr z.sq, go (map_d rr) q1⟩
  · rename_i k
    split at q1
    · rename_i xs hk
      obtain ⟨a, ha, rfl⟩ := r1
      obtain ⟨b, vs, hb, hL, rr⟩ := s1.at_ k xs hk
      rw [ha] at hb
      cases hb
      exact ⟨a, vs, rfl, .inr (.inl (.inl hL)), go rr q1⟩
    · exact q1.elim
  · exact q1.elim
theorem de_makeSX {sp_ : Pos} (Mc : Mk X.K (c.C cl) f) (F : FnI X.prog X.w X.K X.mg X.base c.C c.N k f cl A g) (hK : c.K = X.K) (hr : Room (k + 1) X.A) (hg : Gl X x) (hm : X.mg x = some (.ref (c.C cl))) (tk : L2N.Takes X W) (he : DE X c W e me) (hdb : (x == ("__debug__" : Str)) = false := by decide)
    (hst : starEach [.Starred e sp_] X.env = [(true, eval e X.env)] := by rfl) : DE X c W (.Call (.Name x p) [.Starred e sp_] [] pos) (eMake cl A g (aStX me aNil)) := by
  refine ⟨fun pins s σ H Q I h => ?_⟩
  refine wpAny_Call_Name_kw (ld_glob I hg hm ?_ hdb)
  obtain ⟨M, ρ, G, env, R, q⟩ := h
  refine PySem.W.callWith_S (h₀ := X.base) I.ok.mod.kin Mc.kp (thn (PE.run he pins s σ H _ I (star_tdX hK R q)) fun v s1 ⟨y, H1, I1, ry, a, xs, ey, hxs, q⟩ => ?_) hst
  subst ey
  obtain rfl : v = Value.ref a := ry
  refine star_any I1 hxs fun us s2 I2 rv => ⟨I2.kIn, ?_⟩
  rw [hK] at q
  exact run_makeA Mc F hr (L2N.passAt tk σ) I2 rv q
end
end DL
set_option Elab.async false
set_option linter.all false
set_option maxRecDepth 100000
set_option maxHeartbeats 4000000
/-! append to a list of the store -/
namespace DL
open PySem L2 PyProof.Rows StX ClX
end DL
set_option Elab.async false
set_option linter.all false
set_option maxRecDepth 100000
set_option maxHeartbeats 4000000
/-! x[i], x of an own class -/
namespace DL
open PySem L2 PyProof.Rows StX ClX
def eGetO (cl : String) (A : Ar) (g : FM) (mo mi : EM) : EM := fun env G => (mo env G).bind fun x G1 => (mi env G1).bind fun y G2 => match x with
  | .d (.ins k fs) => if k = cl ∧ A 2 = true then g [.d (.ins k fs), y] G2 else .st
  | _ => .st
end DL
set_option Elab.async false
set_option linter.all false
set_option maxRecDepth 100000
set_option maxHeartbeats 4000000
/-! slices of lists, tuples, texts in one rule -/
namespace DL
open PySem L2 PyProof.Rows StX ClX
def slD : DL.D → Option Int → Option Int → Option DL.D
  | .lst xs, l, h => some (.lst (cutL xs l h))
  | .tup xs, l, h => some (.tup (cutL xs l h))
  | .str z, l, h => if z.length ≤ lstMax then some (.str (cutS z l h)) else none
  | _, _, _ => none
def eSlA (m : EM) (lo hi : OM) : EM := fun env G => (m env G).bind fun x G1 => (lo env G1).bind fun l G2 => (hi env G2).bind fun h G3 => match x with
  | .d x => (match slD x l h with
    | some y => .ok (.d y) G3
    | none => .st)
  | _ => .st
end DL
set_option Elab.async false
set_option linter.all false
set_option maxRecDepth 100000
set_option maxHeartbeats 4000000
/-! tuple == tuple of own instances whose data differ at any depth -/
namespace DL
open PySem PySem.Spec L2 PyProof.Rows StX ClX
end DL
set_option Elab.async false
set_option linter.all false
namespace DL
/-! ### numbers below 64, bit by bit -/
theorem or_lt64 {a b : Nat} (ha : a < 64) (hb : b < 64) : a ||| b < 64 := Nat.or_lt_two_pow (n := 6) ha hb
theorem and_lt64 {a b : Nat} (ha : a < 64) : a &&& b < 64 := Nat.lt_of_le_of_lt Nat.and_le_left ha
end DL
set_option Elab.async false
set_option linter.all false
set_option maxRecDepth 100000
set_option maxHeartbeats 4000000
/-! reading meanings by simp: one discriminant at a time -/
namespace DL
open PySem L2
theorem bind_ok {α β : Type} {f : α → GS → Out β} {a : α} {G : GS} : (Out.ok a G).bind f = f a G := rfl
theorem bind_er {α β : Type} {f : α → GS → Out β} {c : String} {fs : List D} {G : GS} : (Out.er c fs G : Out α).bind f = .er c fs G := rfl
theorem bindN_ok {α β : Type} {f : α → GS → Out β} {a : α} {G : GS} : bindN (Out.ok a G) f = f a G := rfl
theorem ofE_ok {α : Type} {a : α} {G : GS} {env : En} {k : α → GS → OutS} : ofE (.ok a G) env k = k a G := rfl
theorem ofE_er {α : Type} {c : String} {fs : List D} {G : GS} {env : En} {k : α → GS → OutS} : ofE (.er c fs G : Out α) env k = .er c fs env G := rfl
theorem seqO_nx {env : En} {G : GS} {k : En → GS → OutS} : seqO (.nx env G) k = k env G := rfl
theorem seqO_rt {e : EV} {G : GS} {k : En → GS → OutS} : seqO (.rt e G) k = .rt e G := rfl
theorem seqO_er {c : String} {fs : List D} {env : En} {G : GS} {k : En → GS → OutS} : seqO (.er c fs env G) k = .er c fs env G := rfl
theorem seqO_bk {env : En} {G : GS} {k : En → GS → OutS} : seqO (.bk env G) k = .bk env G := rfl
theorem seqO_ct {env : En} {G : GS} {k : En → GS → OutS} : seqO (.ct env G) k = .ct env G := rfl
theorem loopO_nx {env : En} {G : GS} {k : En → GS → OutS} : loopO (.nx env G) k = k env G := rfl
theorem loopO_ct {env : En} {G : GS} {k : En → GS → OutS} : loopO (.ct env G) k = k env G := rfl
theorem loopO_bk {env : En} {G : GS} {k : En → GS → OutS} : loopO (.bk env G) k = .nx env G := rfl
theorem loopO_rt {e : EV} {G : GS} {k : En → GS → OutS} : loopO (.rt e G) k = .rt e G := rfl
theorem loopO_er {c : String} {fs : List D} {env : En} {G : GS} {k : En → GS → OutS} : loopO (.er c fs env G) k = .er c fs env G := rfl
theorem lift_s {α : Type} {e : α} {G : GS} : lift (some (e, G)) = .ok e G := rfl
theorem retO_rt {e : EV} {G : GS} : retO (.rt e G) = .ok e G := rfl
theorem retO_nx {env : En} {G : GS} : retO (.nx env G) = .ok (.d .non) G := rfl
theorem retO_er {c : String} {fs : List D} {env : En} {G : GS} : retO (.er c fs env G) = .er c fs G := rfl
theorem mkO_ok {cl : String} {fs : List D} {G : GS} : mkO cl (.ok fs G) = .ok (.d (.ins cl fs)) G := rfl
theorem mkO_er {cl c : String} {fs : List D} {G : GS} : mkO cl (.er c fs G) = .er c fs G := rfl
theorem toOpt_ok {α : Type} {e : α} {G : GS} : toOpt (.ok e G) = some (e, G) := rfl
/-! frames -/
theorem eVar_z {e : EV} {t : En} {G : GS} : eVar 0 (.ev e :: t) G = .ok e G := rfl
theorem eVar_s {i : Nat} {s : Sl} {t : En} {G : GS} : eVar (i + 1) (s :: t) G = eVar i t G := rfl
theorem oL_z {xs : List D} {t : En} : oL 0 (.own (.lst xs) :: t) = some xs := rfl
theorem oL_s {i : Nat} {s : Sl} {t : En} : oL (i + 1) (s :: t) = oL i t := rfl
theorem frz_z {xs : List D} {t : En} : frzE 0 (.own (.lst xs) :: t) = .ev (.d (.lst xs)) :: t := rfl
theorem frz_s {i : Nat} {s : Sl} {t : En} : frzE (i + 1) (s :: t) = s :: frzE i t := by
  unfold frzE
  rw [List.getElem?_cons_succ]
  cases h : t[i]? with
  | none => rfl
  | some sl => cases sl with
    | own o => cases o <;> rfl
    | _ => rfl
theorem wipe_n {env : En} : wipeE env [] = env := rfl
theorem wipe_c {env : En} {v : Nat} {vs : List Nat} : wipeE env (v :: vs) = (wipeE env vs).set v .no := rfl
theorem datas_n : datas [] = some [] := rfl
theorem datas_c {x : D} {r : List EV} : datas (.d x :: r) = (datas r).map (x :: ·) := rfl
theorem map_s {α β : Type} {f : α → β} {a : α} : Option.map f (some a) = some (f a) := rfl
theorem bind_s {α β : Type} {f : α → Option β} {a : α} : Option.bind (some a) f = f a := rfl
theorem setA_n {env : En} : setAll [] [] env = some env := rfl
theorem setA_c {i : Nat} {is : List Nat} {x : D} {xs : List D} {env : En} : setAll (i :: is) (x :: xs) env = setAll is xs (env.set i (.ev (.d x))) := rfl
/-! values -/
theorem p2_d {g : D → D → Option D} {a b : D} {G : GS} : pure2 g (.d a) (.d b) G = (g a b).map fun z => (.d z, G) := rfl
theorem p1_d {g : D → Option D} {a : D} {G : GS} : pure1 g (.d a) G = (g a).map fun z => (.d z, G) := rfl
theorem pN_d {g : List D → Option D} {xs : List EV} {G : GS} : pureN g xs G = (datas xs).bind fun ds => (g ds).map fun z => (.d z, G) := rfl
theorem fEq_i {a b : Int} {G : GS} : fEq (.d (.int a)) (.d (.int b)) G = some (.d (.bl (decide (a = b))), G) := rfl
theorem fEq_s {a b : Str} {G : GS} : fEq (.d (.str a)) (.d (.str b)) G = some (.d (.bl (decide (a = b))), G) := rfl
theorem fEq_b {a b : Bool} {G : GS} : fEq (.d (.bl a)) (.d (.bl b)) G = some (.d (.bl (decide (a = b))), G) := rfl
theorem fEq_ii {k k' : String} {fs fs' : List D} {G : GS} : fEq (.d (.ins k fs)) (.d (.ins k' fs')) G = none := rfl
theorem fNe_i {a b : Int} {G : GS} : fNe (.d (.int a)) (.d (.int b)) G = some (.d (.bl (!decide (a = b))), G) := rfl
theorem fNe_s {a b : Str} {G : GS} : fNe (.d (.str a)) (.d (.str b)) G = some (.d (.bl (!decide (a = b))), G) := rfl
theorem fNe_b {a b : Bool} {G : GS} : fNe (.d (.bl a)) (.d (.bl b)) G = some (.d (.bl (!decide (a = b))), G) := rfl
theorem fSub_i {a b : Int} {G : GS} : fSub (.d (.int a)) (.d (.int b)) G = some (.d (.int (a - b)), G) := rfl
theorem fAdd_i {a b : Int} {G : GS} : fAdd (.d (.int a)) (.d (.int b)) G = some (.d (.int (a + b)), G) := rfl
theorem fAnd_i {a b : Int} {G : GS} : fAnd (.d (.int a)) (.d (.int b)) G = some (.d (.int (Builtin.bitAnd a b)), G) := rfl
theorem fOr_i {a b : Int} {G : GS} : fOr (.d (.int a)) (.d (.int b)) G = some (.d (.int (Builtin.bitOr a b)), G) := rfl
theorem fXor_i {a b : Int} {G : GS} : fXor (.d (.int a)) (.d (.int b)) G = some (.d (.int (Builtin.bitXor a b)), G) := rfl
theorem fLt_i {a b : Int} {G : GS} : fLt (.d (.int a)) (.d (.int b)) G = some (.d (.bl (decide (a < b))), G) := rfl
theorem fLe_i {a b : Int} {G : GS} : fLe (.d (.int a)) (.d (.int b)) G = some (.d (.bl (decide (a ≤ b))), G) := rfl
theorem fGt_i {a b : Int} {G : GS} : fGt (.d (.int a)) (.d (.int b)) G = some (.d (.bl (decide (b < a))), G) := rfl
theorem fGe_i {a b : Int} {G : GS} : fGe (.d (.int a)) (.d (.int b)) G = some (.d (.bl (decide (b ≤ a))), G) := rfl
theorem fMod_i {a b : Int} {G : GS} (h : cPos a b = true) : fMod (.d (.int a)) (.d (.int b)) G = some (.d (.int (a % b)), G) := by show Option.map _ (if cPos a b = true then _ else _) = _; rw [if_pos h]; rfl
theorem fDiv_i {a b : Int} {G : GS} (h : cDiv a b = true) : fDiv (.d (.int a)) (.d (.int b)) G = some (.d (.int (a / b)), G) := by show Option.map _ (if cDiv a b = true then _ else _) = _; rw [if_pos h]; rfl
theorem fIs_d {a : D} {G : GS} : fIs (.d a) (.d .non) G = some (.d (.bl (isNon a)), G) := rfl
theorem fIsNot_d {a : D} {G : GS} : fIsNot (.d a) (.d .non) G = some (.d (.bl (!isNon a)), G) := rfl
theorem fIsB_b {a b : Bool} {G : GS} : fIsNotB (.d (.bl a)) (.d (.bl b)) G = some (.d (.bl (!decide (a = b))), G) := by cases a <;> cases b <;> rfl
theorem isB_b {b : Bool} {G : GS} : isB (.d (.bl b)) G = some (b, G) := rfl
theorem tru_b {b : Bool} {G : GS} : truE (.d (.bl b)) G = some (b, G) := rfl
theorem tru_i {b : Int} {G : GS} : truE (.d (.int b)) G = some (b != 0, G) := rfl
theorem tru_l {xs : List D} {G : GS} : truE (.d (.lst xs)) G = some (!xs.isEmpty, G) := rfl
theorem tru_t {xs : List D} {G : GS} : truE (.d (.tup xs)) G = some (!xs.isEmpty, G) := rfl
def orE {α : Type} (a : Option α) (b : Option α) : Option α := match a with
  | some r => some r
  | none => b
theorem orE_s {α : Type} {r : α} {b : Option α} : orE (some r) b = some r := rfl
theorem orE_n {α : Type} {b : Option α} : orE none b = b := rfl
theorem alt2_e {f g : F2} {x y : EV} {G : GS} : alt2 f g x y G = orE (f x y G) (g x y G) := by show (match f x y G with | some r => some r | none => g x y G) = _; cases f x y G <;> rfl
theorem alt1_e {f g : F1} {x : EV} {G : GS} : alt1 f g x G = orE (f x G) (g x G) := by show (match f x G with | some r => some r | none => g x G) = _; cases f x G <;> rfl
theorem altN_e {f g : FN} {x : List EV} {G : GS} : altN f g x G = orE (f x G) (g x G) := by show (match f x G with | some r => some r | none => g x G) = _; cases f x G <;> rfl
theorem fIx_l {xs : List D} {i : Int} {G : GS} : fIx (.d (.lst xs)) (.d (.int i)) G = (atI xs i).map fun z => (.d z, G) := rfl
theorem fIx_t {xs : List D} {i : Int} {G : GS} : fIx (.d (.tup xs)) (.d (.int i)) G = (atI xs i).map fun z => (.d z, G) := rfl
theorem at_n {α : Type} {xs : List α} {n : Nat} (h : n < xs.length) : atI xs (n : Int) = some xs[n] := L2.atI_nat (List.getElem?_eq_getElem h)
theorem at_0 {α : Type} {a : α} {t : List α} : atI (a :: t) 0 = some a := at_n (n := 0) (by simp)
theorem at_1 {α : Type} {a b : α} {t : List α} : atI (a :: b :: t) 1 = some b := at_n (n := 1) (by simp)
theorem at_2 {α : Type} {a b c : α} {t : List α} : atI (a :: b :: c :: t) 2 = some c := at_n (n := 2) (by simp)
theorem at_3 {α : Type} {a b c d : α} {t : List α} : atI (a :: b :: c :: d :: t) 3 = some d := at_n (n := 3) (by simp)
theorem at_4 {α : Type} {a b c d e : α} {t : List α} : atI (a :: b :: c :: d :: e :: t) 4 = some e := at_n (n := 4) (by simp)
theorem at_5 {α : Type} {a b c d e f : α} {t : List α} : atI (a :: b :: c :: d :: e :: f :: t) 5 = some f := at_n (n := 5) (by simp)
theorem ixN_p {m : Nat} {i : Int} (h0 : 0 ≤ i) (h1 : i.toNat < m) : ixN m i = some i.toNat := by unfold ixN; rw [if_pos h0, if_pos (by omega)]
theorem for_n {k : Nat} {b : SM} {env : En} {G : GS} : forL k b [] env G = .nx env G := rfl
theorem for_c {k : Nat} {b : SM} {d : D} {ds : List D} {env : En} {G : GS} : forL k b (d :: ds) env G = loopO (b (env.set k (.ev (.d d))) G) (forL k b ds) := rfl
theorem lc_n {k : Nat} {tt : BM} {te : EM} {env : En} {G : GS} : lcL k tt te [] env G = .ok [] G := rfl
def kL2 (y : D) : List D → GS → Out (List D) := fun ys G3 => .ok (y :: ys) G3
theorem kL2_e {y : D} {ys : List D} {G : GS} : kL2 y ys G = .ok (y :: ys) G := rfl
def kL1 (k : Nat) (tt : BM) (te : EM) (ds : List D) (env : En) : EV → GS → Out (List D) := fun y G2 => (match y with
      | .d y => bindN (lcL k tt te ds env G2) (kL2 y)
      | _ => .st)
theorem kL1_e {k : Nat} {tt : BM} {te : EM} {ds : List D} {env : En} {y : D} {G : GS} : kL1 k tt te ds env (.d y) G = bindN (lcL k tt te ds env G) (kL2 y) := rfl
def kT (k : Nat) (tt : BM) (te : EM) (d : D) (ds : List D) (env : En) : Bool → GS → Out (List D) := fun b G1 => if b = true then bindN (te (env.set k (.ev (.d d))) G1) (kL1 k tt te ds env) else lcL k tt te ds env G1
theorem kT_t {k : Nat} {tt : BM} {te : EM} {d : D} {ds : List D} {env : En} {G : GS} : kT k tt te d ds env true G = bindN (te (env.set k (.ev (.d d))) G) (kL1 k tt te ds env) := rfl
theorem kT_f {k : Nat} {tt : BM} {te : EM} {d : D} {ds : List D} {env : En} {G : GS} : kT k tt te d ds env false G = lcL k tt te ds env G := rfl
theorem lc_c {k : Nat} {tt : BM} {te : EM} {d : D} {ds : List D} {env : En} {G : GS} : lcL k tt te (d :: ds) env G = bindN (tt (env.set k (.ev (.d d))) G) (kT k tt te d ds env) := rfl
theorem len_lst {xs : List D} {G : GS} : fLen [.d (.lst xs)] G = some (.d (.int xs.length), G) := rfl
theorem len_tup {xs : List D} {G : GS} : fLen [.d (.tup xs)] G = some (.d (.int xs.length), G) := rfl
theorem kfn_c {k : String} {g : Ar × FM} {r : List (String × (Ar × FM))} {k' : String} : kfn ((k, g) :: r) k' = if k = k' then some g else kfn r k' := rfl
theorem kix_c {k : String} {i : Nat} {r : List (String × Nat)} {k' : String} : kix ((k, i) :: r) k' = if k = k' then some i else kix r k' := rfl
/-- the class of an instance, its fields -/
def kOf : EV → Option String
  | .d (.ins k _) => some k
  | _ => none
def fsOf : D → List D
  | .ins _ fs => fs
  | _ => []
theorem kOf_i {k : String} {fs : List D} : kOf (.d (.ins k fs)) = some k := rfl
theorem fsOf_i {k : String} {fs : List D} : fsOf (.ins k fs) = fs := rfl
def kMe (A : Ar) (g : FM) (x : EV) : List EV → GS → Out EV := fun xs G2 => if A (xs.length + 1) = true then g (x :: xs) G2 else .st
theorem kMe_e {A : Ar} {g : FM} {x : EV} {xs : List EV} {G : GS} (h : A (xs.length + 1) = true) : kMe A g x xs G = g (x :: xs) G := if_pos h
def methA (o : Option (Ar × FM)) (x : EV) (r : AM) (env : En) (G : GS) : Out EV := match o with
  | some (A, g) => (r env G).bind (kMe A g x)
  | none => .st
def methK (ms : List (String × (Ar × FM))) (o : Option String) (x : EV) (r : AM) (env : En) (G : GS) : Out EV := match o with
  | some k => methA (kfn ms k) x r env G
  | none => .st
def methO (ms : List (String × (Ar × FM))) (x : EV) (r : AM) (env : En) (G : GS) : Out EV := methK ms (kOf x) x r env G
theorem methO_e {ms : List (String × (Ar × FM))} {x : EV} {r : AM} {env : En} {G : GS} : methO ms x r env G = methK ms (kOf x) x r env G := rfl
theorem methK_s {ms : List (String × (Ar × FM))} {k : String} {x : EV} {r : AM} {env : En} {G : GS} : methK ms (some k) x r env G = methA (kfn ms k) x r env G := rfl
theorem methA_s {A : Ar} {g : FM} {x : EV} {r : AM} {env : En} {G : GS} : methA (some (A, g)) x r env G = (r env G).bind (kMe A g x) := rfl
def ownK (cl : String) (A : Ar) (g : FM) (o o' : Option String) (x y : EV) (G : GS) : Option (EV × GS) := match o, o' with
  | some k, some k' => if k = cl ∧ k' = cl ∧ A 2 = true then toOpt (g [x, y] G) else none
  | _, _ => none
theorem ownK_s {cl k k' : String} {A : Ar} {g : FM} {x y : EV} {G : GS} : ownK cl A g (some k) (some k') x y G = if k = cl ∧ k' = cl ∧ A 2 = true then toOpt (g [x, y] G) else none := rfl
theorem ownK_n {cl : String} {o : Option String} {A : Ar} {g : FM} {x y : EV} {G : GS} : ownK cl A g none o x y G = none := rfl
theorem ownK_m {cl : String} {o : Option String} {A : Ar} {g : FM} {x y : EV} {G : GS} : ownK cl A g o none x y G = none := by cases o <;> rfl
theorem fOwn_k {cl : String} {A : Ar} {g : FM} {x y : EV} {G : GS} : fOwn cl A g x y G = ownK cl A g (kOf x) (kOf y) x y G := by
  cases x with
  | o i => rfl
  | d x => cases y with
    | o i => cases x <;> rfl
    | d y => cases x <;> cases y <;> rfl
def own1K (cl : String) (A : Ar) (g : FM) (o : Option String) (x : EV) (G : GS) : Option (EV × GS) := match o with
  | some k => if k = cl ∧ A 1 = true then toOpt (g [x] G) else none
  | _ => none
theorem own1K_s {cl k : String} {A : Ar} {g : FM} {x : EV} {G : GS} : own1K cl A g (some k) x G = if k = cl ∧ A 1 = true then toOpt (g [x] G) else none := rfl
theorem own1K_n {cl : String} {A : Ar} {g : FM} {x : EV} {G : GS} : own1K cl A g none x G = none := rfl
theorem fOwn1_k {cl : String} {A : Ar} {g : FM} {x : EV} {G : GS} : fOwn1 cl A g x G = own1K cl A g (kOf x) x G := by
  cases x with
  | o i => rfl
  | d x => cases x <;> rfl
def fldK (ks : List (String × Nat)) (o : Option String) (fs : List D) : Option D := match o with
  | some k => (kix ks k).bind fun i => fs[i]?
  | none => none
theorem fldK_s {ks : List (String × Nat)} {k : String} {fs : List D} : fldK ks (some k) fs = (kix ks k).bind fun i => fs[i]? := rfl
theorem gFld_k {ks : List (String × Nat)} {x : D} : gFld ks x = fldK ks (kOf (.d x)) (fsOf x) := by cases x <;> rfl
theorem cPos_e {a b : Int} : cPos a b = decide (0 < b) := rfl
theorem cDiv_e {a b : Int} : cDiv a b = (decide (0 < b) && decide (b < 2 ^ 200)) := rfl
theorem lstMax_e : lstMax = 100000 := rfl
theorem arN_t {n : Nat} : arN n n = true := by unfold arN; exact beq_self_eq_true n
theorem arS_0 {n : Nat} : arS 0 n = true := by unfold arS; exact decide_eq_true (Nat.zero_le n)
theorem bYes_e {env : En} {G : GS} : bYes env G = .ok true G := rfl
/-! the meanings, applied; what follows a value is a name -/
def kSet (i : Nat) (env : En) : EV → GS → OutS := fun e G1 => .nx (env.set i (.ev e)) G1
def kSet2 (i j : Nat) (env : En) : EV → GS → OutS := fun e G1 => .nx ((env.set i (.ev e)).set j (.ev e)) G1
def kDrop (env : En) : EV → GS → OutS := fun _ G1 => .nx env G1
def kIf (a b : SM) (env : En) : Bool → GS → OutS := fun k G1 => if k = true then a env G1 else b env G1
def kOwn (i : Nat) (env : En) : List D × GS → GS → OutS := fun p _ => .nx (env.set i (.own (.lst p.1))) p.2
def kApp (xs : List D) (i : Nat) (env : En) : EV → GS → OutS := fun e G1 => match e with
    | .d x => if xs.length < lstMax then .nx (env.set i (.own (.lst (xs ++ [x])))) G1 else .st
    | _ => .st
def kOsub2 (xs : List D) (i : Nat) (env : En) (x : EV) : EV → GS → OutS := fun j G2 => match x, j with
    | .d x, .d (.int j) => (match ixN xs.length j with
      | some j => .nx (env.set i (.own (.lst (xs.set j x)))) G2
      | none => .st)
    | _, _ => .st
def kOsub1 (xs : List D) (i : Nat) (mi : EM) (env : En) : EV → GS → OutS := fun x G1 => ofE (mi env G1) env (kOsub2 xs i env x)
def kFor (k : Nat) (b : SM) (env : En) : List D → GS → OutS := fun ds G1 => forL k b ds env G1
def unpK (o : Option En) (G : GS) : OutS := match o with
  | some env' => .nx env' G
  | none => .st
def kUnp (is : List Nat) (env : En) : EV → GS → OutS := fun e G1 => match e with
  | .d (.tup xs) => unpK (setAll is xs env) G1
  | _ => .st
def kOp2 (f : F2) (x : EV) : EV → GS → Out EV := fun y G2 => lift (f x y G2)
def kOp1 (f : F2) (b : EM) (env : En) : EV → GS → Out EV := fun x G1 => (b env G1).bind (kOp2 f x)
def kUn (f : F1) : EV → GS → Out EV := fun x G1 => lift (f x G1)
def kC2 (x : EV) : List EV → GS → Out (List EV) := fun xs G2 => .ok (x :: xs) G2
def kC1 (r : AM) (env : En) : EV → GS → Out (List EV) := fun x G1 => (r env G1).bind (kC2 x)
def kA2 (i j : Nat) (xs : List EV) : List EV → GS → Out (List EV) := fun ys G2 => if xs.length = i ∧ ys.length = j then .ok (xs ++ ys) G2 else .st
def kA1 (i j : Nat) (r' : AM) (env : En) : List EV → GS → Out (List EV) := fun xs G1 => (r' env G1).bind (kA2 i j xs)
def kFN (fn : FN) : List EV → GS → Out EV := fun xs G1 => lift (fn xs G1)
def kCall (A : Ar) (g : FM) : List EV → GS → Out EV := fun xs G1 => if A xs.length = true then g xs G1 else .st
def kMake (cl : String) (A : Ar) (gi : IM) : List EV → GS → Out EV := fun xs G1 => if A xs.length = true then mkO cl (gi xs G1) else .st
def kCM (cl : String) (A : Ar) (g : FM) : List EV → GS → Out EV := fun xs G1 => if A (xs.length + 1) = true then g (.d (.cls cl) :: xs) G1 else .st
def kMeth (ms : List (String × (Ar × FM))) (r : AM) (env : En) : EV → GS → Out EV := fun x G1 => methO ms x r env G1
def lstK (o : Option (List D)) (G : GS) : Out EV := match o with
  | some ds => if ds.length ≤ lstMax then .ok (.d (.lst ds)) G else .st
  | none => .st
def kLst : List EV → GS → Out EV := fun xs G1 => lstK (datas xs) G1
def tupK (o : Option (List D)) (G : GS) : Out EV := match o with
  | some ds => if ds.length ≤ lstMax then .ok (.d (.tup ds)) G else .st
  | none => .st
def kTup : List EV → GS → Out EV := fun xs G1 => tupK (datas xs) G1
def nlK (o : Option (List D)) (G : GS) : Out (List D × GS) := match o with
  | some ds => if ds.length ≤ lstMax then .ok (ds, G) G else .st
  | none => .st
def kNl : List EV → GS → Out (List D × GS) := fun xs G1 => nlK (datas xs) G1
def nliK (o : Option (List D)) (G : GS) : Out (List D × GS) := match o with
  | some ds => .ok (ds, G) G
  | none => .st
def kNli : List EV → GS → Out (List D × GS) := fun xs G1 => nliK (lOf xs) G1
def kLc2 : List D → GS → Out EV := fun ys G2 => if ys.length ≤ lstMax then .ok (.d (.lst ys)) G2 else .st
def kLc1 (k : Nat) (vs : List Nat) (t : BM) (e : EM) (env : En) : List D → GS → Out EV := fun ds G1 => bindN (lcL k t e ds (wipeE env vs) G1) kLc2
def kNc2 : List D → GS → Out (List D × GS) := fun ys G2 => if ys.length ≤ lstMax then .ok (ys, G2) G2 else .st
def kNc1 (k : Nat) (vs : List Nat) (t : BM) (e : EM) (env : En) : List D → GS → Out (List D × GS) := fun ds G1 => bindN (lcL k t e ds (wipeE env vs) G1) kNc2
def kSeq : EV → GS → Out (List D) := fun e G1 => match e with
  | .d (.lst xs) => .ok xs G1
  | _ => .st
def kTpl : EV → GS → Out (List D) := fun e G1 => match e with
  | .d (.tup xs) => .ok xs G1
  | _ => .st
def kEIf (a b : EM) (env : En) : Bool → GS → Out EV := fun k G1 => if k = true then a env G1 else b env G1
def kEAnd (b : EM) (env : En) : EV → GS → Out EV := fun x G1 => match x with
  | .d (.bl true) => b env G1
  | .d (.bl false) => .ok (.d (.bl false)) G1
  | _ => .st
def kEOr (b : EM) (env : En) : EV → GS → Out EV := fun x G1 => match x with
  | .d (.bl true) => .ok (.d (.bl true)) G1
  | .d (.bl false) => b env G1
  | _ => .st
def kENot : EV → GS → Out EV := fun x G1 => match x with
  | .d (.bl k) => .ok (.d (.bl (!k))) G1
  | _ => .st
def kB (F : EV → GS → Option (Bool × GS)) : EV → GS → Out Bool := fun e G1 => lift (F e G1)
def kBAnd (b : BM) (env : En) : Bool → GS → Out Bool := fun k G1 => if k = true then b env G1 else .ok false G1
def kBOr (b : BM) (env : En) : Bool → GS → Out Bool := fun k G1 => if k = true then .ok true G1 else b env G1
def kBNot : Bool → GS → Out Bool := fun k G1 => .ok (!k) G1
def kOS : EV → GS → Out (Option Int) := fun x G1 => match x with
  | .d (.int i) => .ok (some i) G1
  | _ => .st
def kSl3 (x : EV) (l : Option Int) : Option Int → GS → Out EV := fun h G3 => match x with
  | .d (.lst xs) => .ok (.d (.lst (cutL xs l h))) G3
  | _ => .st
def kSl2 (hi : OM) (env : En) (x : EV) : Option Int → GS → Out EV := fun l G2 => (hi env G2).bind (kSl3 x l)
def kSl1 (lo hi : OM) (env : En) : EV → GS → Out EV := fun x G1 => (lo env G1).bind (kSl2 hi env x)
def kSt3 (x : EV) (l : Option Int) : Option Int → GS → Out EV := fun h G3 => match x with
  | .d (.tup xs) => .ok (.d (.tup (cutL xs l h))) G3
  | _ => .st
def kSt2 (hi : OM) (env : En) (x : EV) : Option Int → GS → Out EV := fun l G2 => (hi env G2).bind (kSt3 x l)
def kSt1 (lo hi : OM) (env : En) : EV → GS → Out EV := fun x G1 => (lo env G1).bind (kSt2 hi env x)
def ixK (o : Option D) (G : GS) : Out EV := match o with
  | some x => .ok (.d x) G
  | none => .st
def kOix (xs : List D) : EV → GS → Out EV := fun j G1 => match j with
    | .d (.int j) => ixK (atI xs j) G1
    | _ => .st
section
variable {a b m n : SM} {e e' mo me mi : EM} {t ta tb : BM} {r r' : AM} {l : LM} {env env' : En} {G : GS} {i j k : Nat} {f : F2} {f1 : F1} {fn : FN} {A : Ar} {g : FM} {gi : IM} {cl : String} {fm : FM'} {x y : D} {u v : EV} {xs ys ds : List D} {us vs : List EV} {is : List Nat} {lo hi : OM} {ms : List (String × (Ar × FM))} {z : Int} {oz ow : Option Int}
theorem sSeq_e : sSeq a b env G = seqO (a env G) b := rfl
theorem sNil_e : sNil env G = .nx env G := rfl
theorem sSet_e : sSet i e env G = ofE (e env G) env (kSet i env) := rfl
theorem kSet_e : kSet i env u G = .nx (env.set i (.ev u)) G := rfl
theorem sSet2_e : sSet2 i j e env G = ofE (e env G) env (kSet2 i j env) := rfl
theorem kSet2_e : kSet2 i j env u G = .nx ((env.set i (.ev u)).set j (.ev u)) G := rfl
theorem sRet_e : sRet e env G = ofE (e env G) env OutS.rt := rfl
theorem sRetN_e : sRetN env G = .rt (.d .non) G := rfl
theorem sDrop_e : sDrop e env G = ofE (e env G) env (kDrop env) := rfl
theorem kDrop_e : kDrop env u G = .nx env G := rfl
theorem sIf_e : sIf t a b env G = ofE (t env G) env (kIf a b env) := rfl
theorem kIf_t : kIf a b env true G = a env G := rfl
theorem kIf_f : kIf a b env false G = b env G := rfl
theorem sBk_e : sBk env G = .bk env G := rfl
theorem sCt_e : sCt env G = .ct env G := rfl
theorem sFrz_e : sFrz i a env G = a (frzE i env) G := rfl
theorem sOwn_e : sOwn i fm env G = ofE (fm env G) env (kOwn i env) := rfl
theorem kOwn_e : kOwn i env (xs, G) G = .nx (env.set i (.own (.lst xs))) G := rfl
def appK (o : Option (List D)) (i : Nat) (m : EM) (env : En) (G : GS) : OutS := match o with
  | some xs => ofE (m env G) env (kApp xs i env)
  | none => .st
theorem sApp_e : sApp i e env G = appK (oL i env) i e env G := rfl
theorem appK_s : appK (some xs) i e env G = ofE (e env G) env (kApp xs i env) := rfl
theorem kApp_e : kApp xs i env (.d x) G = if xs.length < lstMax then .nx (env.set i (.own (.lst (xs ++ [x])))) G else .st := rfl
def osubK (o : Option (List D)) (i : Nat) (mi me : EM) (env : En) (G : GS) : OutS := match o with
  | some xs => ofE (me env G) env (kOsub1 xs i mi env)
  | none => .st
theorem sOSub_e : sOSub i mi me env G = osubK (oL i env) i mi me env G := rfl
theorem osubK_s : osubK (some xs) i mi me env G = ofE (me env G) env (kOsub1 xs i mi env) := rfl
theorem kOsub1_e : kOsub1 xs i mi env u G = ofE (mi env G) env (kOsub2 xs i env u) := rfl
def osK (o : Option Nat) (xs : List D) (i : Nat) (env : En) (x : D) (G : GS) : OutS := match o with
  | some j => .nx (env.set i (.own (.lst (xs.set j x)))) G
  | none => .st
theorem kOsub2_e : kOsub2 xs i env (.d x) (.d (.int z)) G = osK (ixN xs.length z) xs i env x G := rfl
theorem osK_s : osK (some j) xs i env x G = .nx (env.set i (.own (.lst (xs.set j x)))) G := rfl
def oixK (o : Option (List D)) (mi : EM) (env : En) (G : GS) : Out EV := match o with
  | some xs => (mi env G).bind (kOix xs)
  | none => .st
theorem eOIx_e : eOIx i mi env G = oixK (oL i env) mi env G := rfl
theorem oixK_s : oixK (some xs) mi env G = (mi env G).bind (kOix xs) := rfl
theorem kOix_e : kOix xs (.d (.int z)) G = ixK (atI xs z) G := rfl
theorem ixK_s : ixK (some x) G = .ok (.d x) G := rfl
def olenK (o : Option (List D)) (G : GS) : Out EV := match o with
  | some xs => .ok (.d (.int xs.length)) G
  | none => .st
theorem olenK_s : olenK (some xs) G = .ok (.d (.int xs.length)) G := rfl
theorem eOLen_e : eOLen i env G = olenK (oL i env) G := rfl
theorem sFor_e : sFor k l b env G = ofE (l env G) env (kFor k b env) := rfl
theorem kFor_e : kFor k b env ds G = forL k b ds env G := rfl
theorem sUnp_e : sUnp is e env G = ofE (e env G) env (kUnp is env) := rfl
theorem kUnp_e : kUnp is env (.d (.tup xs)) G = unpK (setAll is xs env) G := rfl
theorem unpK_s : unpK (some env') G = .nx env' G := rfl
theorem eC_e : eC x env G = .ok (.d x) G := rfl
theorem eOp_e : eOp f e e' env G = (e env G).bind (kOp1 f e' env) := rfl
theorem kOp1_e : kOp1 f e env u G = (e env G).bind (kOp2 f u) := rfl
theorem kOp2_e : kOp2 f u v G = lift (f u v G) := rfl
theorem eUn_e : eUn f1 e env G = (e env G).bind (kUn f1) := rfl
theorem kUn_e : kUn f1 u G = lift (f1 u G) := rfl
theorem aNil_e : aNil env G = .ok [] G := rfl
theorem aCons_e : aCons e r env G = (e env G).bind (kC1 r env) := rfl
theorem kC1_e : kC1 r env u G = (r env G).bind (kC2 u) := rfl
theorem kC2_e : kC2 u us G = .ok (u :: us) G := rfl
theorem aApp_e : aApp i j r r' env G = (r env G).bind (kA1 i j r' env) := rfl
theorem kA1_e : kA1 i j r' env us G = (r' env G).bind (kA2 i j us) := rfl
theorem kA2_e (h : us.length = i ∧ vs.length = j) : kA2 i j us vs G = .ok (us ++ vs) G := if_pos h
theorem eFN_e : eFN fn r env G = (r env G).bind (kFN fn) := rfl
theorem kFN_e : kFN fn us G = lift (fn us G) := rfl
theorem eCall_e : eCall A g r env G = (r env G).bind (kCall A g) := rfl
theorem kCall_e (h : A us.length = true) : kCall A g us G = g us G := if_pos h
theorem eMake_e : eMake cl A gi r env G = (r env G).bind (kMake cl A gi) := rfl
theorem kMake_e (h : A us.length = true) : kMake cl A gi us G = mkO cl (gi us G) := if_pos h
theorem eCMeth_e : eCMeth cl A g r env G = (r env G).bind (kCM cl A g) := rfl
theorem kCM_e (h : A (us.length + 1) = true) : kCM cl A g us G = g (.d (.cls cl) :: us) G := if_pos h
theorem eMeth_e : eMeth ms e r env G = (e env G).bind (kMeth ms r env) := by
  unfold eMeth
  congr 1
  funext x G1
  cases x with
  | o i => rfl
  | d x => cases x <;> rfl
theorem kMeth_e : kMeth ms r env u G = methO ms u r env G := rfl
theorem eCallO_e : eCallO ms e r env G = eMeth ms e r env G := rfl
theorem eLst_e : eLst r env G = (r env G).bind kLst := rfl
theorem kLst_e : kLst us G = lstK (datas us) G := rfl
theorem lstK_s : lstK (some ds) G = if ds.length ≤ lstMax then .ok (.d (.lst ds)) G else .st := rfl
theorem eTup_e : eTup r env G = (r env G).bind kTup := rfl
theorem kTup_e : kTup us G = tupK (datas us) G := rfl
theorem tupK_s : tupK (some ds) G = if ds.length ≤ lstMax then .ok (.d (.tup ds)) G else .st := rfl
theorem nLst_e : nLst r env G = (r env G).bind kNl := rfl
theorem kNl_e : kNl us G = nlK (datas us) G := rfl
theorem nlK_s : nlK (some ds) G = if ds.length ≤ lstMax then .ok (ds, G) G else .st := rfl
theorem nList_e : nList r env G = (r env G).bind kNli := rfl
theorem kNli_e : kNli us G = nliK (lOf us) G := rfl
theorem nliK_s : nliK (some ds) G = .ok (ds, G) G := rfl
theorem lOf_l : lOf [.d (.lst ds)] = some ds := rfl
theorem lOf_t : lOf [.d (.tup ds)] = some ds := rfl
theorem nLc_e : nLc k is l t e env G = (l env G).bind (kNc1 k is t e env) := rfl
theorem kNc1_e : kNc1 k is t e env ds G = bindN (lcL k t e ds (wipeE env is) G) kNc2 := rfl
theorem kNc2_e : kNc2 ds G = if ds.length ≤ lstMax then .ok (ds, G) G else .st := rfl
theorem eLc_e : eLc k is l t e env G = (l env G).bind (kLc1 k is t e env) := rfl
theorem kLc1_e : kLc1 k is t e env ds G = bindN (lcL k t e ds (wipeE env is) G) kLc2 := rfl
theorem kLc2_e : kLc2 ds G = if ds.length ≤ lstMax then .ok (.d (.lst ds)) G else .st := rfl
theorem lSeq_e : lSeq e env G = (e env G).bind kSeq := rfl
theorem kSeq_e : kSeq (.d (.lst xs)) G = .ok xs G := rfl
theorem lTup_e : lTup e env G = (e env G).bind kTpl := rfl
theorem kTpl_e : kTpl (.d (.tup xs)) G = .ok xs G := rfl
theorem eIf_e : eIf t e e' env G = (t env G).bind (kEIf e e' env) := rfl
theorem kEIf_t : kEIf e e' env true G = e env G := rfl
theorem kEIf_f : kEIf e e' env false G = e' env G := rfl
theorem eAnd_e : eAnd e e' env G = (e env G).bind (kEAnd e' env) := rfl
theorem kEAnd_t : kEAnd e env (.d (.bl true)) G = e env G := rfl
theorem kEAnd_f : kEAnd e env (.d (.bl false)) G = .ok (.d (.bl false)) G := rfl
theorem eOr_e : eOr e e' env G = (e env G).bind (kEOr e' env) := rfl
theorem kEOr_t : kEOr e env (.d (.bl true)) G = .ok (.d (.bl true)) G := rfl
theorem kEOr_f : kEOr e env (.d (.bl false)) G = e env G := rfl
theorem eNot_e : eNot e env G = (e env G).bind kENot := rfl
theorem kENot_e {k : Bool} : kENot (.d (.bl k)) G = .ok (.d (.bl (!k))) G := rfl
theorem bOf_e {F : EV → GS → Option (Bool × GS)} : bOf F e env G = (e env G).bind (kB F) := rfl
theorem kB_e {F : EV → GS → Option (Bool × GS)} : kB F u G = lift (F u G) := rfl
theorem bAnd_e : bAnd ta tb env G = (ta env G).bind (kBAnd tb env) := rfl
theorem kBAnd_t : kBAnd tb env true G = tb env G := rfl
theorem kBAnd_f : kBAnd tb env false G = .ok false G := rfl
theorem bOr_e : bOr ta tb env G = (ta env G).bind (kBOr tb env) := rfl
theorem kBOr_t : kBOr tb env true G = .ok true G := rfl
theorem kBOr_f : kBOr tb env false G = tb env G := rfl
theorem bNot_e : bNot ta env G = (ta env G).bind kBNot := rfl
theorem kBNot_e {k : Bool} : kBNot k G = .ok (!k) G := rfl
theorem eFld_e {ks : List (String × Nat)} : eFld ks e env G = (e env G).bind (kUn (pure1 (gFld ks))) := rfl
theorem runB_e : runB i m us G = retO (m (env0 i us) G) := rfl
theorem env0_e : env0 i us = us.map .ev ++ List.replicate (i - us.length) .no := rfl
theorem oN_e : oNone env G = .ok none G := rfl
theorem oS_e : oSome e env G = (e env G).bind kOS := rfl
theorem kOS_e : kOS (.d (.int z)) G = .ok (some z) G := rfl
theorem eSl_e : eSl e lo hi env G = (e env G).bind (kSl1 lo hi env) := rfl
theorem kSl1_e : kSl1 lo hi env u G = (lo env G).bind (kSl2 hi env u) := rfl
theorem kSl2_e : kSl2 hi env u oz G = (hi env G).bind (kSl3 u oz) := rfl
theorem kSl3_e : kSl3 (.d (.lst xs)) oz ow G = .ok (.d (.lst (cutL xs oz ow))) G := rfl
theorem eSlT_e : eSlT e lo hi env G = (e env G).bind (kSt1 lo hi env) := rfl
theorem kSt1_e : kSt1 lo hi env u G = (lo env G).bind (kSt2 hi env u) := rfl
theorem kSt2_e : kSt2 hi env u oz G = (hi env G).bind (kSt3 u oz) := rfl
theorem kSt3_e : kSt3 (.d (.tup xs)) oz ow G = .ok (.d (.tup (cutL xs oz ow))) G := rfl
end
/-! raising, catching -/
def kEr (cl : String) (ok : D → Bool) (env : En) : EV → GS → OutS := fun e G1 => match e with
  | .d x => if ok x = true then .er cl [x] env G1 else .st
  | _ => .st
theorem sEr_e {cl : String} {ok : D → Bool} {m : EM} {env : En} {G : GS} : sEr cl ok m env G = ofE (m env G) env (kEr cl ok env) := rfl
def tryK (i : Nat) (cl : String) (ms : SM) (o : OutS) : OutS := match o with
  | .er k fs env1 G1 => if k = cl ∧ env1.all plainS = true ∧ i < env1.length then afterO i (ms (env1.set i (.exn cl fs)) G1) else .st
  | o => o
theorem sTryAs_e {i : Nat} {cl : String} {mb ms : SM} {env : En} {G : GS} : sTryAs i cl mb ms env G = tryK i cl ms (mb env G) := rfl
theorem tryK_nx {i : Nat} {cl : String} {ms : SM} {env : En} {G : GS} : tryK i cl ms (.nx env G) = .nx env G := rfl
theorem tryK_rt {i : Nat} {cl : String} {ms : SM} {e : EV} {G : GS} : tryK i cl ms (.rt e G) = .rt e G := rfl
theorem tryK_er {i : Nat} {cl : String} {fs : List D} {ms : SM} {env : En} {G : GS} (h : env.all plainS = true) (hi : i < env.length) : tryK i cl ms (.er cl fs env G) = afterO i (ms (env.set i (.exn cl fs)) G) := if_pos ⟨rfl, h, hi⟩
theorem afterO_rt {i : Nat} {e : EV} {G : GS} : afterO i (.rt e G) = .rt e G := rfl
theorem afterO_nx {i : Nat} {env : En} {G : GS} (h : (env.set i .no).all plainS = true) : afterO i (.nx env G) = .nx (env.set i .no) G := if_pos h
def xfK (o : Option D) (G : GS) : Out EV := match o with
  | some x => .ok (.d x) G
  | none => .st
def xfS (sl : Option Sl) (cl : String) (j : Nat) (G : GS) : Out EV := match sl with
  | some (.exn k fs) => if k = cl then xfK fs[j]? G else .st
  | _ => .st
theorem eXf_e {i : Nat} {cl : String} {j : Nat} {env : En} {G : GS} : eXf i cl j env G = xfS env[i]? cl j G := by
  unfold eXf xfS xfK
  cases (env[i]? : Option Sl) with
  | none => rfl
  | some sl => cases sl <;> rfl
theorem xfS_s {cl : String} {fs : List D} {j : Nat} {G : GS} : xfS (some (.exn cl fs)) cl j G = xfK fs[j]? G := if_pos rfl
theorem xfK_s {x : D} {G : GS} : xfK (some x) G = .ok (.d x) G := rfl
theorem plain_n : plainS .no = true := rfl
theorem plain_e {e : EV} : plainS (.ev e) = true := rfl
/-! comprehensions over what is the picture of a list -/
theorem lc_map {α : Type} {f g : α → D} {k : Nat} {te : EM} {env : En} {G : GS} : ∀ (xs : List α), (∀ x ∈ xs, te (env.set k (.ev (.d (f x)))) G = .ok (.d (g x)) G) → lcL k bYes te (xs.map f) env G = .ok (xs.map g) G
  | [], _ => rfl
  | x :: xs, h => by
    rw [List.map_cons, lc_c, bYes_e, bindN_ok, kT_t, h x (List.mem_cons_self ..), bindN_ok, kL1_e, lc_map xs fun y hy => h y (List.mem_cons_of_mem _ hy), bindN_ok]
    rfl
def kRng : List EV → GS → Out (List D) := fun xs G1 => match xs with
  | [.d (.int j)] => if -rngMax ≤ j ∧ j ≤ rngMax then .ok (lRng 0 j.toNat) G1 else .st
  | _ => .st
theorem lRng1_e {r : AM} {env : En} {G : GS} : lRng1 r env G = (r env G).bind kRng := rfl
theorem kRng_1 {G : GS} : kRng [.d (.int 1)] G = .ok [.int 0] G := rfl
theorem kRng_2 {G : GS} : kRng [.d (.int 2)] G = .ok [.int 0, .int 1] G := rfl
theorem kRng_3 {G : GS} : kRng [.d (.int 3)] G = .ok [.int 0, .int 1, .int 2] G := rfl
theorem kRng_4 {G : GS} : kRng [.d (.int 4)] G = .ok [.int 0, .int 1, .int 2, .int 3] G := rfl
theorem kRng_5 {G : GS} : kRng [.d (.int 5)] G = .ok [.int 0, .int 1, .int 2, .int 3, .int 4] G := rfl
theorem kRng_6 {G : GS} : kRng [.d (.int 6)] G = .ok [.int 0, .int 1, .int 2, .int 3, .int 4, .int 5] G := rfl
end DL
/-! reading by simp: try with several clauses, defaults -/
namespace DL
open PySem
def tryN (T : List TEnt) (o : OutS) : OutS := match o with
  | .er k fs env1 G1 => match T.find? fun t => t.1 == k with
    | some t => if env1.all plainS = true ∧ t.2.1 < env1.length then afterO t.2.1 (t.2.2 (env1.set t.2.1 (.exn k fs)) G1) else .st
    | none => .st
  | o => o
theorem sTryN_e {T : List TEnt} {mb : SM} {env : En} {G : GS} : sTryN T mb env G = tryN T (mb env G) := by
  unfold sTryN tryN
  cases mb env G <;> rfl
theorem tryN_nx {T : List TEnt} {env : En} {G : GS} : tryN T (.nx env G) = .nx env G := rfl
theorem tryN_rt {T : List TEnt} {e : EV} {G : GS} : tryN T (.rt e G) = .rt e G := rfl
theorem tryN_h {cl : String} {i : Nat} {ms : SM} {T : List TEnt} {fs : List D} {env : En} {G : GS} (h : env.all plainS = true) (hi : i < env.length) : tryN ((cl, i, ms) :: T) (.er cl fs env G) = afterO i (ms (env.set i (.exn cl fs)) G) := by
  show (match ((cl, i, ms) :: T).find? fun t => t.1 == cl with
    | some t => if env.all plainS = true ∧ t.2.1 < env.length then afterO t.2.1 (t.2.2 (env.set t.2.1 (.exn cl fs)) G) else .st
    | none => .st) = _
  rw [List.find?_cons_of_pos (by simp)]
  exact if_pos ⟨h, hi⟩
theorem tryN_t {cl k : String} {i : Nat} {ms : SM} {T : List TEnt} {fs : List D} {env : En} {G : GS} (h : ¬ cl = k) : tryN ((cl, i, ms) :: T) (.er k fs env G) = tryN T (.er k fs env G) := by
  show (match ((cl, i, ms) :: T).find? fun t => t.1 == k with
    | some t => if env.all plainS = true ∧ t.2.1 < env.length then afterO t.2.1 (t.2.2 (env.set t.2.1 (.exn k fs)) G) else .st
    | none => .st) = _
  rw [List.find?_cons_of_neg (by simpa using h)]
  rfl
theorem dflI_e {ds : List D} {g : IM} {es : List EV} {G : GS} : dflI ds g es G = g (es ++ ds.map EV.d) G := rfl
theorem dflF_e {ds : List D} {g : FM} {es : List EV} {G : GS} : dflF ds g es G = g (es ++ ds.map EV.d) G := rfl
end DL
/-! reading by simp: methods with keywords, properties, not of own truth -/
namespace DL
open PySem
def kMK2 (A : Ar) (g : FM) (x : D) : List EV → GS → Out EV := fun xs G2 => if A (xs.length + 1) = true then g (.d x :: xs) G2 else .st
def kMK (cl : String) (A : Ar) (g : FM) (r : AM) (env : En) : EV → GS → Out EV := fun x G1 => match x with
  | .d (.ins k fs) => if k = cl then (r env G1).bind (kMK2 A g (.ins k fs)) else .st
  | _ => .st
theorem eMethK_e {cl : String} {A : Ar} {g : FM} {mo : EM} {r : AM} {env : En} {G : GS} : eMethK cl A g mo r env G = (mo env G).bind (kMK cl A g r env) := rfl
theorem kMK_e {cl : String} {A : Ar} {g : FM} {r : AM} {env : En} {x : D} {G : GS} (h : kOf (.d x) = some cl) : kMK cl A g r env (.d x) G = (r env G).bind (kMK2 A g x) := by
  cases x with
  | ins k fs => cases h; exact if_pos rfl
  | _ => cases h
theorem kMK2_e {A : Ar} {g : FM} {x : D} {us : List EV} {G : GS} (h : A (us.length + 1) = true) : kMK2 A g x us G = g (.d x :: us) G := if_pos h
def kPr (cl : String) (A : Ar) (g : FM) : EV → GS → Out EV := fun x G1 => match x with
  | .d (.ins k fs) => if k = cl ∧ A 1 = true then lift (toOpt (g [.d (.ins k fs)] G1)) else .st
  | _ => .st
theorem eProp_e {cl : String} {A : Ar} {g : FM} {mo : EM} {env : En} {G : GS} : eProp cl A g mo env G = (mo env G).bind (kPr cl A g) := rfl
theorem kPr_e {cl : String} {A : Ar} {g : FM} {x : D} {G : GS} (h : kOf (.d x) = some cl) (hA : A 1 = true) : kPr cl A g (.d x) G = lift (toOpt (g [.d x] G)) := by
  cases x with
  | ins k fs => cases h; exact if_pos ⟨rfl, hA⟩
  | _ => cases h
def notK : Option (Bool × GS) → Out EV
  | some (b, G2) => .ok (.d (.bl (!b))) G2
  | none => .st
def kNotO (cl : String) (A : Ar) (g : FM) : EV → GS → Out EV := fun x G1 => notK (truO cl A g x G1)
theorem eNotO_e {cl : String} {A : Ar} {g : FM} {me : EM} {env : En} {G : GS} : eNotO cl A g me env G = (me env G).bind (kNotO cl A g) := rfl
theorem kNotO_e {cl : String} {A : Ar} {g : FM} {x : EV} {G : GS} : kNotO cl A g x G = notK (truO cl A g x G) := rfl
theorem notK_s {b : Bool} {G : GS} : notK (some (b, G)) = .ok (.d (.bl (!b))) G := rfl
end DL
set_option Elab.async false
set_option linter.all false
set_option maxRecDepth 100000
set_option maxHeartbeats 4000000
/-! texts of small letters -/
namespace DL
open PySem
end DL
set_option Elab.async false
set_option linter.all false
set_option maxRecDepth 100000
set_option maxHeartbeats 4000000
/-! reading by simp: texts by signs, own lists asked -/
namespace DL
open PySem
end DL
set_option Elab.async false
set_option linter.all false
set_option maxRecDepth 100000
set_option maxHeartbeats 4000000
/-! reading by simp: sorted -/
namespace DL
open PySem
end DL
set_option Elab.async false
set_option linter.all false
set_option maxRecDepth 100000
set_option maxHeartbeats 4000000
/-! reading: comprehensions over a list whose rest leaves the store; ascending names without repeats -/
namespace DL
open PySem
theorem elc_of {k : Nat} {vs : List Nat} {mr : LM} {mt : BM} {me : EM} {env : En} {G G1 G2 : GS} {ds ys : List D} (h1 : mr env G = .ok ds G1) (h2 : lcL k mt me ds (wipeE env vs) G1 = .ok ys G2) (hl : ys.length ≤ 100000) : eLc k vs mr mt me env G = .ok (.d (.lst ys)) G2 := by
  unfold eLc
  rw [h1, bind_ok, h2, bindN_ok, lstMax_e, if_pos hl]
theorem rng_of {n : Nat} (h : n ≤ 1000000) {G : GS} {env : En} {m : AM} (hm : m env G = .ok [.d (.int n)] G) : lRng1 m env G = .ok ((List.range n).map fun i : Nat => D.int (i : Nat)) G := by
  unfold lRng1 lRng rngMax
  rw [hm, bind_ok]
  show (if -1000000 ≤ (n : Int) ∧ (n : Int) ≤ 1000000 then Out.ok ((List.range ((n : Int)).toNat).map fun i : Nat => D.int (0 + (i : Int))) G else .st) = _
  rw [if_pos ⟨by omega, by omega⟩, Int.toNat_natCast]
  congr 1
  exact List.map_congr_left fun i _ => by rw [Int.zero_add]
/-- a loop whose body leaves all as it is -/
theorem for_same {α : Type} {d : α → D} {k : Nat} {b : SM} {env : En} {G : GS} : ∀ (xs : List α) (s0 : Sl), (∀ x ∈ xs, b (env.set k (.ev (.d (d x)))) G = .nx (env.set k (.ev (.d (d x)))) G) → ∃ s, forL k b (xs.map d) (env.set k s0) G = .nx (env.set k s) G
  | [], s0, _ => ⟨s0, rfl⟩
  | x :: xs, s0, h => by
    obtain ⟨s, e⟩ := for_same xs (.ev (.d (d x))) fun y hy => h y (.tail _ hy)
    refine ⟨s, ?_⟩
    rw [List.map_cons, for_c, List.set_set, h x List.mem_cons_self, loopO_nx, e]
/-! ### slices of any kind, own subscripts, read -/
def kSA3 (x : EV) (l : Option Int) (h : Option Int) (G : GS) : Out EV := match x with
  | .d x => (match slD x l h with
    | some y => .ok (.d y) G
    | none => .st)
  | _ => .st
def kSA2 (hi : OM) (env : En) (x : EV) (l : Option Int) (G : GS) : Out EV := (hi env G).bind (kSA3 x l)
def kSA1 (lo hi : OM) (env : En) (x : EV) (G : GS) : Out EV := (lo env G).bind (kSA2 hi env x)
theorem eSlA_e {m : EM} {lo hi : OM} {env : En} {G : GS} : eSlA m lo hi env G = (m env G).bind (kSA1 lo hi env) := rfl
theorem kSA1_e {lo hi : OM} {env : En} {x : EV} {G : GS} : kSA1 lo hi env x G = (lo env G).bind (kSA2 hi env x) := rfl
theorem kSA2_e {hi : OM} {env : En} {x : EV} {l : Option Int} {G : GS} : kSA2 hi env x l G = (hi env G).bind (kSA3 x l) := rfl
theorem kSA3_l {xs : List D} {l h : Option Int} {G : GS} : kSA3 (.d (.lst xs)) l h G = .ok (.d (.lst (cutL xs l h))) G := rfl
theorem kSA3_t {xs : List D} {l h : Option Int} {G : GS} : kSA3 (.d (.tup xs)) l h G = .ok (.d (.tup (cutL xs l h))) G := rfl
def getK (cl : String) (A : Ar) (g : FM) (k : Option String) (x y : EV) (G : GS) : Out EV := match k with
  | some k => if k = cl ∧ A 2 = true then g [x, y] G else .st
  | none => .st
def kGet2 (cl : String) (A : Ar) (g : FM) (x y : EV) (G : GS) : Out EV := getK cl A g (kOf x) x y G
def kGet1 (cl : String) (A : Ar) (g : FM) (mi : EM) (env : En) (x : EV) (G : GS) : Out EV := (mi env G).bind (kGet2 cl A g x)
theorem eGetO_e {cl : String} {A : Ar} {g : FM} {mo mi : EM} {env : En} {G : GS} : eGetO cl A g mo mi env G = (mo env G).bind (kGet1 cl A g mi env) := by
  unfold eGetO kGet1
  congr 1
  funext x G1
  congr 1
  funext y G2
  cases x with
  | d x => cases x <;> rfl
  | o k => rfl
theorem kGet1_e {cl : String} {A : Ar} {g : FM} {mi : EM} {env : En} {x : EV} {G : GS} : kGet1 cl A g mi env x G = (mi env G).bind (kGet2 cl A g x) := rfl
theorem kGet2_e {cl : String} {A : Ar} {g : FM} {x y : EV} {G : GS} : kGet2 cl A g x y G = getK cl A g (kOf x) x y G := rfl
theorem getK_s {cl k : String} {A : Ar} {g : FM} {x y : EV} {G : GS} : getK cl A g (some k) x y G = if k = cl ∧ A 2 = true then g [x, y] G else .st := rfl
end DL
set_option Elab.async false
set_option linter.all false
set_option maxRecDepth 100000
set_option maxHeartbeats 4000000
/-! enumerate of a list or a tuple; pairs as targets of for and of a comprehension -/
namespace DL
open PySem PySem.Spec L2 PyProof.Rows StX ClX
/-! ### what is walked, pair by pair -/
end DL
set_option Elab.async false
set_option linter.all false
set_option maxRecDepth 100000
set_option maxHeartbeats 4000000
/-! for x, y in ..; [.. for x, y in ..] -/
namespace DL
open PySem L2 PyProof.Rows StX ClX
end DL
set_option Elab.async false
set_option linter.all false
set_option maxRecDepth 100000
set_option maxHeartbeats 4000000
/-! own errors of two fields -/
namespace DL
open PySem L2 PyProof.Rows NdefX
/-- the __init__ of an error of two fields -/
def SpE2 (K : PySem.W.Frag) (Cf : String → Addr) (N : String → List Str) (cl : String) (fld fld2 : Str) (ok : D → D → Bool) : Sp := fun vs H Q E => ∃ (B : Addr → Prop) (ρ : List Addr) (G : GS) (a : Addr) (x x2 : D) (v v2 : V), vs = [.ref a, v, v2] ∧ H a = some (exo a (Cf cl) none) ∧ SR ⟨K, Cf, N, B, 0, 0⟩ nM ρ G H ∧
  Rep ⟨K, Cf, N, B, 0, 0⟩ nM ρ H x v ∧ Rep ⟨K, Cf, N, B, 0, 0⟩ nM ρ H x2 v2 ∧ ok x x2 = true ∧ ∀ (d : Addr) (ρ' : List Addr) (H' : Hp), Ge nM ρ H ρ' H' → SR ⟨K, Cf, N, B, 0, 0⟩ nM ρ' G H' → H' d = none → d ≠ a → Q .non (upd (upd (upd H' d (exd d [(fld, v)])) a (exo a (Cf cl) (some d))) d (exd d [(fld2, v2), (fld, v)]))
section
variable {P : Program} {w : World} {K : PySem.W.Frag} {mg : Str → Option Value} {base : Heap} {Cf : String → Addr} {Nf : String → List Str} {N : List Str} {F : NF} {f cc : Addr} {k : Nat} {sf pf pf2 fld fld2 cl : Str} {cn : String} {doc pm ctv oc : Value} {od : Option Addr} {osl : Array (Option Value)}
theorem fn_err2 {p0 p1 ap pos pos2 q1 q2 q3 pos3 q4 q5 q6 pos4 : Pos} {e : Expr} {m : EM} {ok : D → D → Bool} (S : SX.SupF P K F f cc (Cf cn) sf) (lk : K.lookup f = some ⟨oc, od, .func (F.fd doc pm ctv), osl⟩) (hcd : PySem.W.codeIn K (.ref F.c) F.qual = true) (Sc : NScope N [sf, pf, pf2] [("__class__" : Str)] F.scope)
    (T : OexC K (Cf cn)) (hst : PySem.W.nsIn K cStatics "thirdparty.any" = some none) (hsi : PySem.W.ks_superIn K (Cf cn) (Cf cn) "__init__" = some (some (.builtin "ValueError.__init__"))) (hsub : PySem.W.mroIn K (Cf cn) (.ref (Cf cn)) = some true) (hm : mg "super" = none)
    (hno : PySem.W.findIn K (.ref (Cf cn)) fld = some none) (hno2 : PySem.W.findIn K (.ref (Cf cn)) fld2 = some none)
    (hbody : F.body = [.Expr (.Call (.Attribute (.Call (.Name "super" p0) [] [] p1) "__init__" ap) [e] [] pos) pos2, .Assign [.Attribute (.Name sf q1) fld q2] (.Name pf q3) pos3, .Assign [.Attribute (.Name sf q4) fld2 q5] (.Name pf2 q6) pos4])
    (he : ∀ (A : Around) (outer : List Env) (s : Shared) (H : Hp) (E : XK) (B : Addr → Prop), DE (ncx (L2N.CX P w) P w K mg base N F f A outer s H E) ⟨K, Cf, Nf, B, 0, 0⟩ (fun cls d _ H => E cls d H) e m)
    (hok : ∀ x x2 G, ok x x2 = true → ∃ y, m (Sl.no :: Sl.ev (.d x) :: Sl.ev (.d x2) :: List.replicate (N.length - 3) Sl.no) G = .ok y G) (d1 : (sf == ("__debug__" : Str)) = false := by decide) (d2 : (sf == ("__classdict__" : Str)) = false := by decide) (d3 : (pf == ("__debug__" : Str)) = false := by decide) (d4 : (pf == ("__classdict__" : Str)) = false := by decide) (d5 : (pf2 == ("__debug__" : Str)) = false := by decide) (d6 : (pf2 == ("__classdict__" : Str)) = false := by decide)
    (nd : pf ≠ sf := by decide) (hstar : ∀ env, starEach [e] env = (false, eval e env) :: starEach [] env := by intro _; rfl) {pl : Env → Sem Bool}
    (hev : ∀ env, eval (.Call (.Attribute (.Call (.Name "super" p0) [] [] p1) "__init__" ap) [e] [] pos) env = (do
      let ov ← attributeBase (.Call (.Name "super" p0) [] [] p1) "__init__" env (eval (.Call (.Name "super" p0) [] [] p1) env)
      standAt ap.atName
      let (f', first) ← holding [ov] (getMethod ov "__init__" (pl env))
      callWith pos f' first (backTo pos (starEach [e] env)) []) := by intro _; rfl)
    (hsw : ∀ env, swapsWith (.Call (.Attribute (.Call (.Name "super" p0) [] [] p1) "__init__" ap) [e] [] pos) none pos2.line env = pure false := by intro _; rfl) : FnOk P w K mg base (L2N.CX P w) (k + 1) f (F.fd doc pm ctv) [sf, pf, pf2] (SpE2 K Cf Nf cn fld fld2 ok) := by
  have hpre : N.take 4 = [sf, pf, pf2, ("__class__" : Str)] := Sc.pre
  have hlen : 4 ≤ N.length := by have := congrArg List.length hpre; rw [List.length_take] at this; simp at this; omega
  have g0 : N[0]? = some sf := by rw [← List.getElem?_take_of_lt (j := 4) (by omega), hpre]; rfl
  have g1 : N[1]? = some pf := by rw [← List.getElem?_take_of_lt (j := 4) (by omega), hpre]; rfl
  have g2 : N[2]? = some pf2 := by rw [← List.getElem?_take_of_lt (j := 4) (by omega), hpre]; rfl
  have lf : F.scope.names.lookup sf = some .local := Sc.par _ (by simp)
  have lp : F.scope.names.lookup pf = some .local := Sc.par _ (by simp)
  have lp2 : F.scope.names.lookup pf2 = some .local := Sc.par _ (by simp)
  refine SX.fn_sup S lk hcd Sc (fun vs H Q E ⟨_, _, _, _, _, _, _, _, h, _⟩ => by rw [h]; rfl) fun A outer s H vs Q E hr hsp s1 I => ?_
  obtain ⟨B, ρ, G, a, x, x2, v, v2, rfl, ea, s0, rx, rx2, hx, q⟩ := hsp
  rw [hbody]
  have hs0 : (startF N [V.ref a, v, v2] [none])[0]? = some (some (.ref a)) := rfl
  have hs1 : (startF N [V.ref a, v, v2] [none])[1]? = some (some v) := rfl
  have hs2 : (startF N [V.ref a, v, v2] [none])[2]? = some (some v2) := rfl
  obtain ⟨y, hy⟩ := hok x x2 G hx
  have R : Rl ⟨K, Cf, Nf, B, 0, 0⟩ nM ρ G (Sl.no :: Sl.ev (.d x) :: Sl.ev (.d x2) :: List.replicate (N.length - 3) Sl.no) (startF N [V.ref a, v, v2] [none]) H := by
    refine ⟨s0, by unfold startF; simp; omega, fun _ => 0, fun i sl z => ?_, fun i j o u z => ?_⟩
    · match i, z with
      | 0, z => cases z; trivial
      | 1, z => cases z; exact ⟨v, hs1, rx⟩
      | 2, z => cases z; exact ⟨v2, hs2, rx2⟩
      | i + 3, z =>
        have z' : (List.replicate (N.length - 3) Sl.no)[i]? = some sl := z
        rw [List.eq_of_mem_replicate (List.mem_of_getElem? z')]
        trivial
    · have := List.mem_of_getElem? z
      simp at this
  have nρ : a ∉ ρ := fun hm => by
    obtain ⟨i, hi⟩ := List.getElem?_of_mem hm
    have hl : i < G.length := by rw [← s0.len]; exact (List.getElem?_eq_some_iff.mp hi).1
    cases hg : G[i] with
    | lst xs =>
      obtain ⟨b, ws, p, z, _⟩ := s0.at_ i xs (by rw [List.getElem?_eq_getElem hl, hg])
      rw [hi] at p; cases p
      rw [ea] at z; exact exo_lst (Option.some.inj z)
  refine ks_wpAt_execs_cons (ks_wpAt_Expr_any (SX.sup_init S I g0 hs0 T ea hsub hst hsi hm (da_cons (he A outer s H E B) da_nil (hstar _)) ⟨nM, ρ, G, _, R, ?_⟩ (hstar _) (by rfl) (hev _)) (by unfold interactive; simp [Sc.kind]) (hsw _))
  show TQ _ _ _ _ _ _ _ ((m _ G).bind fun z G1 => (Out.ok [] G1).bind fun zs G2 => .ok (z :: zs) G2) _
  rw [hy]
  intro us ρ' H' ge s' r
  refine ⟨by rw [← r.length]; exact Nat.le_of_ble_eq_true rfl, ge.keep _ _ ea nρ, fun s2 J => ?_⟩
  have hc : PSs (ncx (L2N.CX P w) P w K mg base N F f A outer s H E) [.Assign [.Attribute (.Name sf q1) fld q2] (.Name pf q3) pos3, .Assign [.Attribute (.Name sf q4) fld2 q5] (.Name pf2 q6) pos4] (tSeq (tOst K fld (tVar 0) (tVar 1)) (tOst K fld2 (tVar 0) (tVar 2))) :=
    pss_cons (ps_ost (pe_var g0 (.inl lf) d1 d2) (pe_var g1 (.inl lp) d3 d4) (by rfl)) (pss_one (ps_ost (pe_var g0 (.inl lf) d1 d2) (pe_var g2 (.inl lp2) d5 d6) (by rfl)))
  refine wpAt_of_wpAny (hc.run [] s2 _ H' { nx := fun _ H' => Q .non H', rt := Q } J ⟨v, hs1, .ref a, hs0, a, Cf cn, rfl, T, hno, .inl ⟨ge.keep _ _ ea nρ, fun d hd hda => ?_⟩⟩)
  exact ⟨v2, hs2, .ref a, hs0, a, Cf cn, rfl, T, hno2, .inr ⟨d, [(fld, v)], upd_same, by rw [upd_ne hda, upd_same], Nat.le_of_ble_eq_true rfl, q d ρ' H' ge s' hd hda⟩⟩
end
/-- raise C(e, e2), of two fields: the later first -/
def kEr2 (cl : String) (ok : D → D → Bool) (env : En) : EV → EV → GS → OutS := fun e e2 G2 => match e, e2 with
  | .d x, .d x2 => if ok x x2 = true then .er cl [x2, x] env G2 else .st
  | _, _ => .st
def sEr2 (cl : String) (ok : D → D → Bool) (m m2 : EM) : SM := fun env G => ofE (m env G) env fun e G1 => ofE (m2 env G1) env fun e2 G2 => kEr2 cl ok env e e2 G2
section
variable {X : Cx} {c : RC} {W : WX} {e e2 : Expr} {m m2 : EM} {p pos pos' : Pos}
theorem ds_raise2 {x fld fld2 : Str} {cl : String} {fI : Addr} {k : Nat} {fd : FuncData} {ps : List Str} {ok : D → D → Bool} (T : OexC X.K (c.C cl)) (iC : PySem.W.findIn X.K (.ref (c.C cl)) "__init__" = some (some (.ref fI))) (tI : PySem.W.typeIn X.K (.ref fI) = some (.type "function"))
    (Fi : FnOk X.prog X.w X.K X.mg X.base (L2N.CX X.prog X.w) k fI fd ps (SpE2 X.K c.C c.N cl fld fld2 ok)) (hN : (c.N cl).take 2 = [fld2, fld]) (hK : c.K = X.K) (hr : Room (k + 1) X.A) (hb : Binds X.K fd ps []) (hc : X.calm = true) (tk : L2N.Takes X W) (hg : Gl X x) (hm : X.mg x = some (.ref (c.C cl))) (ha : DE X c W e m) (ha2 : DE X c W e2 m2)
    (hdb : (x == ("__debug__" : Str)) = false := by decide) (he : starEach [e, e2] X.env = (false, eval e X.env) :: starEach [e2] X.env := by rfl) (he2 : starEach [e2] X.env = (false, eval e2 X.env) :: starEach [] X.env := by rfl) : DS X c W (.Raise (some (.Call (.Name x p) [e, e2] [] pos)) none pos') (sEr2 cl ok m m2) := by
  refine ps_imp (L2N.ps_raise hc tk (SX.pmkN_oex T iC tI Fi hr hb pass_no hg hm (da_cons ha (da_cons ha2 da_nil he2) he) hdb he (by rw [he2]; rfl))) fun Dn σ H q => ?_
  obtain ⟨M, ρ, G, env, R, q⟩ := q
  refine ⟨M, ρ, G, env, R, ?_⟩
  show TQ (RA c) c W M ρ σ H ((m env G).bind fun z G1 => ((m2 env G1).bind fun z2 G2 => (Out.ok [] G2).bind fun zs G2 => .ok (z2 :: zs) G2).bind fun zs G2 => .ok (z :: zs) G2) _
  unfold sEr2 at q
  cases hm1 : m env G with
  | st => rw [hm1] at q; exact q.elim
  | er cl' fs G1 => rw [hm1] at q; exact fun dd gs ρ' H' g s e' f => q M ρ' σ H' dd gs g.gr (R.ge g s) e' f
  | ok z G1 =>
   rw [hm1] at q
   show TQ (RA c) c W M ρ σ H (((m2 env G1).bind fun z2 G2 => (Out.ok [] G2).bind fun zs G2 => .ok (z2 :: zs) G2).bind fun zs G2 => .ok (z :: zs) G2) _
   replace q : SQ c W M ρ H (ofE (m2 env G1) env fun e2 G2 => kEr2 cl ok env z e2 G2) Dn := q
   cases hm2 : m2 env G1 with
   | st => rw [hm2] at q; exact q.elim
   | er cl' fs G2 => rw [hm2] at q; exact fun dd gs ρ' H' g s e' f => q M ρ' σ H' dd gs g.gr (R.ge g s) e' f
   | ok z2 G2 =>
    rw [hm2] at q
    cases z with
    | o i => exact (show False from q).elim
    | d x1 =>
     cases z2 with
     | o i => exact (show False from q).elim
     | d x2 =>
      have q' : SQ c W M ρ H (if ok x1 x2 = true then .er cl [x2, x1] env G2 else .st) Dn := q
      split at q'
      · rename_i hx
        intro vs ρ1 H1 g s r
        cases r with
        | @cons _ v _ _ rv rn =>
        cases rn with
        | @cons _ v2 _ _ rv2 rn =>
        cases rn
        refine ⟨by simp, fun a na => ?_⟩
        have sm : Same H1 (upd H1 a (exo a (c.C cl) none)) := same_upd na
        have sI : SR (sub c M) nM ρ1 G2 (upd H1 a (exo a (c.C cl) none)) := s.in_.same sm
        refine ⟨(sub c M).B, ρ1, G2, a, x1, x2, v, v2, rfl, upd_same, by rw [← hK]; exact sI, by rw [← hK]; exact Rep.cv cv_in (Rep.grow rv (Gr.same sm)), by rw [← hK]; exact Rep.cv cv_in (Rep.grow rv2 (Gr.same sm)), hx, fun d ρ' H' ge s' hd hda => ?_⟩
        rw [← hK] at s'
        have s2 : SR c M ρ' G2 H' := SR.out s'
        have hd1 : H1 d = none := by
          cases z : H1 d with
          | none => rfl
          | some o =>
            obtain ⟨o', y⟩ := ge.there d o (sm d o z)
            rw [hd] at y; cases y
        have hadn : a ≠ d := fun y => hda y.symm
        refine ⟨rfl, d, [(fld2, v2), (fld, v)], by rw [upd_ne hadn, upd_same], upd_same, hd1, ?_⟩
        obtain ⟨HF, hHF⟩ : ∃ HF : Hp, HF = upd (del (upd (upd (upd H' d (exd d [(fld, v)])) a (exo a (c.C cl) (some d))) d (exd d [(fld2, v2), (fld, v)])) a) d (.xd [(fld2, v2), (fld, v)]) := ⟨_, rfl⟩
        rw [← hHF]
        have hF : ∀ b o, b ≠ a → H' b = some o → HF b = some o := fun b o hb z => by
          have hbd : b ≠ d := fun y => by rw [y, hd] at z; cases z
          rw [hHF, upd_ne hbd, del_ne hb, upd_ne hbd, upd_ne hb, upd_ne hbd]
          exact z
        have aρ : a ∉ ρ1 := fun hm' => by
          obtain ⟨i, hi⟩ := List.getElem?_of_mem hm'
          have hl : i < G2.length := by rw [← s.len]; exact (List.getElem?_eq_some_iff.mp hi).1
          cases hg' : G2[i] with
          | lst xs =>
            obtain ⟨b, ws, p', z, _⟩ := s.at_ i xs (by rw [List.getElem?_eq_getElem hl, hg'])
            rw [hi] at p'; cases p'
            rw [na] at z; cases z
        have off : Off a H' HF := ⟨⟨_, _, _, ge.keep _ _ upd_same aρ⟩, hF⟩
        have nMa : ¬ M a := fun z => s.mt a z na
        have nBa : ¬ c.B a := fun z => s.bt a z na
        have sF : SR c M ρ' G2 HF := s2.off off nMa nBa
        have g1 : Ge M ρ1 H1 ρ' HF := by
          obtain ⟨ext, e1, e2⟩ := ge.grow
          refine ⟨fun b o z nb => ?_, fun b o z => ?_, ext, e1, fun b hb => ?_⟩
          · have hba : b ≠ a := fun y => by rw [y, na] at z; cases z
            exact hF b o hba (ge.keep b o (sm b o z) nb)
          · have hba : b ≠ a := fun y => by rw [y, na] at z; cases z
            obtain ⟨o', y⟩ := ge.there b o (sm b o z)
            exact ⟨o', hF b o' hba y⟩
          · have := e2 b hb
            by_cases hba : b = a
            · rw [hba, upd_same] at this; cases this
            · rw [upd_ne hba] at this; exact this
        refine q' M ρ' σ HF d [(fld2, v2), (fld, v)] (g.trans g1).gr (R.ge (g.trans g1) sF) (by rw [hHF, upd_same]) ⟨by simpa using hN.symm, .cons (Rep.grow rv2 g1.gr) (.cons (Rep.grow rv g1.gr) .nil)⟩
      · exact q'.elim
end
structure ErrF2 (P : Program) (K : PySem.W.Frag) (mg : Str → Option Value) (Ca f : Addr) (fd : FuncData) (st : Stmt) (nm qual sf pf pf2 fld fld2 : Str) : Prop where
  ex : ∃ (cc c : Addr) (oc doc pm ctv : Value) (od : Option Addr) (osl : Array (Option Value)), fd = (nfo st nm qual cc c).fd doc pm ctv ∧ K.lookup f = some ⟨oc, od, .func ((nfo st nm qual cc c).fd doc pm ctv), osl⟩ ∧ PySem.W.codeIn K (.ref c) qual = true ∧ SX.SupF P K (nfo st nm qual cc c) f cc Ca sf
  T : OexC K Ca
  ini : PySem.W.findIn K (.ref Ca) "__init__" = some (some (.ref f))
  ty : PySem.W.typeIn K (.ref f) = some (.type "function")
  hst : PySem.W.nsIn K cStatics "thirdparty.any" = some none
  hsi : PySem.W.ks_superIn K Ca Ca "__init__" = some (some (.builtin "ValueError.__init__"))
  hsub : PySem.W.mroIn K Ca (.ref Ca) = some true
  hm : mg "super" = none
  hno : PySem.W.findIn K (.ref Ca) fld = some none
  hno2 : PySem.W.findIn K (.ref Ca) fld2 = some none
  bd : Binds K fd [sf, pf, pf2] []
  xf : XfC K Ca
section
variable {P : Program} {w : World} {K : PySem.W.Frag} {mg : Str → Option Value} {base : Heap} {Cf : String → Addr} {Nf : String → List Str} {N : List Str} {f : Addr} {sf pf pf2 fld fld2 nm qual : Str} {cn : String} {fd : FuncData} {st : Stmt}
theorem err_ok2 {p0 p1 ap pos pos2 q1 q2 q3 pos3 q4 q5 q6 pos4 : Pos} {e : Expr} {m : EM} {ok : D → D → Bool} (T : ErrF2 P K mg (Cf cn) f fd st nm qual sf pf pf2 fld fld2) (Sc : NScope N [sf, pf, pf2] [("__class__" : Str)] (defScope st))
    (hbody : defBody st = [.Expr (.Call (.Attribute (.Call (.Name "super" p0) [] [] p1) "__init__" ap) [e] [] pos) pos2, .Assign [.Attribute (.Name sf q1) fld q2] (.Name pf q3) pos3, .Assign [.Attribute (.Name sf q4) fld2 q5] (.Name pf2 q6) pos4])
    (he : ∀ (cc c : Addr) (A : Around) (outer : List Env) (s : Shared) (H : Hp) (E : XK) (B : Addr → Prop), DE (ncx (L2N.CX P w) P w K mg base N (nfo st nm qual cc c) f A outer s H E) ⟨K, Cf, Nf, B, 0, 0⟩ (fun cls d _ H => E cls d H) e m)
    (hok : ∀ x x2 G, ok x x2 = true → ∃ y, m (Sl.no :: Sl.ev (.d x) :: Sl.ev (.d x2) :: List.replicate (N.length - 3) Sl.no) G = .ok y G) (d1 : (sf == ("__debug__" : Str)) = false := by decide) (d2 : (sf == ("__classdict__" : Str)) = false := by decide) (d3 : (pf == ("__debug__" : Str)) = false := by decide) (d4 : (pf == ("__classdict__" : Str)) = false := by decide) (d5 : (pf2 == ("__debug__" : Str)) = false := by decide) (d6 : (pf2 == ("__classdict__" : Str)) = false := by decide)
    (nd : pf ≠ sf := by decide) (hstar : ∀ env, starEach [e] env = (false, eval e env) :: starEach [] env := by intro _; rfl) {pl : Env → Sem Bool}
    (hev : ∀ env, eval (.Call (.Attribute (.Call (.Name "super" p0) [] [] p1) "__init__" ap) [e] [] pos) env = (do
      let ov ← attributeBase (.Call (.Name "super" p0) [] [] p1) "__init__" env (eval (.Call (.Name "super" p0) [] [] p1) env)
      standAt ap.atName
      let (f', first) ← holding [ov] (getMethod ov "__init__" (pl env))
      callWith pos f' first (backTo pos (starEach [e] env)) []) := by intro _; rfl)
    (hsw : ∀ env, swapsWith (.Call (.Attribute (.Call (.Name "super" p0) [] [] p1) "__init__" ap) [e] [] pos) none pos2.line env = pure false := by intro _; rfl) : FnOk P w K mg base (L2N.CX P w) 1 f fd [sf, pf, pf2] (SpE2 K Cf Nf cn fld fld2 ok) := by
  obtain ⟨cc, c, oc, doc, pm, ctv, od, osl, rfl, lk, hcd, S⟩ := T.ex
  exact fn_err2 (k := 0) S lk hcd Sc T.T T.hst T.hsi T.hsub T.hm T.hno T.hno2 hbody (he cc c) hok d1 d2 d3 d4 d5 d6 nd hstar hev hsw
end
/-- two numbers whose texts are short -/
def okII : D → D → Bool
  | .int i, .int j => decide (i.natAbs.log2 < 1920) && decide (j.natAbs.log2 < 1920)
  | _, _ => false
theorem okII_1 {i j : Int} (h : okII (.int i) (.int j) = true) : i.natAbs.log2 < 1920 := of_decide_eq_true (Bool.and_eq_true_iff.mp h).1
theorem okII_2 {i j : Int} (h : okII (.int i) (.int j) = true) : j.natAbs.log2 < 1920 := of_decide_eq_true (Bool.and_eq_true_iff.mp h).2
end DL
set_option Elab.async false
set_option linter.all false
set_option maxRecDepth 100000
set_option maxHeartbeats 4000000
/-! tuple * int, list * int -/
namespace DL
open PySem PySem.Spec L2 PyProof.Rows StX ClX
theorem tuple_mul1 (l : Addr) (items : Array Value) (n : Nat) (sl : Array (Option Value)) (u : Tok) (dd : Option Addr) :
    Meets (Builtin.«tuple.__mul__» ⟨[.ref l, .int 1 u], []⟩) (fun _ R s => s.heap.get? l = some { cls := .type "tuple", dict := dd, data := .seq items n, slots := sl } ∧ R (.ok (.ret (Value.ref l))) s) :=
  .of_wp fun prog w A R s h => by
    obtain ⟨hp, g, d, tk, os⟩ := s
    obtain ⟨hl, h⟩ := h
    have f1 := AutoSeq1.idx_int
    have c0 : (decide ((1 : Int) < -(2 ^ 63)) || decide ((1 : Int) ≥ 2 ^ 63)) = false := by decide
    have c1 : (items.isEmpty || (1 : Int) == 1) = true := by simp
    wp_walk using wpAny_loadPart' hl
    repeat (first
      | (refine wpAny_ite_false (decide_eq_false (by rw [c0]; exact Bool.false_ne_true)) ?_; wp_walk using wpAny_loadPart' hl)
      | (refine wpAny_ite_true (decide_eq_true (by rw [c1])) ?_; wp_walk using wpAny_loadPart' hl))
    exact ⟨_, rfl, h⟩
theorem int_rmul_listS (a : Int) (t : Tok) (l : Addr) (items : Array Value) (n : Nat) (sl : Array (Option Value)) :
    Meets (Builtin.«int.__rmul__» ⟨[.int a t, .ref l], []⟩) (fun _ R s => s.heap.get? l = some { cls := .type "list", dict := none, data := .seq items n, slots := sl } ∧ R (.ok (.ret Value.notImplemented)) s) :=
  .of_wp fun prog w A R s h => by obtain ⟨hp, g, d, tk, os⟩ := s; obtain ⟨hl, h⟩ := h; wp_walk using wpAny_loadPart' hl; exact ⟨_, rfl, h⟩
theorem list_mulS (l : Addr) (items : Array Value) (n : Nat) (sl : Array (Option Value)) (x : Int) (u : Tok) (hc0 : ¬(!Builtin.List.listFitsIndex x) = true) (hc1 : ¬items.size * x.toNat > (2 ^ 63 - 1) / 8) (hc2 : ¬Builtin.List.listTooLong (items.size * x.toNat) = true) :
    Meets (Builtin.«list.__mul__» ⟨[.ref l, .int x u], []⟩) (fun _ R s => s.heap.get? l = some { cls := .type "list", dict := none, data := .seq items n, slots := sl } ∧ R (.ok (.ret (Value.ref s.heap.objs.size))) { s with heap := s.heap.push { cls := Value.type "list", data := Data.seq (List.foldl (fun x1 x2 => x1 ++ x2) #[] (List.replicate (if items.isEmpty = true then 0 else x.toNat) items)) }, toks := s.toks }) :=
  .of_wp fun prog w A R s h => by
    obtain ⟨hp, g, d, tk, os⟩ := s; obtain ⟨hl, h⟩ := h
    have hsz := PySem.AutoListH.joined_fits hc2
    have f1 := AutoSeq1.idx_int
    wp_walk using wpAny_loadPart' hl; refine wpAny_ite_false (decide_eq_false (Nat.not_lt.mpr hsz)) ?_; wp_walk using wpAny_loadPart' hl; exact ⟨_, rfl, h⟩
def rRepT1 (K : PySem.W.Frag) : R2 := fun x y H Q => ∃ l xs, x = .ref l ∧ y = .int 1 ∧ SqT K H l xs ∧ Q (.ref l) H
def rRepS (K : PySem.W.Frag) : R2 := fun x y H Q => ∃ l k xs, x = .ref l ∧ y = .int k ∧ SqL K H l xs ∧ -(2 ^ 63) ≤ k ∧ k < 2 ^ 63 ∧ xs.length * k.toNat ≤ sizeLine ∧ ∀ p, H p = none → Q (.ref p) (upd H p (.lst (List.replicate k.toNat xs).flatten))
section
variable {X : Cx}
theorem op_repT1 : OpR X (binaryOp .Mult) (rRepT1 X.K) := by
  intro pins s σ H x y v u Q I rx ry h
  obtain ⟨l, xs, rfl, rfl, hT, q⟩ := h
  cases rx
  obtain ⟨t, rfl⟩ := ry
  obtain ⟨its, r, ⟨⟨cls, dd, data, sl⟩, ho, hc, n, hd⟩, hs⟩ := I.tuple hT
  simp only at hc hd
  subst hc hd
  exact wpAny_binaryOp_repeat_ref (T := "tuple") (U := "int") (by decide) ⟨_, ho, rfl⟩ (fun s' => typeIs_int s' 1 t) noFill_tuple_mul F.fills_int_mul F.slot_int_rmul repeat_tuple F.slot_int_index.lookup
    (call_meets F.slot_int_rmul (typeIs_int s 1 t) F.entry_int_rmul (F.args_int_rmul_2 _ _) (int_rmul_tuple 1 t l its.toArray n dd sl)
      ⟨ho, rfl, ⟨_, ho, rfl⟩, call_meets F.slot_tuple_mul ⟨_, ho, rfl⟩ F.entry_tuple_mul (F.args_tuple_mul_2 _ _) (tuple_mul1 l its.toArray n sl t dd) ⟨ho, .ref l, H, I, rfl, q⟩⟩)
theorem op_repS : OpR X (binaryOp .Mult) (rRepS X.K) := by
  intro pins s σ H x y v u Q I rx ry h
  obtain ⟨l, k, xs, rfl, rfl, hH, h1, h2, hz, q⟩ := h
  cases rx
  obtain ⟨t, rfl⟩ := ry
  obtain ⟨its, r, ⟨⟨cls, dd, data, sl⟩, n, e, hc, hd, hs'⟩, _⟩ := I.list hH
  simp only at hc hd hs'
  subst hc hd hs'
  have hl : xs.length = its.length := r.length
  have hlen : its.toArray.size * k.toNat ≤ sizeLine := by rw [List.size_toArray, ← hl]; exact hz
  have hcap : ¬ its.toArray.size * k.toNat > (2 ^ 63 - 1) / 8 := by
    have : (sizeLine : Nat) ≤ (2 ^ 63 - 1) / 8 := by decide
    omega
  have hfit : ¬ (!Builtin.List.listFitsIndex k) = true := by
    rw [fitsIndex_both h1 h2]
    exact Bool.false_ne_true
  have hlong : ¬ Builtin.List.listTooLong (its.toArray.size * k.toNat) = true := by
    rw [notLongL hlen]
    exact Bool.false_ne_true
  have hnew : List.foldl (fun x1 x2 => x1 ++ x2) #[] (List.replicate (if its.toArray.isEmpty = true then 0 else k.toNat) its.toArray) = (List.replicate k.toNat its).flatten.toArray := by
    have f0 : ∀ m : Nat, List.foldl (fun x1 x2 => x1 ++ x2) #[] (List.replicate m its.toArray) = (List.replicate m its).flatten.toArray := fun m => by
      have := foldl_rep its m []
      rw [List.nil_append] at this
      exact this
    rw [f0]
    cases its with
    | nil => simp
    | cons a r' => rw [if_neg (by simp)]
  refine wpAny_binaryOp_repeat_ref (T := "list") (U := "int") (by decide) ⟨_, e, rfl⟩ (fun s' => typeIs_int s' k t) noFill_list_mul F.fills_int_mul F.slot_int_rmul repeat_list F.slot_int_index.lookup
    (call_meets F.slot_int_rmul (typeIs_int s k t) F.entry_int_rmul (F.args_int_rmul_2 _ _) (int_rmul_listS k t l its.toArray n sl)
      ⟨e, rfl, ⟨_, e, rfl⟩, call_meets F.slot_list_mul ⟨_, e, rfl⟩ F.entry_list_mul (F.args_list_mul_2 _ _) (list_mulS l its.toArray n sl k t hfit hcap hlong) ⟨e, ?_⟩⟩)
  rw [hnew]
  exact ⟨.ref _, _, I.lnew (t' := s.toks) (r.rep k.toNat) (by rw [PyProof.Rows.lm_len_rep_flat, Nat.mul_comm]; exact hz), rfl, q _ I.fresh⟩
end
theorem all2_rep {α β : Type} {R : α → β → Prop} {xs : List α} {ys : List β} (h : All2 R xs ys) : ∀ n : Nat, All2 R (List.replicate n xs).flatten (List.replicate n ys).flatten
  | 0 => .nil
  | n + 1 => by
    rw [List.replicate_succ, List.replicate_succ, List.flatten_cons, List.flatten_cons]
    exact all2_app h (all2_rep h n)
/-- tuple * int, one to a thousand -/
def fRepT : F2 := fun x y G => match x, y with
  | .d (.tup xs), .d (.int k) => if k = 1 then some (.d (.tup xs), G) else if xs ≠ [] ∧ 2 ≤ k ∧ k ≤ 1000 ∧ xs.length ≤ 1000 then some (.d (.tup (List.replicate k.toNat xs).flatten), G) else none
  | _, _ => none
/-- list * int -/
def fRepL : F2 := fun x y G => match x, y with
  | .d (.lst xs), .d (.int k) => if 0 ≤ k ∧ k ≤ 1000 ∧ xs.length ≤ 100 then some (.d (.lst (List.replicate k.toNat xs).flatten), G) else none
  | _, _ => none
section
variable {X : Cx} {c : RC}
theorem dop_repT (hK : c.K = X.K) : OpR X (binaryOp .Mult) (V2 c fRepT) := by
  intro pins s σ H x y v u Q I rx ry h
  obtain ⟨M, ρ, G, a, b, sr, ra, rb, q⟩ := h
  unfold fRepT at q
  split at q
  · rename_i xs k
    obtain ⟨p, us, rfl, z, rr⟩ := Rep.of_tup ra
    obtain rfl := Rep.of_int rb
    split at q
    · rename_i h1
      subst h1
      exact op_repT1 pins s σ H _ _ v u Q I rx ry ⟨p, us, rfl, rfl, by rw [← hK]; exact z.sq, q _ _ _ Ge.refl sr ra⟩
    · split at q
      · rename_i h2
        obtain ⟨h2, h3, h4, h5⟩ := h2
        refine op_repT pins s σ H _ _ v u Q I rx ry ⟨p, k, us, rfl, rfl, by rw [← hK]; exact z.sq, fun e => h2 ?_, h3, h4, by rw [← rr.length]; exact h5, fun w hw => ?_⟩
        · subst e
          cases rr
          rfl
        · have sm : Same H (upd H w (.tup (List.replicate k.toNat us).flatten)) := same_upd hw
          exact q _ _ _ (Ge.same sm) (sr.same sm) (Rep.tup (.inl ⟨sr.fresh hw, .inl upd_same⟩) (reps_grow (all2_rep rr _) (Gr.same sm)))
      · exact q.elim
  · exact q.elim
theorem dop_repL (hK : c.K = X.K) : OpR X (binaryOp .Mult) (V2 c fRepL) := by
  intro pins s σ H x y v u Q I rx ry h
  obtain ⟨M, ρ, G, a, b, sr, ra, rb, q⟩ := h
  unfold fRepL at q
  split at q
  · rename_i xs k
    split at q
    · rename_i h2
      obtain ⟨h2, h3, h5⟩ := h2
      obtain ⟨p, us, rfl, z, rr⟩ := Rep.of_lst ra
      obtain rfl := Rep.of_int rb
      refine op_repS pins s σ H _ _ v u Q I rx ry ⟨p, k, us, rfl, rfl, by rw [← hK]; exact z.sq, by omega, by omega, ?_, fun w hw => ?_⟩
      · rw [← rr.length, sizeLine_eq]
        have a1 : xs.length * k.toNat ≤ 100 * 1000 := Nat.mul_le_mul h5 (by omega)
        omega
      · have sm : Same H (upd H w (.lst (List.replicate k.toNat us).flatten)) := same_upd hw
        exact q _ _ _ (Ge.same sm) (sr.same sm) (Rep.lst (.inl ⟨sr.fresh hw, .inl upd_same⟩) (reps_grow (all2_rep rr _) (Gr.same sm)))
    · exact q.elim
  · exact q.elim
end
end DL
set_option Elab.async false
set_option linter.all false
set_option maxRecDepth 100000
set_option maxHeartbeats 4000000
namespace K61
open PySem L2 PyProof.Rows StX ClX DL
/-! printed by gen.py from the linked text -/
def top (i : Nat) : Stmt := PySem.Challenge.pw_laidink_k61_sheet_made.main.body.getD i (.Pass ⟨0, 0, 0, 0⟩)
def NN : String → List Str := fun k => if k = "Light" then ["bands", "number"] else if k = "Sheet" then ["width", "height", "_lines"] else if k = "UnknownPlace" then ["y", "x"] else []
theorem boot_all : bootBuiltins "all" = some (.builtin "all") := by decide +kernel
theorem boot_bool : bootBuiltins "bool" = some (.type "bool") := by decide +kernel
theorem boot_int : bootBuiltins "int" = some (.type "int") := by decide +kernel
theorem boot_isinstance : bootBuiltins "isinstance" = some (.builtin "isinstance") := by decide +kernel
theorem boot_len : bootBuiltins "len" = some (.builtin "len") := by decide +kernel
theorem boot_tuple : bootBuiltins "tuple" = some (.type "tuple") := by decide +kernel
abbrev s__law_box : Stmt := top 14
abbrev s__law_draw : Stmt := top 15
abbrev s_Sheet___eq__ : Stmt := inClass (top 12) 5
abbrev s_Sheet___init__ : Stmt := inClass (top 12) 0
abbrev s__bands_of : Stmt := top 9
abbrev s_check_band : Stmt := top 8
abbrev s_Light___init__ : Stmt := inClass (top 7) 1
abbrev s__light : Stmt := top 10
abbrev s_Light_numbered : Stmt := inClass (top 7) 2
abbrev s__law_int : Stmt := top 16
abbrev s__law_bands : Stmt := top 17
abbrev s__law_same_light : Stmt := top 18
abbrev s__law_same_state : Stmt := top 19
abbrev s_Sheet_at : Stmt := inClass (top 12) 1
abbrev s__law_same_sheet : Stmt := top 20
abbrev s__law_grid : Stmt := top 21
abbrev s__law_is : Stmt := top 22
abbrev s_law : Stmt := top 23
abbrev s_UnknownPlace___init__ : Stmt := inClass (top 4) 0
structure Tx (P : Program) (K : PySem.W.Frag) (mg : Str → Option Value) (C A : String → Addr) (FD : String → FuncData) : Prop where
  F__law_box : Fun K "_law_box" "_law_box" s__law_box (A "_law_box") (FD "_law_box")
  M__law_box : mg "_law_box" = some (.ref (A "_law_box"))
  F__law_draw : Fun K "_law_draw" "_law_draw" s__law_draw (A "_law_draw") (FD "_law_draw")
  M__law_draw : mg "_law_draw" = some (.ref (A "_law_draw"))
  F_Sheet___eq__ : Fun K "__eq__" "Sheet.__eq__" s_Sheet___eq__ (A "Sheet.__eq__") (FD "Sheet.__eq__")
  F_Sheet___init__ : Fun K "__init__" "Sheet.__init__" s_Sheet___init__ (A "Sheet.__init__") (FD "Sheet.__init__")
  F__bands_of : Fun K "_bands_of" "_bands_of" s__bands_of (A "_bands_of") (FD "_bands_of")
  M__bands_of : mg "_bands_of" = some (.ref (A "_bands_of"))
  F_check_band : Fun K "check_band" "check_band" s_check_band (A "check_band") (FD "check_band")
  M_check_band : mg "check_band" = some (.ref (A "check_band"))
  F_Light___init__ : Fun K "__init__" "Light.__init__" s_Light___init__ (A "Light.__init__") (FD "Light.__init__")
  b_Light___init__ : BindS (FD "Light.__init__") ["self"] "bands"
  F__light : Fun K "_light" "_light" s__light (A "_light") (FD "_light")
  M__light : mg "_light" = some (.ref (A "_light"))
  F_Light_numbered : Fun K "numbered" "Light.numbered" s_Light_numbered (A "Light.numbered") (FD "Light.numbered")
  F__law_int : Fun K "_law_int" "_law_int" s__law_int (A "_law_int") (FD "_law_int")
  M__law_int : mg "_law_int" = some (.ref (A "_law_int"))
  F__law_bands : Fun K "_law_bands" "_law_bands" s__law_bands (A "_law_bands") (FD "_law_bands")
  M__law_bands : mg "_law_bands" = some (.ref (A "_law_bands"))
  F__law_same_light : Fun K "_law_same_light" "_law_same_light" s__law_same_light (A "_law_same_light") (FD "_law_same_light")
  M__law_same_light : mg "_law_same_light" = some (.ref (A "_law_same_light"))
  F__law_same_state : Fun K "_law_same_state" "_law_same_state" s__law_same_state (A "_law_same_state") (FD "_law_same_state")
  M__law_same_state : mg "_law_same_state" = some (.ref (A "_law_same_state"))
  F_Sheet_at : Fun K "at" "Sheet.at" s_Sheet_at (A "Sheet.at") (FD "Sheet.at")
  F__law_same_sheet : Fun K "_law_same_sheet" "_law_same_sheet" s__law_same_sheet (A "_law_same_sheet") (FD "_law_same_sheet")
  M__law_same_sheet : mg "_law_same_sheet" = some (.ref (A "_law_same_sheet"))
  F__law_grid : Fun K "_law_grid" "_law_grid" s__law_grid (A "_law_grid") (FD "_law_grid")
  M__law_grid : mg "_law_grid" = some (.ref (A "_law_grid"))
  F__law_is : Fun K "_law_is" "_law_is" s__law_is (A "_law_is") (FD "_law_is")
  M__law_is : mg "_law_is" = some (.ref (A "_law_is"))
  F_law : Fun K "law" "law" s_law (A "law") (FD "law")
  M_law : mg "law" = some (.ref (A "law"))
  M_Light : mg "Light" = some (.ref (C "Light"))
  M_Sheet : mg "Sheet" = some (.ref (C "Sheet"))
  M_UnknownPlace : mg "UnknownPlace" = some (.ref (C "UnknownPlace"))
  cl_Light : Cls K (C "Light")
  cl_Sheet : Cls K (C "Sheet")
  na_Light_bands : NoAttr K (C "Light") "bands"
  na_Light_number : NoAttr K (C "Light") "number"
  na_Sheet__lines : NoAttr K (C "Sheet") "_lines"
  na_Sheet_height : NoAttr K (C "Sheet") "height"
  na_Sheet_width : NoAttr K (C "Sheet") "width"
  mk_Light : Mk K (C "Light") (A "Light.__init__")
  mk_Sheet : Mk K (C "Sheet") (A "Sheet.__init__")
  me_Sheet_at : Meth K (C "Sheet") "at" (A "Sheet.at")
  cr_Light : ClX.CRead K (C "Light") (.type "type")
  cm_Light_numbered : ∃ p, ClX.CMet K (C "Light") (.type "type") "numbered" p (A "Light.numbered")
  cv_Light_BANDS : ∃ u, ClX.CVal K (C "Light") (.type "type") "BANDS" (.int 6) u
  co_LIGHTS : ∃ u, mg "LIGHTS" = some u ∧ RelV (.int 64) u
  sf_Sheet___eq__ : PySem.W.selfFirst K (C "Sheet") = true
  ow_Sheet___eq__ : PySem.W.findIn K (.ref (C "Sheet")) "__eq__" = some (some (.ref (A "Sheet.__eq__")))
  fn_Sheet___eq__ : PySem.W.isFn K (.ref (A "Sheet.__eq__")) = true
  nf_Sheet_own_Sheet : PySem.W.notFirst K (C "Sheet") (.ref (C "Sheet")) = true
  nf_Sheet_ty_int : PySem.W.notFirst K (C "Sheet") (.type "int") = true
  ic_Light : IsiC K (C "Light")
  ic_Sheet : IsiC K (C "Sheet")
  ik : IsiK K
  it_own_Light_own_Light : PySem.W.kitOne K (.ref (C "Light")) (.ref (C "Light")) = some true
  it_own_Sheet_own_Sheet : PySem.W.kitOne K (.ref (C "Sheet")) (.ref (C "Sheet")) = some true
  it_ty_int_own_Sheet : PySem.W.kitOne K (.type "int") (.ref (C "Sheet")) = some false
  it_ty_tuple_ty_tuple : PySem.W.kitOne K (.type "tuple") (.type "tuple") = some true
  it_ty_int_ty_int : PySem.W.kitOne K (.type "int") (.type "int") = some true
  it_ty_int_ty_bool : PySem.W.kitOne K (.type "int") (.type "bool") = some false
  it_ty_bool_ty_bool : PySem.W.kitOne K (.type "bool") (.type "bool") = some true
  no_all : mg "all" = none
  no_bool : mg "bool" = none
  no_int : mg "int" = none
  no_isinstance : mg "isinstance" = none
  no_len : mg "len" = none
  no_range : mg "range" = none
  no_super : mg "super" = none
  no_tuple : mg "tuple" = none
  er_UnknownPlace : ErrF2 P K mg (C "UnknownPlace") (A "UnknownPlace.__init__") (FD "UnknownPlace.__init__") s_UnknownPlace___init__ "__init__" "UnknownPlace.__init__" "self" "x" "y" "x" "y"
  xm_UnknownPlace_UnknownPlace : PySem.W.exmOne K (.ref (C "UnknownPlace")) (.ref (C "UnknownPlace")) = some true
  bd_Sheet___init__ : ∃ ds, Vals [.bl false] ds ∧ Binds K (FD "Sheet.__init__") ["self", "width", "height", "ground", "inked"] ds
section
variable {P : Program} {w : World} {K : PySem.W.Frag} {mg : Str → Option Value} {base : Heap} {C A : String → Addr} {FD : String → FuncData}
theorem hf_Light_bands (T : Tx P K mg C A FD) : HasF K C NN "bands" "Light" 0 := ⟨T.cl_Light, T.na_Light_bands, by decide +kernel⟩
theorem hf_Light_number (T : Tx P K mg C A FD) : HasF K C NN "number" "Light" 1 := ⟨T.cl_Light, T.na_Light_number, by decide +kernel⟩
theorem hf_Sheet__lines (T : Tx P K mg C A FD) : HasF K C NN "_lines" "Sheet" 2 := ⟨T.cl_Sheet, T.na_Sheet__lines, by decide +kernel⟩
theorem hf_Sheet_height (T : Tx P K mg C A FD) : HasF K C NN "height" "Sheet" 1 := ⟨T.cl_Sheet, T.na_Sheet_height, by decide +kernel⟩
theorem hf_Sheet_width (T : Tx P K mg C A FD) : HasF K C NN "width" "Sheet" 0 := ⟨T.cl_Sheet, T.na_Sheet_width, by decide +kernel⟩
def NT_Sheet : List Tg := [.own "Sheet", .ty "int"]
theorem nt_Sheet (T : Tx P K mg C A FD) : ∀ t ∈ NT_Sheet, PySem.W.notFirst K (C "Sheet") (t.v C) = true := (all_cons (a := .own "Sheet") (p := fun t : Tg => PySem.W.notFirst K (C "Sheet") (t.v C) = true) T.nf_Sheet_own_Sheet (all_cons (a := .ty "int") (p := fun t : Tg => PySem.W.notFirst K (C "Sheet") (t.v C) = true) T.nf_Sheet_ty_int all_nil))
def TB : List (Tg × Tg × Bool) := [(.own "Light", .own "Light", true), (.own "Sheet", .own "Sheet", true), (.ty "int", .own "Sheet", false), (.ty "tuple", .ty "tuple", true), (.ty "int", .ty "int", true), (.ty "int", .ty "bool", false), (.ty "bool", .ty "bool", true)]
theorem isi_tb (T : Tx P K mg C A FD) {t u : Tg} {b : Bool} (h : (t, u, b) ∈ TB) : PySem.W.kitOne K (t.v C) (u.v C) = some b ∧ ∀ k, t = .own k → IsiC K (C k) := (all_cons (a := ((.own "Light", .own "Light", true) : Tg × Tg × Bool)) (p := fun x : Tg × Tg × Bool => PySem.W.kitOne K (x.1.v C) (x.2.1.v C) = some x.2.2 ∧ ∀ k, x.1 = .own k → IsiC K (C k)) ⟨T.it_own_Light_own_Light, fun k e => by cases e; exact T.ic_Light⟩ (all_cons (a := ((.own "Sheet", .own "Sheet", true) : Tg × Tg × Bool)) (p := fun x : Tg × Tg × Bool => PySem.W.kitOne K (x.1.v C) (x.2.1.v C) = some x.2.2 ∧ ∀ k, x.1 = .own k → IsiC K (C k)) ⟨T.it_own_Sheet_own_Sheet, fun k e => by cases e; exact T.ic_Sheet⟩ (all_cons (a := ((.ty "int", .own "Sheet", false) : Tg × Tg × Bool)) (p := fun x : Tg × Tg × Bool => PySem.W.kitOne K (x.1.v C) (x.2.1.v C) = some x.2.2 ∧ ∀ k, x.1 = .own k → IsiC K (C k)) ⟨T.it_ty_int_own_Sheet, fun k e => by cases e⟩ (all_cons (a := ((.ty "tuple", .ty "tuple", true) : Tg × Tg × Bool)) (p := fun x : Tg × Tg × Bool => PySem.W.kitOne K (x.1.v C) (x.2.1.v C) = some x.2.2 ∧ ∀ k, x.1 = .own k → IsiC K (C k)) ⟨T.it_ty_tuple_ty_tuple, fun k e => by cases e⟩ (all_cons (a := ((.ty "int", .ty "int", true) : Tg × Tg × Bool)) (p := fun x : Tg × Tg × Bool => PySem.W.kitOne K (x.1.v C) (x.2.1.v C) = some x.2.2 ∧ ∀ k, x.1 = .own k → IsiC K (C k)) ⟨T.it_ty_int_ty_int, fun k e => by cases e⟩ (all_cons (a := ((.ty "int", .ty "bool", false) : Tg × Tg × Bool)) (p := fun x : Tg × Tg × Bool => PySem.W.kitOne K (x.1.v C) (x.2.1.v C) = some x.2.2 ∧ ∀ k, x.1 = .own k → IsiC K (C k)) ⟨T.it_ty_int_ty_bool, fun k e => by cases e⟩ (all_cons (a := ((.ty "bool", .ty "bool", true) : Tg × Tg × Bool)) (p := fun x : Tg × Tg × Bool => PySem.W.kitOne K (x.1.v C) (x.2.1.v C) = some x.2.2 ∧ ∀ k, x.1 = .own k → IsiC K (C k)) ⟨T.it_ty_bool_ty_bool, fun k e => by cases e⟩ all_nil))))))) _ h
theorem sc__law_box : FnScope ["_law_script", "_law_cell"] ["_law_script"] (defScope s__law_box) := ⟨rfl, rfl, rfl, by decide +kernel, rfl, by decide +kernel, by decide +kernel⟩
@[reducible] def m__law_box : SM := sRet (eObj (aCons (eLcO 1 [1] (lSeq (eSl (eVar 0) (oNone) (oSome (eC (.int 63))))) (bYes) (eFN fInt (aCons (eVar 1) (aNil)))) (aCons (eC (.int 0)) (aCons (eC (.int 1)) (aNil)))))
def g__law_box : FM := runB 2 m__law_box
theorem ok__law_box (T : Tx P K mg C A FD) : FnG P w K mg base C NN 1 (A "_law_box") (arN 1) g__law_box :=
  fng_of T.F__law_box sc__law_box (T.F__law_box.binds (ps := ["_law_script"]) fun _ _ _ _ _ _ us hl => match us, hl with | [_], _ => rfl) (fun cdv Ar outer s H E B hr =>
    (dss_one (ds_ret (de_obj (da_cons (de_lcO (own := [("_law_cell", 1)]) rfl sc__law_box.nd (di_lst rfl (de_slL rfl (de_var (pv 0)) do_none (do_some de_int))) (blkOk_by (own := [("_law_cell", 1)]) (N := ["_law_script", "_law_cell"]) (sc := defScope s__law_box) (by decide +kernel)) (by decide) (fun _ _ _ _ _ => pg_name (i := 1) sc__law_box.nd rfl (Or.inl rfl)) (fun _ _ _ _ _ => dts_nil) (fun _ _ _ _ _ => (de_callT dcall_int rfl T.no_int boot_int (da_cons (de_var (pv 1)) da_nil)))) (da_cons de_int (da_cons de_int da_nil)))))))
theorem sc__law_draw : FnScope ["_law_box_here", "_law_size", "_law_cells", "_law_place", "_law_cell", "_law_state", "_law_power"] ["_law_box_here", "_law_size"] (defScope s__law_draw) := ⟨rfl, rfl, rfl, by decide +kernel, rfl, by decide +kernel, by decide +kernel⟩
@[reducible] def m__law_draw : SM := sSeq (sSet 2 (eOp fIx (eVar 0) (eC (.int 0)))) (sSeq (sSet 3 (eOp fIx (eVar 0) (eC (.int 1)))) (sSeq (sIf (bOf isB (eOp (fEq) (eFN fLen (aCons (eVar 2) (aNil))) (eC (.int 0)))) (sRet (eC (.int 0))) (sNil)) (sSeq (sIf (bAnd (bOf isB (eOp (fLt) (eVar 3) (eFN fLen (aCons (eVar 2) (aNil))))) (bOf isB (eOp (fGe) (eOp fIx (eVar 2) (eVar 3)) (eOp (fPow) (eC (.int 10)) (eC (.int 18)))))) (sSeq (sSet 4 (eOp fIx (eVar 2) (eVar 3))) (sSeq (sSub (eVar 2) (eVar 3) (eOp (fDiv) (eVar 4) (eVar 1))) (sRet (eOp (fMod) (eFN fInt (aCons (eVar 4) (aNil))) (eVar 1))))) (sNil)) (sSeq (sSet 4 (eC (.int 0))) (sSeq (sIf (bOf isB (eOp (fLt) (eVar 3) (eFN fLen (aCons (eVar 2) (aNil))))) (sSet 4 (eOp fIx (eVar 2) (eVar 3))) (sNil)) (sSeq (sSub (eVar 0) (eC (.int 1)) (eOp (fAdd) (eVar 3) (eC (.int 1)))) (sSeq (sSet 5 (eOp (fMod) (eFN fInt (aCons (eOp (fAdd) (eOp (fAdd) (eOp (fAdd) (eOp (fMul) (eOp fIx (eVar 0) (eC (.int 2))) (eC (.int 48271))) (eOp (fMul) (eOp (fMod) (eFN fInt (aCons (eVar 4) (aNil))) (eC (.int 2147483629))) (eC (.int 69621)))) (eVar 3)) (eC (.int 1))) (aNil))) (eC (.int 2147483647)))) (sSeq (sSub (eVar 0) (eC (.int 2)) (eVar 5)) (sSeq (sSet 6 (eOp (fMod) (eFN fInt (aCons (eOp (fAdd) (eOp (fMul) (eVar 5) (eVar 5)) (eOp (fMul) (eVar 5) (eC (.int 16807)))) (aNil))) (eC (.int 998244353)))) (sRet (eOp (fMod) (eFN fInt (aCons (eOp (fDiv) (eVar 6) (eC (.int 5))) (aNil))) (eVar 1))))))))))))
def g__law_draw : FM := runB 7 m__law_draw
theorem ok__law_draw (T : Tx P K mg C A FD) : FnG P w K mg base C NN 1 (A "_law_draw") (arN 2) g__law_draw :=
  fng_of T.F__law_draw sc__law_draw (T.F__law_draw.binds (ps := ["_law_box_here", "_law_size"]) fun _ _ _ _ _ _ us hl => match us, hl with | [_, _], _ => rfl) (fun cdv Ar outer s H E B hr =>
    (dss_cons (ds_set (i := 2) sc__law_draw.nd rfl (Or.inl rfl) (de_ix (dix rfl) (de_var (pv 0)) de_int))
    (dss_cons (ds_set (i := 3) sc__law_draw.nd rfl (Or.inl rfl) (de_ix (dix rfl) (de_var (pv 0)) de_int))
    (dss_cons (ds_if (db_cmp (dop_eq rfl hr.units) (de_callB (dcall_len rfl) rfl T.no_len boot_len (da_cons (de_var (pv 2)) da_nil)) de_int (nomark _)) (dss_one (ds_ret de_int)) dss_nil)
    (dss_cons (ds_if (DW.db (dw_and (db_cmp dop_lt (de_var (pv 3)) (de_callB (dcall_len rfl) rfl T.no_len boot_len (da_cons (de_var (pv 2)) da_nil)) (nomark _)) (dw_and1 (db_cmp dop_ge (de_ix (dix rfl) (de_var (pv 2)) (de_var (pv 3))) (de_op dop_pow de_int de_int) (nomark _))))) (dss_cons (ds_set (i := 4) sc__law_draw.nd rfl (Or.inl rfl) (de_ix (dix rfl) (de_var (pv 2)) (de_var (pv 3))))
    (dss_cons (ds_sub (de_var (pv 2)) (de_var (pv 3)) (de_op dop_div (de_var (pv 4)) (de_var (pv 1))))
    (dss_one (ds_ret (de_op dop_mod (de_callT dcall_int rfl T.no_int boot_int (da_cons (de_var (pv 4)) da_nil)) (de_var (pv 1))))))) dss_nil)
    (dss_cons (ds_set (i := 4) sc__law_draw.nd rfl (Or.inl rfl) de_int)
    (dss_cons (ds_if (db_cmp dop_lt (de_var (pv 3)) (de_callB (dcall_len rfl) rfl T.no_len boot_len (da_cons (de_var (pv 2)) da_nil)) (nomark _)) (dss_one (ds_set (i := 4) sc__law_draw.nd rfl (Or.inl rfl) (de_ix (dix rfl) (de_var (pv 2)) (de_var (pv 3))))) dss_nil)
    (dss_cons (ds_sub (de_var (pv 0)) de_int (de_op dop_add (de_var (pv 3)) de_int))
    (dss_cons (ds_set (i := 5) sc__law_draw.nd rfl (Or.inl rfl) (de_op dop_mod (de_callT dcall_int rfl T.no_int boot_int (da_cons (de_op dop_add (de_op dop_add (de_op dop_add (de_op dop_mul (de_ix (dix rfl) (de_var (pv 0)) de_int) de_int) (de_op dop_mul (de_op dop_mod (de_callT dcall_int rfl T.no_int boot_int (da_cons (de_var (pv 4)) da_nil)) de_int) de_int)) (de_var (pv 3))) de_int) da_nil)) de_int))
    (dss_cons (ds_sub (de_var (pv 0)) de_int (de_var (pv 5)))
    (dss_cons (ds_set (i := 6) sc__law_draw.nd rfl (Or.inl rfl) (de_op dop_mod (de_callT dcall_int rfl T.no_int boot_int (da_cons (de_op dop_add (de_op dop_mul (de_var (pv 5)) (de_var (pv 5))) (de_op dop_mul (de_var (pv 5)) de_int)) da_nil)) de_int))
    (dss_one (ds_ret (de_op dop_mod (de_callT dcall_int rfl T.no_int boot_int (da_cons (de_op dop_div (de_var (pv 6)) de_int) da_nil)) (de_var (pv 1))))))))))))))))
theorem sc_Sheet___eq__ : FnScope ["self", "other"] ["self", "other"] (defScope s_Sheet___eq__) := ⟨rfl, rfl, rfl, by decide +kernel, rfl, by decide +kernel, by decide +kernel⟩
@[reducible] def m_Sheet___eq__ : SM := sRet (eAnd (eFN (fIsi TB) (aCons (eVar 1) (aCons (eC (.cls "Sheet")) (aNil)))) (eAnd (eOp (fEq) (eFld [("Sheet", 0)] (eVar 0)) (eFld [("Sheet", 0)] (eVar 1))) (eAnd (eOp (fEq) (eFld [("Sheet", 1)] (eVar 0)) (eFld [("Sheet", 1)] (eVar 1))) (eOp (fEq) (eFld [("Sheet", 2)] (eVar 0)) (eFld [("Sheet", 2)] (eVar 1))))))
def g_Sheet___eq__ : FM := runB 2 m_Sheet___eq__
theorem ok_Sheet___eq__ (T : Tx P K mg C A FD) : FnG P w K mg base C NN 1 (A "Sheet.__eq__") (arN 2) g_Sheet___eq__ :=
  fng_of T.F_Sheet___eq__ sc_Sheet___eq__ (T.F_Sheet___eq__.binds (ps := ["self", "other"]) fun _ _ _ _ _ _ us hl => match us, hl with | [_, _], _ => rfl) (fun cdv Ar outer s H E B hr =>
    (dss_one (ds_ret (de_and (de_callB (dcall_isi (tb := TB) rfl T.ik (fun _ _ _ h => isi_tb T h)) rfl T.no_isinstance boot_isinstance (da_cons (de_var (pv 1)) (da_cons (de_c (v := V.ref (C "Sheet")) (pe_glob rfl T.M_Sheet rfl) (fun _ _ _ => Rep.cls)) da_nil))) (de_and (de_cmp (dop_eq rfl hr.units) (de_fld (ks := [("Sheet", 0)]) rfl (kix_all (all_cons (hf_Sheet_width T) all_nil)) (de_var (pv 0))) (de_fld (ks := [("Sheet", 0)]) rfl (kix_all (all_cons (hf_Sheet_width T) all_nil)) (de_var (pv 1))) (nomark _)) (de_and (de_cmp (dop_eq rfl hr.units) (de_fld (ks := [("Sheet", 1)]) rfl (kix_all (all_cons (hf_Sheet_height T) all_nil)) (de_var (pv 0))) (de_fld (ks := [("Sheet", 1)]) rfl (kix_all (all_cons (hf_Sheet_height T) all_nil)) (de_var (pv 1))) (nomark _)) (de_one (de_cmp (dop_eq rfl hr.units) (de_fld (ks := [("Sheet", 2)]) rfl (kix_all (all_cons (hf_Sheet__lines T) all_nil)) (de_var (pv 0))) (de_fld (ks := [("Sheet", 2)]) rfl (kix_all (all_cons (hf_Sheet__lines T) all_nil)) (de_var (pv 1))) (nomark _)))))))))
theorem sc_Sheet___init__ : FnScope ["self", "width", "height", "ground", "inked", "line"] ["self", "width", "height", "ground", "inked"] (defScope s_Sheet___init__) := ⟨rfl, rfl, rfl, by decide +kernel, rfl, by decide +kernel, by decide +kernel⟩
theorem kb_Sheet___init__ (T : Tx P K mg C A FD) : KBn K (FD "Sheet.__init__") ["self", "width", "height", "ground", "inked"] 4 ["inked"] (· ++ ·) (· ++ ·) := T.F_Sheet___init__.kbn fun _ _ _ _ _ _ us ws h1 h2 => match us, ws, h1, h2 with | [_, _, _, _], [_], _, _ => rfl
@[reducible] def m_Sheet___init___for_Sheet : SM := sSeq (sSet 5 (eOp (alt2 (fMul) (alt2 fRepL fRepT)) (eTup (aCons (eTup (aCons (eFld [("Light", 1)] (eVar 3)) (aCons (eVar 4) (aNil)))) (aNil))) (eVar 1))) (sSeq (sFld 0 "Sheet" 0 (eVar 1)) (sSeq (sFld 0 "Sheet" 1 (eVar 2)) (sFld 0 "Sheet" 2 (eOp (alt2 (fMul) (alt2 fRepL fRepT)) (eTup (aCons (eVar 5) (aNil))) (eVar 2)))))
def g_Sheet___init___for_Sheet : IM := runI 6 "Sheet" m_Sheet___init___for_Sheet
theorem ok_Sheet___init___for_Sheet (T : Tx P K mg C A FD) : FnOk P w K mg base (L2N.CX P w) 1 (A "Sheet.__init__") (FD "Sheet.__init__") ["self", "width", "height", "ground", "inked"] (SpI K C NN "Sheet" (arN 4) g_Sheet___init___for_Sheet) :=
  fnoi_of T.F_Sheet___init__ sc_Sheet___init__ (fun cdv Ar outer s H E B x hr =>
    (dss_cons (ds_set (i := 5) sc_Sheet___init__.nd rfl (Or.inl rfl) (de_op (opr_alt dop_mul (opr_alt (dop_repL rfl) (dop_repT rfl))) (de_tup (da_cons (de_tup (da_cons (de_fld (ks := [("Light", 1)]) rfl (kix_all (all_cons (hf_Light_number T) all_nil)) (de_var (pv 3))) (da_cons (de_var (pv 4)) da_nil))) da_nil)) (de_var (pv 1))))
    (dss_cons (ds_fld (hf_Sheet_width T) (pv 0) (de_var (pv 1)))
    (dss_cons (ds_fld (hf_Sheet_height T) (pv 0) (de_var (pv 2)))
    (dss_one (ds_fld (hf_Sheet__lines T) (pv 0) (de_op (opr_alt dop_mul (opr_alt (dop_repL rfl) (dop_repT rfl))) (de_tup (da_cons (de_var (pv 5)) da_nil)) (de_var (pv 2)))))))))
theorem sc__bands_of : FnScope ["number", "band"] ["number"] (defScope s__bands_of) := ⟨rfl, rfl, rfl, by decide +kernel, rfl, by decide +kernel, by decide +kernel⟩
@[reducible] def m__bands_of : SM := sRet (eLc 1 [1] (lRng1 (aCons (eC (.int 6)) (aNil))) (bOf truE (eOp (fAnd) (eVar 0) (eOp (fShl) (eC (.int 1)) (eVar 1)))) (eVar 1))
def g__bands_of : FM := runB 2 m__bands_of
theorem ok__bands_of (T : Tx P K mg C A FD) : FnG P w K mg base C NN 1 (A "_bands_of") (arN 1) g__bands_of :=
  fng_of T.F__bands_of sc__bands_of (T.F__bands_of.binds (ps := ["number"]) fun _ _ _ _ _ _ us hl => match us, hl with | [_], _ => rfl) (fun cdv Ar outer s H E B hr =>
    (dss_one (ds_ret (de_lc (own := [("band", 1)]) rfl sc__bands_of.nd (di_range1 rfl T.no_range (da_cons (let ⟨_, h1⟩ := T.cv_Light_BANDS; de_cval (cl := "Light") rfl T.M_Light T.cr_Light h1 (fun _ _ _ => Rep.int)) da_nil)) (blkOk_by (own := [("band", 1)]) (N := ["number", "band"]) (sc := defScope s__bands_of) (by decide +kernel)) (by decide) (fun _ _ _ _ _ => pg_name (i := 1) sc__bands_of.nd rfl (Or.inl rfl)) (fun _ _ _ _ _ => (dts_one (db_tru rfl (de_op dop_and (de_var (pv 0)) (de_op dop_shl de_int (de_var (pv 1))))))) (fun _ _ _ _ _ => (de_var (pv 1)))))))
theorem sc_check_band : FnScope ["band"] ["band"] (defScope s_check_band) := ⟨rfl, rfl, rfl, by decide +kernel, rfl, by decide +kernel, by decide +kernel⟩
@[reducible] def m_check_band : SM := sIf (bOr (bOf isB (eOp (fLt) (eVar 0) (eC (.int 0)))) (bOf isB (eOp (fGe) (eVar 0) (eC (.int 6))))) (sSt) (sNil)
def g_check_band : FM := runB 1 m_check_band
theorem ok_check_band (T : Tx P K mg C A FD) : FnG P w K mg base C NN 1 (A "check_band") (arN 1) g_check_band :=
  fng_of T.F_check_band sc_check_band (T.F_check_band.binds (ps := ["band"]) fun _ _ _ _ _ _ us hl => match us, hl with | [_], _ => rfl) (fun cdv Ar outer s H E B hr =>
    (dss_one (ds_if (DW.db (dw_or (db_cmp dop_lt (de_var (pv 0)) de_int (nomark _)) (dw_or1 (db_cmp dop_ge (de_var (pv 0)) (let ⟨_, h1⟩ := T.cv_Light_BANDS; de_cval (cl := "Light") rfl T.M_Light T.cr_Light h1 (fun _ _ _ => Rep.int)) (nomark _))))) (dss_one ds_never) dss_nil)))
theorem sc_Light___init__ : FnScope ["self", "bands", "number", "band"] ["self", "bands"] (defScope s_Light___init__) := ⟨rfl, rfl, rfl, by decide +kernel, rfl, by decide +kernel, by decide +kernel⟩
@[reducible] def m_Light___init__ : SM := sSeq (sSet 2 (eC (.int 0))) (sSeq (sFor 3 (lTup (eVar 1)) (sSeq (sDrop (eCall (arN 1) g_check_band (aCons (eVar 3) (aNil)))) (sSet 2 (eOp (fOr) (eVar 2) (eOp (fShl) (eC (.int 1)) (eVar 3)))))) (sSeq (sFld 0 "Light" 0 (eFN fTuple (aCons (eCall (arN 1) g__bands_of (aCons (eVar 2) (aNil))) (aNil)))) (sFld 0 "Light" 1 (eVar 2))))
def g_Light___init__ : IM := starI 0 (runI 4 "Light" m_Light___init__)
theorem ok_Light___init__ (T : Tx P K mg C A FD) : FnI P w K mg base C NN 2 (A "Light.__init__") "Light" (arS 0) g_Light___init__ :=
  fni_star T.F_Light___init__ sc_Light___init__ T.b_Light___init__ (fun cdv Ar outer s H E B x hr =>
    (dss_cons (ds_set (i := 2) sc_Light___init__.nd rfl (Or.inl rfl) de_int)
    (dss_cons (ds_for (k := 3) (passes_of rfl) rfl (di_tup rfl (de_var (pv 1))) (pg_name (i := 3) sc_Light___init__.nd rfl (Or.inl rfl)) (dss_cons (ds_expr (de_call (ok_check_band T) rfl (hr.mono (by decide)) rfl T.M_check_band T.F_check_band.kp (takesF rfl rfl rfl rfl) (da_cons (de_var (pv 3)) da_nil)))
    (dss_one (ds_set (i := 2) sc_Light___init__.nd rfl (Or.inl rfl) (de_op dop_or (de_var (pv 2)) (de_op dop_shl de_int (de_var (pv 3))))))))
    (dss_cons (ds_fld (hf_Light_bands T) (pv 0) (de_callT (dcall_tuple rfl) rfl T.no_tuple boot_tuple (da_cons (de_call (ok__bands_of T) rfl (hr.mono (by decide)) rfl T.M__bands_of T.F__bands_of.kp (takesF rfl rfl rfl rfl) (da_cons (de_var (pv 2)) da_nil)) da_nil)))
    (dss_one (ds_fld (hf_Light_number T) (pv 0) (de_var (pv 2))))))))
theorem sc__light : FnScope ["number", "bands"] ["number"] (defScope s__light) := ⟨rfl, rfl, rfl, by decide +kernel, rfl, by decide +kernel, by decide +kernel⟩
@[reducible] def m__light : SM := sSeq (sSet 1 (eCall (arN 1) g__bands_of (aCons (eVar 0) (aNil)))) (sRet (eMake "Light" (arS 0) g_Light___init__ (aStX (eVar 1) aNil)))
def g__light : FM := runB 2 m__light
theorem ok__light (T : Tx P K mg C A FD) : FnG P w K mg base C NN 4 (A "_light") (arN 1) g__light :=
  fng_of T.F__light sc__light (T.F__light.binds (ps := ["number"]) fun _ _ _ _ _ _ us hl => match us, hl with | [_], _ => rfl) (fun cdv Ar outer s H E B hr =>
    (dss_cons (ds_set (i := 1) sc__light.nd rfl (Or.inl rfl) (de_call (ok__bands_of T) rfl (hr.mono (by decide)) rfl T.M__bands_of T.F__bands_of.kp (takesF rfl rfl rfl rfl) (da_cons (de_var (pv 0)) da_nil)))
    (dss_one (ds_ret (de_makeSX T.mk_Light (ok_Light___init__ T) rfl (hr.mono (by decide)) rfl T.M_Light (takesF rfl rfl rfl rfl) (de_var (pv 1)))))))
theorem sc_Light_numbered : FnScope ["cls", "number"] ["cls", "number"] (defScope s_Light_numbered) := ⟨rfl, rfl, rfl, by decide +kernel, rfl, by decide +kernel, by decide +kernel⟩
@[reducible] def m_Light_numbered : SM := sSeq (sIf (bOr (bOf isB (eOp (fLt) (eVar 1) (eC (.int 0)))) (bOf isB (eOp (fGe) (eVar 1) (eC (.int 64))))) (sSt) (sNil)) (sRet (eCall (arN 1) g__light (aCons (eVar 1) (aNil))))
def g_Light_numbered : FM := runB 2 m_Light_numbered
theorem ok_Light_numbered (T : Tx P K mg C A FD) : FnG P w K mg base C NN 5 (A "Light.numbered") (arN 2) g_Light_numbered :=
  fng_of T.F_Light_numbered sc_Light_numbered (T.F_Light_numbered.binds (ps := ["cls", "number"]) fun _ _ _ _ _ _ us hl => match us, hl with | [_, _], _ => rfl) (fun cdv Ar outer s H E B hr =>
    (dss_cons (ds_if (DW.db (dw_or (db_cmp dop_lt (de_var (pv 1)) de_int (nomark _)) (dw_or1 (db_cmp dop_ge (de_var (pv 1)) (let ⟨_, h1, h2⟩ := T.co_LIGHTS; de_c (pe_glob rfl h1 h2) (fun _ _ _ => .int)) (nomark _))))) (dss_one ds_never) dss_nil)
    (dss_one (ds_ret (de_call (ok__light T) rfl (hr.mono (by decide)) rfl T.M__light T.F__light.kp (takesF rfl rfl rfl rfl) (da_cons (de_var (pv 1)) da_nil))))))
theorem sc__law_int : FnScope ["_law_actual", "_law_expected"] ["_law_actual", "_law_expected"] (defScope s__law_int) := ⟨rfl, rfl, rfl, by decide +kernel, rfl, by decide +kernel, by decide +kernel⟩
@[reducible] def m__law_int : SM := sRet (eAnd (eFN (fIsi TB) (aCons (eVar 0) (aCons (eC (.ty "int")) (aNil)))) (eAnd (eNot (eFN (fIsi TB) (aCons (eVar 0) (aCons (eC (.ty "bool")) (aNil))))) (eOp (fEq) (eVar 0) (eVar 1))))
def g__law_int : FM := runB 2 m__law_int
theorem ok__law_int (T : Tx P K mg C A FD) : FnG P w K mg base C NN 1 (A "_law_int") (arN 2) g__law_int :=
  fng_of T.F__law_int sc__law_int (T.F__law_int.binds (ps := ["_law_actual", "_law_expected"]) fun _ _ _ _ _ _ us hl => match us, hl with | [_, _], _ => rfl) (fun cdv Ar outer s H E B hr =>
    (dss_one (ds_ret (de_and (de_callB (dcall_isi (tb := TB) rfl T.ik (fun _ _ _ h => isi_tb T h)) rfl T.no_isinstance boot_isinstance (da_cons (de_var (pv 0)) (da_cons (de_c (v := V.ty "int") (pe_bltn rfl T.no_int boot_int rfl) (fun _ _ _ => Rep.ty)) da_nil))) (de_and (de_not (de_callB (dcall_isi (tb := TB) rfl T.ik (fun _ _ _ h => isi_tb T h)) rfl T.no_isinstance boot_isinstance (da_cons (de_var (pv 0)) (da_cons (de_c (v := V.ty "bool") (pe_bltn rfl T.no_bool boot_bool rfl) (fun _ _ _ => Rep.ty)) da_nil)))) (de_one (de_cmp (dop_eq rfl hr.units) (de_var (pv 0)) (de_var (pv 1)) (nomark _))))))))
theorem sc__law_bands : FnScope ["_law_number", "_law_k"] ["_law_number"] (defScope s__law_bands) := ⟨rfl, rfl, rfl, by decide +kernel, rfl, by decide +kernel, by decide +kernel⟩
@[reducible] def m__law_bands : SM := sRet (eLc 1 [1] (lRng1 (aCons (eC (.int 6)) (aNil))) (bOf isB (eOp (fEq) (eOp (fMod) (eFN fInt (aCons (eOp (fShr) (eVar 0) (eVar 1)) (aNil))) (eC (.int 2))) (eC (.int 1)))) (eVar 1))
def g__law_bands : FM := runB 2 m__law_bands
theorem ok__law_bands (T : Tx P K mg C A FD) : FnG P w K mg base C NN 1 (A "_law_bands") (arN 1) g__law_bands :=
  fng_of T.F__law_bands sc__law_bands (T.F__law_bands.binds (ps := ["_law_number"]) fun _ _ _ _ _ _ us hl => match us, hl with | [_], _ => rfl) (fun cdv Ar outer s H E B hr =>
    (dss_one (ds_ret (de_lc (own := [("_law_k", 1)]) rfl sc__law_bands.nd (di_range1 rfl T.no_range (da_cons de_int da_nil)) (blkOk_by (own := [("_law_k", 1)]) (N := ["_law_number", "_law_k"]) (sc := defScope s__law_bands) (by decide +kernel)) (by decide) (fun _ _ _ _ _ => pg_name (i := 1) sc__law_bands.nd rfl (Or.inl rfl)) (fun _ _ _ _ _ => (dts_one (db_cmp (dop_eq rfl hr.units) (de_op dop_mod (de_callT dcall_int rfl T.no_int boot_int (da_cons (de_op dop_shr (de_var (pv 0)) (de_var (pv 1))) da_nil)) de_int) de_int (nomark _)))) (fun _ _ _ _ _ => (de_var (pv 1)))))))
theorem sc__law_same_light : FnScope ["_law_actual", "_law_number", "_law_bands_here", "_law_k"] ["_law_actual", "_law_number"] (defScope s__law_same_light) := ⟨rfl, rfl, rfl, by decide +kernel, rfl, by decide +kernel, by decide +kernel⟩
@[reducible] def m__law_same_light : SM := sSeq (sSet 2 (eCall (arN 1) g__law_bands (aCons (eVar 1) (aNil)))) (sSeq (sIf (bOr (bNot (bOf truE (eFN (fIsi TB) (aCons (eVar 0) (aCons (eC (.cls "Light")) (aNil)))))) (bOr (bNot (bOf truE (eFN (fIsi TB) (aCons (eFld [("Light", 0)] (eVar 0)) (aCons (eC (.ty "tuple")) (aNil)))))) (bOf isB (eOp (fNe) (eFN fLen (aCons (eFld [("Light", 0)] (eVar 0)) (aNil))) (eFN fLen (aCons (eVar 2) (aNil))))))) (sRet (eC (.bl false))) (sNil)) (sSeq (sIf (bNot (bOf truE (eCall (arN 2) g__law_int (aCons (eFld [("Light", 1)] (eVar 0)) (aCons (eVar 1) (aNil)))))) (sRet (eC (.bl false))) (sNil)) (sRet (eFN fAll (aCons (eLc 3 [3] (lRng1 (aCons (eFN fLen (aCons (eVar 2) (aNil))) (aNil))) (bYes) (eCall (arN 2) g__law_int (aCons (eOp fIx (eFld [("Light", 0)] (eVar 0)) (eVar 3)) (aCons (eOp fIx (eVar 2) (eVar 3)) (aNil))))) (aNil))))))
def g__law_same_light : FM := runB 4 m__law_same_light
theorem ok__law_same_light (T : Tx P K mg C A FD) : FnG P w K mg base C NN 2 (A "_law_same_light") (arN 2) g__law_same_light :=
  fng_of T.F__law_same_light sc__law_same_light (T.F__law_same_light.binds (ps := ["_law_actual", "_law_number"]) fun _ _ _ _ _ _ us hl => match us, hl with | [_, _], _ => rfl) (fun cdv Ar outer s H E B hr =>
    (dss_cons (ds_set (i := 2) sc__law_same_light.nd rfl (Or.inr rfl) (de_call (ok__law_bands T) rfl (hr.mono (by decide)) rfl T.M__law_bands T.F__law_bands.kp (takesF rfl rfl rfl rfl) (da_cons (de_var (pv 1)) da_nil)))
    (dss_cons (ds_if (DW.db (dw_or (db_not (db_tru rfl (de_callB (dcall_isi (tb := TB) rfl T.ik (fun _ _ _ h => isi_tb T h)) rfl T.no_isinstance boot_isinstance (da_cons (de_var (pv 0)) (da_cons (de_c (v := V.ref (C "Light")) (pe_glob rfl T.M_Light rfl) (fun _ _ _ => Rep.cls)) da_nil))))) (dw_or (db_not (db_tru rfl (de_callB (dcall_isi (tb := TB) rfl T.ik (fun _ _ _ h => isi_tb T h)) rfl T.no_isinstance boot_isinstance (da_cons (de_fld (ks := [("Light", 0)]) rfl (kix_all (all_cons (hf_Light_bands T) all_nil)) (de_var (pv 0))) (da_cons (de_c (v := V.ty "tuple") (pe_bltn rfl T.no_tuple boot_tuple rfl) (fun _ _ _ => Rep.ty)) da_nil))))) (dw_or1 (db_cmp (dop_ne rfl hr.units) (de_callB (dcall_len rfl) rfl T.no_len boot_len (da_cons (de_fld (ks := [("Light", 0)]) rfl (kix_all (all_cons (hf_Light_bands T) all_nil)) (de_var (pv 0))) da_nil)) (de_callB (dcall_len rfl) rfl T.no_len boot_len (da_cons (de_var (pv 2)) da_nil)) (nomark _)))))) (dss_one (ds_ret de_bl)) dss_nil)
    (dss_cons (ds_if (db_not (db_tru rfl (de_call (ok__law_int T) rfl (hr.mono (by decide)) rfl T.M__law_int T.F__law_int.kp (takesF rfl rfl rfl rfl) (da_cons (de_fld (ks := [("Light", 1)]) rfl (kix_all (all_cons (hf_Light_number T) all_nil)) (de_var (pv 0))) (da_cons (de_var (pv 1)) da_nil))))) (dss_one (ds_ret de_bl)) dss_nil)
    (dss_one (ds_ret (de_callB (dcall_all rfl rfl) rfl T.no_all boot_all (da_cons (de_lc (own := [("_law_k", 3)]) rfl sc__law_same_light.nd (di_range1 rfl T.no_range (da_cons (de_callB (dcall_len rfl) rfl T.no_len boot_len (da_cons (de_var (pv 2)) da_nil)) da_nil)) (blkOk_by (own := [("_law_k", 3)]) (N := ["_law_actual", "_law_number", "_law_bands_here", "_law_k"]) (sc := defScope s__law_same_light) (by decide +kernel)) (by decide) (fun _ _ _ _ _ => pg_name (i := 3) sc__law_same_light.nd rfl (Or.inl rfl)) (fun _ _ _ _ _ => dts_nil) (fun _ _ _ _ _ => (de_call (ok__law_int T) rfl (hr.mono (by decide)) rfl T.M__law_int T.F__law_int.kp takesB (da_cons (de_ix (dix rfl) (de_fld (ks := [("Light", 0)]) rfl (kix_all (all_cons (hf_Light_bands T) all_nil)) (de_var (pv 0))) (de_var (pv 3))) (da_cons (de_ix (dix rfl) (de_var (pv 2)) (de_var (pv 3))) da_nil))))) da_nil))))))))
theorem sc__law_same_state : FnScope ["_law_actual", "_law_expected"] ["_law_actual", "_law_expected"] (defScope s__law_same_state) := ⟨rfl, rfl, rfl, by decide +kernel, rfl, by decide +kernel, by decide +kernel⟩
@[reducible] def m__law_same_state : SM := sSeq (sIf (bOr (bNot (bOf truE (eFN (fIsi TB) (aCons (eVar 0) (aCons (eC (.ty "tuple")) (aNil)))))) (bOf isB (eOp (fNe) (eFN fLen (aCons (eVar 0) (aNil))) (eC (.int 2))))) (sRet (eC (.bl false))) (sNil)) (sSeq (sIf (bOr (bNot (bOf truE (eFN (fIsi TB) (aCons (eOp fIx (eVar 0) (eC (.int 1))) (aCons (eC (.ty "bool")) (aNil)))))) (bOf isB (eOp (fNe) (eOp fIx (eVar 0) (eC (.int 1))) (eOp fIx (eVar 1) (eC (.int 1)))))) (sRet (eC (.bl false))) (sNil)) (sRet (eCall (arN 2) g__law_same_light (aCons (eOp fIx (eVar 0) (eC (.int 0))) (aCons (eOp fIx (eVar 1) (eC (.int 0))) (aNil))))))
def g__law_same_state : FM := runB 2 m__law_same_state
theorem ok__law_same_state (T : Tx P K mg C A FD) : FnG P w K mg base C NN 3 (A "_law_same_state") (arN 2) g__law_same_state :=
  fng_of T.F__law_same_state sc__law_same_state (T.F__law_same_state.binds (ps := ["_law_actual", "_law_expected"]) fun _ _ _ _ _ _ us hl => match us, hl with | [_, _], _ => rfl) (fun cdv Ar outer s H E B hr =>
    (dss_cons (ds_if (DW.db (dw_or (db_not (db_tru rfl (de_callB (dcall_isi (tb := TB) rfl T.ik (fun _ _ _ h => isi_tb T h)) rfl T.no_isinstance boot_isinstance (da_cons (de_var (pv 0)) (da_cons (de_c (v := V.ty "tuple") (pe_bltn rfl T.no_tuple boot_tuple rfl) (fun _ _ _ => Rep.ty)) da_nil))))) (dw_or1 (db_cmp (dop_ne rfl hr.units) (de_callB (dcall_len rfl) rfl T.no_len boot_len (da_cons (de_var (pv 0)) da_nil)) de_int (nomark _))))) (dss_one (ds_ret de_bl)) dss_nil)
    (dss_cons (ds_if (DW.db (dw_or (db_not (db_tru rfl (de_callB (dcall_isi (tb := TB) rfl T.ik (fun _ _ _ h => isi_tb T h)) rfl T.no_isinstance boot_isinstance (da_cons (de_ix (dix rfl) (de_var (pv 0)) de_int) (da_cons (de_c (v := V.ty "bool") (pe_bltn rfl T.no_bool boot_bool rfl) (fun _ _ _ => Rep.ty)) da_nil))))) (dw_or1 (db_cmp (dop_ne rfl hr.units) (de_ix (dix rfl) (de_var (pv 0)) de_int) (de_ix (dix rfl) (de_var (pv 1)) de_int) (nomark _))))) (dss_one (ds_ret de_bl)) dss_nil)
    (dss_one (ds_ret (de_call (ok__law_same_light T) rfl (hr.mono (by decide)) rfl T.M__law_same_light T.F__law_same_light.kp (takesF rfl rfl rfl rfl) (da_cons (de_ix (dix rfl) (de_var (pv 0)) de_int) (da_cons (de_ix (dix rfl) (de_var (pv 1)) de_int) da_nil))))))))
theorem sc_UnknownPlace___init__ : NdefX.NScope ["self", "x", "y", "__class__"] ["self", "x", "y"] [("__class__" : Str)] (defScope s_UnknownPlace___init__) := NdefX.nscope_by (by decide +kernel)
@[reducible] def m_UnknownPlace___init__ : EM := eJs [eC (.str "the sheet has no place ("), eUn fFmt (eVar 1), eC (.str ", "), eUn fFmt (eVar 2), eC (.str ")")]
theorem ok_UnknownPlace___init__ (T : Tx P K mg C A FD) : FnOk P w K mg base (L2N.CX P w) 1 (A "UnknownPlace.__init__") (FD "UnknownPlace.__init__") ["self", "x", "y"] (SpE2 K C NN "UnknownPlace" "x" "y" okII) :=
  err_ok2 (cn := "UnknownPlace") (N := ["self", "x", "y", "__class__"]) (m := m_UnknownPlace___init__) T.er_UnknownPlace sc_UnknownPlace___init__ rfl (fun cc c Ar outer s H E B => (de_js (ms := [eC (.str "the sheet has no place ("), eUn fFmt (eVar 1), eC (.str ", "), eUn fFmt (eVar 2), eC (.str ")")]) (PJ.cons de_str (PJ.cons (de_fmt (de_var (pv 1))) (PJ.cons de_str (PJ.cons (de_fmt (de_var (pv 2))) (PJ.cons de_str PJ.nil))))))) (fun x x2 G h => match x, x2, h with | .int i, .int j, h => eJs_ok (all_cons str_ok (all_cons (fmt_ok rfl (okII_1 h)) (all_cons str_ok (all_cons (fmt_ok rfl (okII_2 h)) (all_cons str_ok all_nil))))) (by decide))
theorem sc_Sheet_at : FnScope ["self", "x", "y", "colour", "inked"] ["self", "x", "y"] (defScope s_Sheet_at) := ⟨rfl, rfl, rfl, by decide +kernel, rfl, by decide +kernel, by decide +kernel⟩
@[reducible] def m_Sheet_at : SM := sSeq (sIf (bOr (bOf isB (eOp (fLt) (eVar 1) (eC (.int 0)))) (bOr (bOf isB (eOp (fGe) (eVar 1) (eFld [("Sheet", 0)] (eVar 0)))) (bOr (bOf isB (eOp (fLt) (eVar 2) (eC (.int 0)))) (bOf isB (eOp (fGe) (eVar 2) (eFld [("Sheet", 1)] (eVar 0))))))) (sEr2 "UnknownPlace" okII (eVar 1) (eVar 2)) (sNil)) (sSeq (sUnp [3, 4] (eOp fIx (eOp fIx (eFld [("Sheet", 2)] (eVar 0)) (eVar 2)) (eVar 1))) (sRet (eTup (aCons (eCMeth "Light" (arN 2) g_Light_numbered (aCons (eVar 3) (aNil))) (aCons (eVar 4) (aNil))))))
def g_Sheet_at : FM := runB 5 m_Sheet_at
theorem ok_Sheet_at (T : Tx P K mg C A FD) : FnG P w K mg base C NN 6 (A "Sheet.at") (arN 3) g_Sheet_at :=
  fng_of T.F_Sheet_at sc_Sheet_at (T.F_Sheet_at.binds (ps := ["self", "x", "y"]) fun _ _ _ _ _ _ us hl => match us, hl with | [_, _, _], _ => rfl) (fun cdv Ar outer s H E B hr =>
    (dss_cons (ds_if (DW.db (dw_or (db_cmp dop_lt (de_var (pv 1)) de_int (nomark _)) (dw_or (db_cmp dop_ge (de_var (pv 1)) (de_fld (ks := [("Sheet", 0)]) rfl (kix_all (all_cons (hf_Sheet_width T) all_nil)) (de_var (pv 0))) (nomark _)) (dw_or (db_cmp dop_lt (de_var (pv 2)) de_int (nomark _)) (dw_or1 (db_cmp dop_ge (de_var (pv 2)) (de_fld (ks := [("Sheet", 1)]) rfl (kix_all (all_cons (hf_Sheet_height T) all_nil)) (de_var (pv 0))) (nomark _))))))) (dss_one (ds_raise2 T.er_UnknownPlace.T T.er_UnknownPlace.ini T.er_UnknownPlace.ty (ok_UnknownPlace___init__ T) (show (NN "UnknownPlace").take 2 = [("y" : Str), ("x" : Str)] by decide +kernel) rfl (hr.mono (by decide)) T.er_UnknownPlace.bd rfl (takesF rfl rfl rfl rfl) rfl T.M_UnknownPlace (de_var (pv 1)) (de_var (pv 2)))) dss_nil)
    (dss_cons (ds_unp (is := [3, 4]) rfl rfl (de_ix (dix rfl) (de_ix (dix rfl) (de_fld (ks := [("Sheet", 2)]) rfl (kix_all (all_cons (hf_Sheet__lines T) all_nil)) (de_var (pv 0))) (de_var (pv 2))) (de_var (pv 1))) (pgs_cons (pg_name (i := 3) sc_Sheet_at.nd rfl (Or.inl rfl)) (pgs_cons (pg_name (i := 4) sc_Sheet_at.nd rfl (Or.inl rfl)) pgs_nil)) rfl)
    (dss_one (ds_ret (de_tup (da_cons (let ⟨_, h1⟩ := T.cm_Light_numbered; de_cmeth rfl rfl T.M_Light T.cr_Light h1 (ok_Light_numbered T) (hr.mono (by decide)) (takesF rfl rfl rfl rfl) (da_cons (de_var (pv 3)) da_nil)) (da_cons (de_var (pv 4)) da_nil))))))))
theorem hm_Sheet_at (T : Tx P K mg C A FD) : HasM P w K mg base C NN 6 "at" "Sheet" (arN 3) g_Sheet_at := ⟨T.cl_Sheet, by decide +kernel, _, T.me_Sheet_at, ok_Sheet_at T⟩
theorem sc__law_same_sheet : FnScope ["_law_sheet", "_law_grid_here", "_law_y", "_law_x"] ["_law_sheet", "_law_grid_here"] (defScope s__law_same_sheet) := ⟨rfl, rfl, rfl, by decide +kernel, rfl, by decide +kernel, by decide +kernel⟩
@[reducible] def m__law_same_sheet : SM := sSeq (sIf (bOr (bNot (bOf truE (eCall (arN 2) g__law_int (aCons (eFld [("Sheet", 0)] (eVar 0)) (aCons (eFN fLen (aCons (eOp fIx (eVar 1) (eC (.int 0))) (aNil))) (aNil)))))) (bNot (bOf truE (eCall (arN 2) g__law_int (aCons (eFld [("Sheet", 1)] (eVar 0)) (aCons (eFN fLen (aCons (eVar 1) (aNil))) (aNil))))))) (sRet (eC (.bl false))) (sNil)) (sSeq (sFor 2 (lRng1 (aCons (eFN fLen (aCons (eVar 1) (aNil))) (aNil))) (sFor 3 (lRng1 (aCons (eFN fLen (aCons (eOp fIx (eVar 1) (eC (.int 0))) (aNil))) (aNil))) (sIf (bNot (bOf truE (eCall (arN 2) g__law_same_state (aCons (eMeth [("Sheet", ((arN 3 : DL.Ar), g_Sheet_at))] (eVar 0) (aCons (eVar 3) (aCons (eVar 2) (aNil)))) (aCons (eOp fIx (eOp fIx (eVar 1) (eVar 2)) (eVar 3)) (aNil)))))) (sRet (eC (.bl false))) (sNil)))) (sRet (eC (.bl true))))
def g__law_same_sheet : FM := runB 4 m__law_same_sheet
theorem ok__law_same_sheet (T : Tx P K mg C A FD) : FnG P w K mg base C NN 7 (A "_law_same_sheet") (arN 2) g__law_same_sheet :=
  fng_of T.F__law_same_sheet sc__law_same_sheet (T.F__law_same_sheet.binds (ps := ["_law_sheet", "_law_grid_here"]) fun _ _ _ _ _ _ us hl => match us, hl with | [_, _], _ => rfl) (fun cdv Ar outer s H E B hr =>
    (dss_cons (ds_if (DW.db (dw_or (db_not (db_tru rfl (de_call (ok__law_int T) rfl (hr.mono (by decide)) rfl T.M__law_int T.F__law_int.kp (takesF rfl rfl rfl rfl) (da_cons (de_fld (ks := [("Sheet", 0)]) rfl (kix_all (all_cons (hf_Sheet_width T) all_nil)) (de_var (pv 0))) (da_cons (de_callB (dcall_len rfl) rfl T.no_len boot_len (da_cons (de_ix (dix rfl) (de_var (pv 1)) de_int) da_nil)) da_nil))))) (dw_or1 (db_not (db_tru rfl (de_call (ok__law_int T) rfl (hr.mono (by decide)) rfl T.M__law_int T.F__law_int.kp (takesF rfl rfl rfl rfl) (da_cons (de_fld (ks := [("Sheet", 1)]) rfl (kix_all (all_cons (hf_Sheet_height T) all_nil)) (de_var (pv 0))) (da_cons (de_callB (dcall_len rfl) rfl T.no_len boot_len (da_cons (de_var (pv 1)) da_nil)) da_nil)))))))) (dss_one (ds_ret de_bl)) dss_nil)
    (dss_cons (ds_for (k := 2) (passes_of rfl) rfl (di_range1 rfl T.no_range (da_cons (de_callB (dcall_len rfl) rfl T.no_len boot_len (da_cons (de_var (pv 1)) da_nil)) da_nil)) (pg_name (i := 2) sc__law_same_sheet.nd rfl (Or.inl rfl)) (dss_one (ds_for (k := 3) (passes_of rfl) rfl (di_range1 rfl T.no_range (da_cons (de_callB (dcall_len rfl) rfl T.no_len boot_len (da_cons (de_ix (dix rfl) (de_var (pv 1)) de_int) da_nil)) da_nil)) (pg_name (i := 3) sc__law_same_sheet.nd rfl (Or.inl rfl)) (dss_one (ds_if (db_not (db_tru rfl (de_call (ok__law_same_state T) rfl (hr.mono (by decide)) rfl T.M__law_same_state T.F__law_same_state.kp (takesF rfl rfl rfl rfl) (da_cons (de_meth (lv := 6) rfl (hr.mono (by decide)) (takesF rfl rfl rfl rfl) (fun k A g => kfn_all (all_cons (hm_Sheet_at T) all_nil) k A g) (de_var (pv 0)) (da_cons (de_var (pv 3)) (da_cons (de_var (pv 2)) da_nil))) (da_cons (de_ix (dix rfl) (de_ix (dix rfl) (de_var (pv 1)) (de_var (pv 2))) (de_var (pv 3))) da_nil))))) (dss_one (ds_ret de_bl)) dss_nil)))))
    (dss_one (ds_ret de_bl)))))
theorem sc__law_grid : FnScope ["_law_wide", "_law_high", "_law_colour", "_law_wet", "_law_y"] ["_law_wide", "_law_high", "_law_colour", "_law_wet"] (defScope s__law_grid) := ⟨rfl, rfl, rfl, by decide +kernel, rfl, by decide +kernel, by decide +kernel⟩
@[reducible] def m__law_grid : SM := sRet (eLc 4 [4] (lRng1 (aCons (eVar 1) (aNil))) (bYes) (eOp (alt2 (fMul) (alt2 fRepL fRepT)) (eLst (aCons (eTup (aCons (eVar 2) (aCons (eVar 3) (aNil)))) (aNil))) (eVar 0)))
def g__law_grid : FM := runB 5 m__law_grid
theorem ok__law_grid (T : Tx P K mg C A FD) : FnG P w K mg base C NN 1 (A "_law_grid") (arN 4) g__law_grid :=
  fng_of T.F__law_grid sc__law_grid (T.F__law_grid.binds (ps := ["_law_wide", "_law_high", "_law_colour", "_law_wet"]) fun _ _ _ _ _ _ us hl => match us, hl with | [_, _, _, _], _ => rfl) (fun cdv Ar outer s H E B hr =>
    (dss_one (ds_ret (de_lc (own := [("_law_y", 4)]) rfl sc__law_grid.nd (di_range1 rfl T.no_range (da_cons (de_var (pv 1)) da_nil)) (blkOk_by (own := [("_law_y", 4)]) (N := ["_law_wide", "_law_high", "_law_colour", "_law_wet", "_law_y"]) (sc := defScope s__law_grid) (by decide +kernel)) (by decide) (fun _ _ _ _ _ => pg_name (i := 4) sc__law_grid.nd rfl (Or.inl rfl)) (fun _ _ _ _ _ => dts_nil) (fun _ _ _ _ _ => (de_op (opr_alt dop_mul (opr_alt (dop_repL rfl) (dop_repT rfl))) (de_lst (da_cons (de_tup (da_cons (de_var (pv 2)) (da_cons (de_var (pv 3)) da_nil))) da_nil)) (de_var (pv 0))))))))
theorem sc__law_is : FnScope ["_law_actual", "_law_expected"] ["_law_actual", "_law_expected"] (defScope s__law_is) := ⟨rfl, rfl, rfl, by decide +kernel, rfl, by decide +kernel, by decide +kernel⟩
@[reducible] def m__law_is : SM := sRet (eAnd (eFN (fIsi TB) (aCons (eVar 0) (aCons (eC (.ty "bool")) (aNil)))) (eOp (fEq) (eVar 0) (eVar 1)))
def g__law_is : FM := runB 2 m__law_is
theorem ok__law_is (T : Tx P K mg C A FD) : FnG P w K mg base C NN 1 (A "_law_is") (arN 2) g__law_is :=
  fng_of T.F__law_is sc__law_is (T.F__law_is.binds (ps := ["_law_actual", "_law_expected"]) fun _ _ _ _ _ _ us hl => match us, hl with | [_, _], _ => rfl) (fun cdv Ar outer s H E B hr =>
    (dss_one (ds_ret (de_and (de_callB (dcall_isi (tb := TB) rfl T.ik (fun _ _ _ h => isi_tb T h)) rfl T.no_isinstance boot_isinstance (da_cons (de_var (pv 0)) (da_cons (de_c (v := V.ty "bool") (pe_bltn rfl T.no_bool boot_bool rfl) (fun _ _ _ => Rep.ty)) da_nil))) (de_one (de_cmp (dop_eq rfl hr.units) (de_var (pv 0)) (de_var (pv 1)) (nomark _)))))))
theorem oh__law_int (T : Tx P K mg C A FD) : FnGH P w K mg base C NN 1 (A "_law_int") (arN 2) g__law_int :=
  fngh_of (m := m__law_int) T.F__law_int sc__law_int (T.F__law_int.binds (ps := ["_law_actual", "_law_expected"]) fun _ _ _ _ _ _ us hl => match us, hl with | [_, _], _ => rfl) (fun cdv Ar outer s H E B p hr hot =>
    (dss_one (ds_ret (de_and (de_callB (dcall_isi (tb := TB) rfl T.ik (fun _ _ _ h => isi_tb T h)) rfl T.no_isinstance boot_isinstance (da_cons (de_var (pv 0)) (da_cons (de_c (v := V.ty "int") (pe_bltn rfl T.no_int boot_int rfl) (fun _ _ _ => Rep.ty)) da_nil))) (de_and (de_not (de_callB (dcall_isi (tb := TB) rfl T.ik (fun _ _ _ h => isi_tb T h)) rfl T.no_isinstance boot_isinstance (da_cons (de_var (pv 0)) (da_cons (de_c (v := V.ty "bool") (pe_bltn rfl T.no_bool boot_bool rfl) (fun _ _ _ => Rep.ty)) da_nil)))) (de_one (de_cmp (dop_eq rfl hr.units) (de_var (pv 0)) (de_var (pv 1)) (nomark _))))))))
theorem sc_law : FnScope ["_law_script", "_law_box_here", "_law_wide", "_law_high", "_law_number", "_law_way", "_law_sheet", "_law_two", "_law_change", "_law_other", "_law_same", "_law_turned", "_law_far", "_law_place", "e"] ["_law_script"] (defScope s_law) := ⟨rfl, rfl, rfl, by decide +kernel, rfl, by decide +kernel, by decide +kernel⟩
@[reducible] def m_law : SM := sSeq (sSet 1 (eCall (arN 1) g__law_box (aCons (eVar 0) (aNil)))) (sSeq (sSet 2 (eOp (fAdd) (eC (.int 1)) (eCall (arN 2) g__law_draw (aCons (eVar 1) (aCons (eC (.int 6)) (aNil)))))) (sSeq (sSet 3 (eOp (fAdd) (eC (.int 1)) (eCall (arN 2) g__law_draw (aCons (eVar 1) (aCons (eC (.int 5)) (aNil)))))) (sSeq (sIf (bOf isB (eOp (alt2 (fEq) (fEqO NT_Sheet "Sheet" (arN 2) g_Sheet___eq__)) (eCall (arN 2) g__law_draw (aCons (eVar 1) (aCons (eC (.int 8)) (aNil)))) (eC (.int 7)))) (sSet 2 (eC (.int 39))) (sNil)) (sSeq (sSet 4 (eCall (arN 2) g__law_draw (aCons (eVar 1) (aCons (eC (.int 64)) (aNil))))) (sSeq (sSet 5 (eCall (arN 2) g__law_draw (aCons (eVar 1) (aCons (eC (.int 3)) (aNil))))) (sSeq (sSet 6 (eMake "Sheet" (arN 3) (dflI [.bl false] g_Sheet___init___for_Sheet) (aCons (eVar 2) (aCons (eVar 3) (aCons (eCMeth "Light" (arN 2) g_Light_numbered (aCons (eVar 4) (aNil))) (aNil)))))) (sSeq (sIf (bOf isB (eOp (fGt) (eVar 5) (eC (.int 0)))) (sSet 6 (eMake "Sheet" (arN 4) g_Sheet___init___for_Sheet (aApp 3 1 (aCons (eVar 2) (aCons (eVar 3) (aCons (eCMeth "Light" (arN 2) g_Light_numbered (aCons (eVar 4) (aNil))) (aNil)))) (aCons (eOp (alt2 (fEq) (fEqO NT_Sheet "Sheet" (arN 2) g_Sheet___eq__)) (eVar 5) (eC (.int 2))) (aNil))))) (sNil)) (sSeq (sIf (bNot (bOf truE (eCall (arN 2) g__law_same_sheet (aCons (eVar 6) (aCons (eCall (arN 4) g__law_grid (aCons (eVar 2) (aCons (eVar 3) (aCons (eVar 4) (aCons (eOp (alt2 (fEq) (fEqO NT_Sheet "Sheet" (arN 2) g_Sheet___eq__)) (eVar 5) (eC (.int 2))) (aNil)))))) (aNil)))))) (sRet (eC (.bl false))) (sNil)) (sSeq (sOwn 7 (nLst (aCons (eVar 2) (aCons (eVar 3) (aCons (eVar 4) (aCons (eOp (alt2 (fEq) (fEqO NT_Sheet "Sheet" (arN 2) g_Sheet___eq__)) (eVar 5) (eC (.int 2))) (aNil))))))) (sSeq (sSet 8 (eCall (arN 2) g__law_draw (aCons (eVar 1) (aCons (eC (.int 5)) (aNil))))) (sSeq (sIf (bOf isB (eOp (fLt) (eVar 8) (eC (.int 2)))) (sOSub 7 (eVar 8) (eOp (fAdd) (eOIx 7 (eVar 8)) (eC (.int 1)))) (sNil)) (sSeq (sIf (bOf isB (eOp (alt2 (fEq) (fEqO NT_Sheet "Sheet" (arN 2) g_Sheet___eq__)) (eVar 8) (eC (.int 2)))) (sOSub 7 (eC (.int 2)) (eCall (arN 2) g__law_draw (aCons (eVar 1) (aCons (eC (.int 64)) (aNil))))) (sNil)) (sSeq (sIf (bOf isB (eOp (alt2 (fEq) (fEqO NT_Sheet "Sheet" (arN 2) g_Sheet___eq__)) (eVar 8) (eC (.int 3)))) (sOSub 7 (eC (.int 3)) (eNot (eOIx 7 (eC (.int 3))))) (sNil)) (sFrz 7 (sSeq (sSet 9 (eMake "Sheet" (arN 4) g_Sheet___init___for_Sheet (aApp 3 1 (aCons (eOp fIx (eVar 7) (eC (.int 0))) (aCons (eOp fIx (eVar 7) (eC (.int 1))) (aCons (eCMeth "Light" (arN 2) g_Light_numbered (aCons (eOp fIx (eVar 7) (eC (.int 2))) (aNil))) (aNil)))) (aCons (eOp fIx (eVar 7) (eC (.int 3))) (aNil))))) (sSeq (sSet 10 (eOp (alt2 (fEq) (fEqO NT_Sheet "Sheet" (arN 2) g_Sheet___eq__)) (eVar 7) (eLst (aCons (eVar 2) (aCons (eVar 3) (aCons (eVar 4) (aCons (eOp (alt2 (fEq) (fEqO NT_Sheet "Sheet" (arN 2) g_Sheet___eq__)) (eVar 5) (eC (.int 2))) (aNil)))))))) (sSeq (sIf (bOr (bNot (bOf truE (eCall (arN 2) g__law_is (aCons (eOp (alt2 (fEq) (fEqO NT_Sheet "Sheet" (arN 2) g_Sheet___eq__)) (eVar 6) (eVar 9)) (aCons (eVar 10) (aNil)))))) (bOr (bNot (bOf truE (eCall (arN 2) g__law_is (aCons (eOp (alt2 (fEq) (fEqO NT_Sheet "Sheet" (arN 2) g_Sheet___eq__)) (eVar 9) (eVar 6)) (aCons (eVar 10) (aNil)))))) (bOf isB (eOp (fIsNotB) (eOp (alt2 (fEq) (fEqO NT_Sheet "Sheet" (arN 2) g_Sheet___eq__)) (eVar 6) (eVar 4)) (eC (.bl false)))))) (sRet (eC (.bl false))) (sNil)) (sSeq (sSet 11 (eMake "Sheet" (arN 4) g_Sheet___init___for_Sheet (aApp 3 1 (aCons (eVar 3) (aCons (eVar 2) (aCons (eCMeth "Light" (arN 2) g_Light_numbered (aCons (eVar 4) (aNil))) (aNil)))) (aCons (eOp (alt2 (fEq) (fEqO NT_Sheet "Sheet" (arN 2) g_Sheet___eq__)) (eVar 5) (eC (.int 2))) (aNil))))) (sSeq (sIf (bOr (bNot (bOf truE (eCall (arN 2) g__law_is (aCons (eOp (alt2 (fEq) (fEqO NT_Sheet "Sheet" (arN 2) g_Sheet___eq__)) (eVar 6) (eVar 11)) (aCons (eOp (alt2 (fEq) (fEqO NT_Sheet "Sheet" (arN 2) g_Sheet___eq__)) (eVar 2) (eVar 3)) (aNil)))))) (bNot (bOf truE (eCall (arN 2) g__law_is (aCons (eOp (alt2 (fEq) (fEqO NT_Sheet "Sheet" (arN 2) g_Sheet___eq__)) (eVar 11) (eVar 6)) (aCons (eOp (alt2 (fEq) (fEqO NT_Sheet "Sheet" (arN 2) g_Sheet___eq__)) (eVar 2) (eVar 3)) (aNil))))))) (sRet (eC (.bl false))) (sNil)) (sSeq (sSet 12 (eCall (arN 2) g__law_draw (aCons (eVar 1) (aCons (eOp (fPow) (eC (.int 10)) (eC (.int 20))) (aNil))))) (sSeq (sSet 13 (eOp fIx (eLst (aCons (eTup (aCons (eUn fNeg (eC (.int 1))) (aCons (eC (.int 0)) (aNil)))) (aCons (eTup (aCons (eC (.int 0)) (aCons (eUn fNeg (eC (.int 1))) (aNil)))) (aCons (eTup (aCons (eVar 2) (aCons (eC (.int 0)) (aNil)))) (aCons (eTup (aCons (eC (.int 0)) (aCons (eVar 3) (aNil)))) (aCons (eTup (aCons (eOp (fAdd) (eVar 2) (eVar 12)) (aCons (eC (.int 0)) (aNil)))) (aCons (eTup (aCons (eC (.int 0)) (aCons (eOp (fSub) (eUn fNeg (eC (.int 1))) (eVar 12)) (aNil)))) (aNil)))))))) (eCall (arN 2) g__law_draw (aCons (eVar 1) (aCons (eC (.int 6)) (aNil)))))) (sSeq (sTryAs 14 "UnknownPlace" (sDrop (eMeth [("Sheet", ((arN 3 : DL.Ar), g_Sheet_at))] (eVar 6) (aCons (eOp fIx (eVar 13) (eC (.int 0))) (aCons (eOp fIx (eVar 13) (eC (.int 1))) (aNil))))) (sRet (eAnd (eCall (arN 2) g__law_int (aCons (eXf 14 "UnknownPlace" 1) (aCons (eOp fIx (eVar 13) (eC (.int 0))) (aNil)))) (eCall (arN 2) g__law_int (aCons (eXf 14 "UnknownPlace" 0) (aCons (eOp fIx (eVar 13) (eC (.int 1))) (aNil))))))) (sRet (eC (.bl false)))))))))))))))))))))))))
def g_law : FM := runB 15 m_law
theorem ok_law (T : Tx P K mg C A FD) : FnOk P w K mg base (L2N.CX P w) 8 (A "law") (FD "law") ["_law_script"] (Spd K C NN (arN 1) g_law) :=
  fno_of T.F_law sc_law (fun cdv Ar outer s H E B hr =>
    (dss_cons (ds_set (i := 1) sc_law.nd rfl (Or.inl rfl) (de_call (ok__law_box T) rfl (hr.mono (by decide)) rfl T.M__law_box T.F__law_box.kp (takesF rfl rfl rfl rfl) (da_cons (de_var (pv 0)) da_nil)))
    (dss_cons (ds_set (i := 2) sc_law.nd rfl (Or.inl rfl) (de_op dop_add de_int (de_call (ok__law_draw T) rfl (hr.mono (by decide)) rfl T.M__law_draw T.F__law_draw.kp (takesF rfl rfl rfl rfl) (da_cons (de_var (pv 1)) (da_cons de_int da_nil)))))
    (dss_cons (ds_set (i := 3) sc_law.nd rfl (Or.inl rfl) (de_op dop_add de_int (de_call (ok__law_draw T) rfl (hr.mono (by decide)) rfl T.M__law_draw T.F__law_draw.kp (takesF rfl rfl rfl rfl) (da_cons (de_var (pv 1)) (da_cons de_int da_nil)))))
    (dss_cons (ds_if (db_cmp (opr_alt (dop_eq rfl hr.units) (dop_eqO rfl (hr.mono (by decide)) (nt_Sheet T) T.ow_Sheet___eq__ T.fn_Sheet___eq__ (ok_Sheet___eq__ T))) (de_call (ok__law_draw T) rfl (hr.mono (by decide)) rfl T.M__law_draw T.F__law_draw.kp (takesF rfl rfl rfl rfl) (da_cons (de_var (pv 1)) (da_cons de_int da_nil))) de_int (nomark _)) (dss_one (ds_set (i := 2) sc_law.nd rfl (Or.inl rfl) de_int)) dss_nil)
    (dss_cons (ds_set (i := 4) sc_law.nd rfl (Or.inl rfl) (de_call (ok__law_draw T) rfl (hr.mono (by decide)) rfl T.M__law_draw T.F__law_draw.kp (takesF rfl rfl rfl rfl) (da_cons (de_var (pv 1)) (da_cons de_int da_nil))))
    (dss_cons (ds_set (i := 5) sc_law.nd rfl (Or.inl rfl) (de_call (ok__law_draw T) rfl (hr.mono (by decide)) rfl T.M__law_draw T.F__law_draw.kp (takesF rfl rfl rfl rfl) (da_cons (de_var (pv 1)) (da_cons de_int da_nil))))
    (dss_cons (ds_set (i := 6) sc_law.nd rfl (Or.inl rfl) (de_make T.mk_Sheet (fni_dfl (dds := [.bl false]) (ok_Sheet___init___for_Sheet T) T.bd_Sheet___init__ (.cons cst_bl .nil) rfl) rfl (hr.mono (by decide)) rfl T.M_Sheet (takesF rfl rfl rfl rfl) (da_cons (de_var (pv 2)) (da_cons (de_var (pv 3)) (da_cons (let ⟨_, h1⟩ := T.cm_Light_numbered; de_cmeth rfl rfl T.M_Light T.cr_Light h1 (ok_Light_numbered T) (hr.mono (by decide)) (takesF rfl rfl rfl rfl) (da_cons (de_var (pv 4)) da_nil)) da_nil)))))
    (dss_cons (ds_if (db_cmp dop_gt (de_var (pv 5)) de_int (nomark _)) (dss_one (ds_set (i := 6) sc_law.nd rfl (Or.inl rfl) (de_makeK (n := 3) T.mk_Sheet (ok_Sheet___init___for_Sheet T) (kb_Sheet___init__ T) rfl rfl (hr.mono (by decide)) rfl T.M_Sheet (takesF rfl rfl rfl rfl) (da_cons (de_var (pv 2)) (da_cons (de_var (pv 3)) (da_cons (let ⟨_, h1⟩ := T.cm_Light_numbered; de_cmeth rfl rfl T.M_Light T.cr_Light h1 (ok_Light_numbered T) (hr.mono (by decide)) (takesF rfl rfl rfl rfl) (da_cons (de_var (pv 4)) da_nil)) da_nil))) (dk_cons (de_cmp (opr_alt (dop_eq rfl hr.units) (dop_eqO rfl (hr.mono (by decide)) (nt_Sheet T) T.ow_Sheet___eq__ T.fn_Sheet___eq__ (ok_Sheet___eq__ T))) (de_var (pv 5)) de_int (nomark _)) dk_nil)))) dss_nil)
    (dss_cons (ds_if (db_not (db_tru rfl (de_call (ok__law_same_sheet T) rfl (hr.mono (by decide)) rfl T.M__law_same_sheet T.F__law_same_sheet.kp (takesF rfl rfl rfl rfl) (da_cons (de_var (pv 6)) (da_cons (de_call (ok__law_grid T) rfl (hr.mono (by decide)) rfl T.M__law_grid T.F__law_grid.kp (takesF rfl rfl rfl rfl) (da_cons (de_var (pv 2)) (da_cons (de_var (pv 3)) (da_cons (de_var (pv 4)) (da_cons (de_cmp (opr_alt (dop_eq rfl hr.units) (dop_eqO rfl (hr.mono (by decide)) (nt_Sheet T) T.ow_Sheet___eq__ T.fn_Sheet___eq__ (ok_Sheet___eq__ T))) (de_var (pv 5)) de_int (nomark _)) da_nil))))) da_nil))))) (dss_one (ds_ret de_bl)) dss_nil)
    (dss_cons (ds_own (i := 7) sc_law.nd rfl (Or.inl rfl) (df_lst (da_cons (de_var (pv 2)) (da_cons (de_var (pv 3)) (da_cons (de_var (pv 4)) (da_cons (de_cmp (opr_alt (dop_eq rfl hr.units) (dop_eqO rfl (hr.mono (by decide)) (nt_Sheet T) T.ow_Sheet___eq__ T.fn_Sheet___eq__ (ok_Sheet___eq__ T))) (de_var (pv 5)) de_int (nomark _)) da_nil))))))
    (dss_cons (ds_set (i := 8) sc_law.nd rfl (Or.inl rfl) (de_call (ok__law_draw T) rfl (hr.mono (by decide)) rfl T.M__law_draw T.F__law_draw.kp (takesF rfl rfl rfl rfl) (da_cons (de_var (pv 1)) (da_cons de_int da_nil))))
    (dss_cons (ds_if (db_cmp dop_lt (de_var (pv 8)) de_int (nomark _)) (dss_one (ds_osub (pv 7) (de_var (pv 8)) (de_op dop_add (de_oix rfl (pv 7) (de_var (pv 8))) de_int))) dss_nil)
    (dss_cons (ds_if (db_cmp (opr_alt (dop_eq rfl hr.units) (dop_eqO rfl (hr.mono (by decide)) (nt_Sheet T) T.ow_Sheet___eq__ T.fn_Sheet___eq__ (ok_Sheet___eq__ T))) (de_var (pv 8)) de_int (nomark _)) (dss_one (ds_osub (pv 7) de_int (de_call (ok__law_draw T) rfl (hr.mono (by decide)) rfl T.M__law_draw T.F__law_draw.kp (takesF rfl rfl rfl rfl) (da_cons (de_var (pv 1)) (da_cons de_int da_nil))))) dss_nil)
    (dss_cons (ds_if (db_cmp (opr_alt (dop_eq rfl hr.units) (dop_eqO rfl (hr.mono (by decide)) (nt_Sheet T) T.ow_Sheet___eq__ T.fn_Sheet___eq__ (ok_Sheet___eq__ T))) (de_var (pv 8)) de_int (nomark _)) (dss_one (ds_osub (pv 7) de_int (de_not (de_oix rfl (pv 7) de_int)))) dss_nil)
    (dss_frz (dss_cons (ds_set (i := 9) sc_law.nd rfl (Or.inl rfl) (de_makeK (n := 3) T.mk_Sheet (ok_Sheet___init___for_Sheet T) (kb_Sheet___init__ T) rfl rfl (hr.mono (by decide)) rfl T.M_Sheet (takesF rfl rfl rfl rfl) (da_cons (de_ix (dix rfl) (de_var (pv 7)) de_int) (da_cons (de_ix (dix rfl) (de_var (pv 7)) de_int) (da_cons (let ⟨_, h1⟩ := T.cm_Light_numbered; de_cmeth rfl rfl T.M_Light T.cr_Light h1 (ok_Light_numbered T) (hr.mono (by decide)) (takesF rfl rfl rfl rfl) (da_cons (de_ix (dix rfl) (de_var (pv 7)) de_int) da_nil)) da_nil))) (dk_cons (de_ix (dix rfl) (de_var (pv 7)) de_int) dk_nil)))
    (dss_cons (ds_set (i := 10) sc_law.nd rfl (Or.inl rfl) (de_cmp (opr_alt (dop_eq rfl hr.units) (dop_eqO rfl (hr.mono (by decide)) (nt_Sheet T) T.ow_Sheet___eq__ T.fn_Sheet___eq__ (ok_Sheet___eq__ T))) (de_var (pv 7)) (de_lst (da_cons (de_var (pv 2)) (da_cons (de_var (pv 3)) (da_cons (de_var (pv 4)) (da_cons (de_cmp (opr_alt (dop_eq rfl hr.units) (dop_eqO rfl (hr.mono (by decide)) (nt_Sheet T) T.ow_Sheet___eq__ T.fn_Sheet___eq__ (ok_Sheet___eq__ T))) (de_var (pv 5)) de_int (nomark _)) da_nil))))) (nomark _)))
    (dss_cons (ds_if (DW.db (dw_or (db_not (db_tru rfl (de_call (ok__law_is T) rfl (hr.mono (by decide)) rfl T.M__law_is T.F__law_is.kp (takesF rfl rfl rfl rfl) (da_cons (de_cmp (opr_alt (dop_eq rfl hr.units) (dop_eqO rfl (hr.mono (by decide)) (nt_Sheet T) T.ow_Sheet___eq__ T.fn_Sheet___eq__ (ok_Sheet___eq__ T))) (de_var (pv 6)) (de_var (pv 9)) (nomark _)) (da_cons (de_var (pv 10)) da_nil))))) (dw_or (db_not (db_tru rfl (de_call (ok__law_is T) rfl (hr.mono (by decide)) rfl T.M__law_is T.F__law_is.kp (takesF rfl rfl rfl rfl) (da_cons (de_cmp (opr_alt (dop_eq rfl hr.units) (dop_eqO rfl (hr.mono (by decide)) (nt_Sheet T) T.ow_Sheet___eq__ T.fn_Sheet___eq__ (ok_Sheet___eq__ T))) (de_var (pv 9)) (de_var (pv 6)) (nomark _)) (da_cons (de_var (pv 10)) da_nil))))) (dw_or1 (db_cmp dop_isnotB (de_cmp (opr_alt (dop_eq rfl hr.units) (dop_eqO rfl (hr.mono (by decide)) (nt_Sheet T) T.ow_Sheet___eq__ T.fn_Sheet___eq__ (ok_Sheet___eq__ T))) (de_var (pv 6)) (de_var (pv 4)) (nomark _)) de_bl (nomark _)))))) (dss_one (ds_ret de_bl)) dss_nil)
    (dss_cons (ds_set (i := 11) sc_law.nd rfl (Or.inl rfl) (de_makeK (n := 3) T.mk_Sheet (ok_Sheet___init___for_Sheet T) (kb_Sheet___init__ T) rfl rfl (hr.mono (by decide)) rfl T.M_Sheet (takesF rfl rfl rfl rfl) (da_cons (de_var (pv 3)) (da_cons (de_var (pv 2)) (da_cons (let ⟨_, h1⟩ := T.cm_Light_numbered; de_cmeth rfl rfl T.M_Light T.cr_Light h1 (ok_Light_numbered T) (hr.mono (by decide)) (takesF rfl rfl rfl rfl) (da_cons (de_var (pv 4)) da_nil)) da_nil))) (dk_cons (de_cmp (opr_alt (dop_eq rfl hr.units) (dop_eqO rfl (hr.mono (by decide)) (nt_Sheet T) T.ow_Sheet___eq__ T.fn_Sheet___eq__ (ok_Sheet___eq__ T))) (de_var (pv 5)) de_int (nomark _)) dk_nil)))
    (dss_cons (ds_if (DW.db (dw_or (db_not (db_tru rfl (de_call (ok__law_is T) rfl (hr.mono (by decide)) rfl T.M__law_is T.F__law_is.kp (takesF rfl rfl rfl rfl) (da_cons (de_cmp (opr_alt (dop_eq rfl hr.units) (dop_eqO rfl (hr.mono (by decide)) (nt_Sheet T) T.ow_Sheet___eq__ T.fn_Sheet___eq__ (ok_Sheet___eq__ T))) (de_var (pv 6)) (de_var (pv 11)) (nomark _)) (da_cons (de_cmp (opr_alt (dop_eq rfl hr.units) (dop_eqO rfl (hr.mono (by decide)) (nt_Sheet T) T.ow_Sheet___eq__ T.fn_Sheet___eq__ (ok_Sheet___eq__ T))) (de_var (pv 2)) (de_var (pv 3)) (nomark _)) da_nil))))) (dw_or1 (db_not (db_tru rfl (de_call (ok__law_is T) rfl (hr.mono (by decide)) rfl T.M__law_is T.F__law_is.kp (takesF rfl rfl rfl rfl) (da_cons (de_cmp (opr_alt (dop_eq rfl hr.units) (dop_eqO rfl (hr.mono (by decide)) (nt_Sheet T) T.ow_Sheet___eq__ T.fn_Sheet___eq__ (ok_Sheet___eq__ T))) (de_var (pv 11)) (de_var (pv 6)) (nomark _)) (da_cons (de_cmp (opr_alt (dop_eq rfl hr.units) (dop_eqO rfl (hr.mono (by decide)) (nt_Sheet T) T.ow_Sheet___eq__ T.fn_Sheet___eq__ (ok_Sheet___eq__ T))) (de_var (pv 2)) (de_var (pv 3)) (nomark _)) da_nil)))))))) (dss_one (ds_ret de_bl)) dss_nil)
    (dss_cons (ds_set (i := 12) sc_law.nd rfl (Or.inl rfl) (de_call (ok__law_draw T) rfl (hr.mono (by decide)) rfl T.M__law_draw T.F__law_draw.kp (takesF rfl rfl rfl rfl) (da_cons (de_var (pv 1)) (da_cons (de_op dop_pow de_int de_int) da_nil))))
    (dss_cons (ds_set (i := 13) sc_law.nd rfl (Or.inl rfl) (de_ix (dix rfl) (de_lst (da_cons (de_tup (da_cons (de_un dun_neg de_int) (da_cons de_int da_nil))) (da_cons (de_tup (da_cons de_int (da_cons (de_un dun_neg de_int) da_nil))) (da_cons (de_tup (da_cons (de_var (pv 2)) (da_cons de_int da_nil))) (da_cons (de_tup (da_cons de_int (da_cons (de_var (pv 3)) da_nil))) (da_cons (de_tup (da_cons (de_op dop_add (de_var (pv 2)) (de_var (pv 12))) (da_cons de_int da_nil))) (da_cons (de_tup (da_cons de_int (da_cons (de_op dop_sub (de_un dun_neg de_int) (de_var (pv 12))) da_nil))) da_nil))))))) (de_call (ok__law_draw T) rfl (hr.mono (by decide)) rfl T.M__law_draw T.F__law_draw.kp (takesF rfl rfl rfl rfl) (da_cons (de_var (pv 1)) (da_cons de_int da_nil)))))
    (dss_cons (ds_tryas (i := 14) (cl := "UnknownPlace") rfl rfl sc_law.nd rfl rfl ⟨rfl, by decide, .inl T.M_UnknownPlace⟩ (takesF rfl rfl rfl rfl) T.xm_UnknownPlace_UnknownPlace
    (fun W pn xe tk => (dss_one (ds_expr (de_meth (lv := 6) rfl (hr.mono (by decide)) tk (fun k A g => kfn_all (all_cons (hm_Sheet_at T) all_nil) k A g) (de_var (pv 6)) (da_cons (de_ix (dix rfl) (de_var (pv 13)) de_int) (da_cons (de_ix (dix rfl) (de_var (pv 13)) de_int) da_nil))))))
    (fun a dd oe pn hz hf => (dss_one (ds_ret (de_and (de_callH (oh__law_int T) rfl (room_suite (hr.mono (by decide))) (hot_suite hz hf) rfl T.M__law_int T.F__law_int.kp takesS (da_cons (de_xf (i := 14) (cl := "UnknownPlace") T.er_UnknownPlace.xf T.er_UnknownPlace.hno (show ixf "x" (NN "UnknownPlace") = some 1 by decide +kernel) hz hf (pv 14)) (da_cons (de_ix (dix rfl) (de_var (pv 13)) de_int) da_nil))) (de_one (de_callH (oh__law_int T) rfl (room_suite (hr.mono (by decide))) (hot_suite hz hf) rfl T.M__law_int T.F__law_int.kp takesS (da_cons (de_xf (i := 14) (cl := "UnknownPlace") T.er_UnknownPlace.xf T.er_UnknownPlace.hno2 (show ixf "y" (NN "UnknownPlace") = some 0 by decide +kernel) hz hf (pv 14)) (da_cons (de_ix (dix rfl) (de_var (pv 13)) de_int) da_nil)))))))))
    (dss_one (ds_ret de_bl))))))))))))))))))))))))))
end
/-! ### what the top has written -/
set_option maxHeartbeats 0 in
def AllEq {α : Type} (A : String → α) : List String → List α → Prop
  | k :: ks, v :: vs => A k = v ∧ AllEq A ks vs
  | _, _ => True
theorem allEq_congr {α : Type} {A B : String → α} : ∀ (ks : List String) (vs : List α), (∀ s ∈ ks, B s = A s) → AllEq A ks vs → AllEq B ks vs
  | [], _, _, _ => by unfold AllEq; trivial
  | _ :: _, [], _, _ => by unfold AllEq; trivial
  | k :: ks, v :: vs, h, a => ⟨(h k List.mem_cons_self).trans a.1, allEq_congr ks vs (fun s hs => h s (List.mem_cons_of_mem _ hs)) a.2⟩
theorem assoc_ex {α : Type} (d : α) : ∀ (ks : List String) (vs : List α), ks.Nodup → ks.length = vs.length → ∃ A : String → α, AllEq A ks vs
  | [], _, _, _ => ⟨fun _ => d, by unfold AllEq; trivial⟩
  | _ :: _, [], _, h => nomatch h
  | k :: ks, v :: vs, hn, hl => by
    obtain ⟨hk, hn⟩ := List.nodup_cons.mp hn
    obtain ⟨A, hA⟩ := assoc_ex d ks vs hn (Nat.succ.inj hl)
    exact ⟨fun s => if s = k then v else A s, if_pos rfl, allEq_congr ks vs (fun s hs => if_neg fun e => hk (by rw [← e]; exact hs)) hA⟩
theorem all_mk {l : PySem.W.OpenLaw} {w : World} {K : PySem.W.Frag} {h : Heap} {mg : Str → Option Value} {fa C_Light C_Sheet C_UnknownPlace f__law_box f__law_draw f_Sheet___eq__ f_Sheet___init__ kD_Sheet___init__ f__bands_of f_check_band f_Light___init__ f__light f_Light_numbered p_Light_numbered f__law_int f__law_bands f__law_same_light f__law_same_state f_Sheet_at f__law_same_sheet f__law_grid f__law_is f_law f_UnknownPlace___init__ cc_UnknownPlace___init__ cd_UnknownPlace___init__ N_UnknownPlace___init__ : Addr}
    {oc__law_box kV__law_box dc__law_box pm__law_box cd__law_box ct__law_box : Value}
    {od__law_box an__law_box : Option Addr}
    {sl__law_box : Array (Option Value)}
    {oc__law_draw kV__law_draw dc__law_draw pm__law_draw cd__law_draw ct__law_draw : Value}
    {od__law_draw an__law_draw : Option Addr}
    {sl__law_draw : Array (Option Value)}
    {oc_Sheet___eq__ kV_Sheet___eq__ dc_Sheet___eq__ pm_Sheet___eq__ cd_Sheet___eq__ ct_Sheet___eq__ : Value}
    {od_Sheet___eq__ an_Sheet___eq__ : Option Addr}
    {sl_Sheet___eq__ : Array (Option Value)}
    {oc_Sheet___init__ dc_Sheet___init__ pm_Sheet___init__ cd_Sheet___init__ ct_Sheet___init__ : Value}
    {od_Sheet___init__ an_Sheet___init__ : Option Addr}
    {sl_Sheet___init__ : Array (Option Value)}
    {oc__bands_of kV__bands_of dc__bands_of pm__bands_of cd__bands_of ct__bands_of : Value}
    {od__bands_of an__bands_of : Option Addr}
    {sl__bands_of : Array (Option Value)}
    {oc_check_band kV_check_band dc_check_band pm_check_band cd_check_band ct_check_band : Value}
    {od_check_band an_check_band : Option Addr}
    {sl_check_band : Array (Option Value)}
    {oc_Light___init__ kV_Light___init__ dc_Light___init__ pm_Light___init__ cd_Light___init__ ct_Light___init__ : Value}
    {od_Light___init__ an_Light___init__ : Option Addr}
    {sl_Light___init__ : Array (Option Value)}
    {oc__light kV__light dc__light pm__light cd__light ct__light : Value}
    {od__light an__light : Option Addr}
    {sl__light : Array (Option Value)}
    {r_Light_numbered : List Value}
    {oc_Light_numbered kV_Light_numbered dc_Light_numbered pm_Light_numbered cd_Light_numbered ct_Light_numbered : Value}
    {od_Light_numbered an_Light_numbered : Option Addr}
    {sl_Light_numbered : Array (Option Value)}
    {oc__law_int kV__law_int dc__law_int pm__law_int cd__law_int ct__law_int : Value}
    {od__law_int an__law_int : Option Addr}
    {sl__law_int : Array (Option Value)}
    {oc__law_bands kV__law_bands dc__law_bands pm__law_bands cd__law_bands ct__law_bands : Value}
    {od__law_bands an__law_bands : Option Addr}
    {sl__law_bands : Array (Option Value)}
    {oc__law_same_light kV__law_same_light dc__law_same_light pm__law_same_light cd__law_same_light ct__law_same_light : Value}
    {od__law_same_light an__law_same_light : Option Addr}
    {sl__law_same_light : Array (Option Value)}
    {oc__law_same_state kV__law_same_state dc__law_same_state pm__law_same_state cd__law_same_state ct__law_same_state : Value}
    {od__law_same_state an__law_same_state : Option Addr}
    {sl__law_same_state : Array (Option Value)}
    {oc_Sheet_at kV_Sheet_at dc_Sheet_at pm_Sheet_at cd_Sheet_at ct_Sheet_at : Value}
    {od_Sheet_at an_Sheet_at : Option Addr}
    {sl_Sheet_at : Array (Option Value)}
    {oc__law_same_sheet kV__law_same_sheet dc__law_same_sheet pm__law_same_sheet cd__law_same_sheet ct__law_same_sheet : Value}
    {od__law_same_sheet an__law_same_sheet : Option Addr}
    {sl__law_same_sheet : Array (Option Value)}
    {oc__law_grid kV__law_grid dc__law_grid pm__law_grid cd__law_grid ct__law_grid : Value}
    {od__law_grid an__law_grid : Option Addr}
    {sl__law_grid : Array (Option Value)}
    {oc__law_is kV__law_is dc__law_is pm__law_is cd__law_is ct__law_is : Value}
    {od__law_is an__law_is : Option Addr}
    {sl__law_is : Array (Option Value)}
    {oc_law kV_law dc_law pm_law cd_law ct_law : Value}
    {od_law an_law : Option Addr}
    {sl_law : Array (Option Value)}
    {t_Light_BANDS : Tok}
    {t_LIGHTS : Tok}
    {oc_UnknownPlace___init__ dc_UnknownPlace___init__ pm_UnknownPlace___init__ ct_UnknownPlace___init__ o1_UnknownPlace___init__ o2_UnknownPlace___init__ : Value}
    {od_UnknownPlace___init__ d1_UnknownPlace___init__ d2_UnknownPlace___init__ dd_UnknownPlace___init__ : Option Addr}
    {sl_UnknownPlace___init__ s1_UnknownPlace___init__ s2_UnknownPlace___init__ : Array (Option Value)}
    {vs_UnknownPlace___init__ : Array Value}
    {fl_UnknownPlace___init__ nm_UnknownPlace___init__ qn_UnknownPlace___init__ : Str}
    {tf_UnknownPlace___init__ : Tok}
    {bs_UnknownPlace___init__ bm_UnknownPlace___init__ sb_UnknownPlace___init__ : List Value}
    {sn_UnknownPlace___init__ : List Str}
    {ab_UnknownPlace___init__ : Bool}
    {col_UnknownPlace___init__ : Option Bool}
    {k0_UnknownPlace___init__ k1_UnknownPlace___init__ k2_UnknownPlace___init__ k3_UnknownPlace___init__ k5_UnknownPlace___init__ : Option Value}
    (X : K.In h) (G : h.Ns mainGlobals mg) (hfa : mg "law" = some (.ref fa))
    (aC_Light : PySem.W.nsIn K mainGlobals "Light" = some (some (.ref C_Light)))
    (aC_Sheet : PySem.W.nsIn K mainGlobals "Sheet" = some (some (.ref C_Sheet)))
    (aC_UnknownPlace : PySem.W.nsIn K mainGlobals "UnknownPlace" = some (some (.ref C_UnknownPlace)))
    (a__law_box : PySem.W.nsIn K mainGlobals "_law_box" = some (some (.ref f__law_box)))
    (l__law_box : K.lookup f__law_box = some ⟨oc__law_box, od__law_box, .func (PySem.W.fnOf "_law_box" "_law_box" (defArgs s__law_box) (defBody s__law_box) (defScope s__law_box) .none kV__law_box dc__law_box pm__law_box an__law_box cd__law_box ct__law_box), sl__law_box⟩)
    (c__law_box : PySem.W.codeIn K cd__law_box "_law_box" = true)
    (k__law_box : PySem.W.keepIn K (.ref f__law_box) = true)
    (a__law_draw : PySem.W.nsIn K mainGlobals "_law_draw" = some (some (.ref f__law_draw)))
    (l__law_draw : K.lookup f__law_draw = some ⟨oc__law_draw, od__law_draw, .func (PySem.W.fnOf "_law_draw" "_law_draw" (defArgs s__law_draw) (defBody s__law_draw) (defScope s__law_draw) .none kV__law_draw dc__law_draw pm__law_draw an__law_draw cd__law_draw ct__law_draw), sl__law_draw⟩)
    (c__law_draw : PySem.W.codeIn K cd__law_draw "_law_draw" = true)
    (k__law_draw : PySem.W.keepIn K (.ref f__law_draw) = true)
    (a_Sheet___eq__ : PySem.W.findIn K (.ref C_Sheet) "__eq__" = some (some (.ref f_Sheet___eq__)))
    (i_Sheet___eq__ : PySem.W.isFn K (.ref f_Sheet___eq__) = true)
    (l_Sheet___eq__ : K.lookup f_Sheet___eq__ = some ⟨oc_Sheet___eq__, od_Sheet___eq__, .func (PySem.W.fnOf "__eq__" "Sheet.__eq__" (defArgs s_Sheet___eq__) (defBody s_Sheet___eq__) (defScope s_Sheet___eq__) .none kV_Sheet___eq__ dc_Sheet___eq__ pm_Sheet___eq__ an_Sheet___eq__ cd_Sheet___eq__ ct_Sheet___eq__), sl_Sheet___eq__⟩)
    (c_Sheet___eq__ : PySem.W.codeIn K cd_Sheet___eq__ "Sheet.__eq__" = true)
    (k_Sheet___eq__ : PySem.W.keepIn K (.ref f_Sheet___eq__) = true)
    (a_Sheet___init__ : PySem.W.findIn K (.ref C_Sheet) "__init__" = some (some (.ref f_Sheet___init__)))
    (i_Sheet___init__ : PySem.W.isFn K (.ref f_Sheet___init__) = true)
    (l_Sheet___init__ : K.lookup f_Sheet___init__ = some ⟨oc_Sheet___init__, od_Sheet___init__, .func (PySem.W.fnOf "__init__" "Sheet.__init__" (defArgs s_Sheet___init__) (defBody s_Sheet___init__) (defScope s_Sheet___init__) .none (.ref kD_Sheet___init__) dc_Sheet___init__ pm_Sheet___init__ an_Sheet___init__ cd_Sheet___init__ ct_Sheet___init__), sl_Sheet___init__⟩)
    (kd_Sheet___init___inked : PySem.W.nsIn K kD_Sheet___init__ "inked" = some (some (.bool false)))
    (c_Sheet___init__ : PySem.W.codeIn K cd_Sheet___init__ "Sheet.__init__" = true)
    (k_Sheet___init__ : PySem.W.keepIn K (.ref f_Sheet___init__) = true)
    (a__bands_of : PySem.W.nsIn K mainGlobals "_bands_of" = some (some (.ref f__bands_of)))
    (l__bands_of : K.lookup f__bands_of = some ⟨oc__bands_of, od__bands_of, .func (PySem.W.fnOf "_bands_of" "_bands_of" (defArgs s__bands_of) (defBody s__bands_of) (defScope s__bands_of) .none kV__bands_of dc__bands_of pm__bands_of an__bands_of cd__bands_of ct__bands_of), sl__bands_of⟩)
    (c__bands_of : PySem.W.codeIn K cd__bands_of "_bands_of" = true)
    (k__bands_of : PySem.W.keepIn K (.ref f__bands_of) = true)
    (a_check_band : PySem.W.nsIn K mainGlobals "check_band" = some (some (.ref f_check_band)))
    (l_check_band : K.lookup f_check_band = some ⟨oc_check_band, od_check_band, .func (PySem.W.fnOf "check_band" "check_band" (defArgs s_check_band) (defBody s_check_band) (defScope s_check_band) .none kV_check_band dc_check_band pm_check_band an_check_band cd_check_band ct_check_band), sl_check_band⟩)
    (c_check_band : PySem.W.codeIn K cd_check_band "check_band" = true)
    (k_check_band : PySem.W.keepIn K (.ref f_check_band) = true)
    (a_Light___init__ : PySem.W.findIn K (.ref C_Light) "__init__" = some (some (.ref f_Light___init__)))
    (i_Light___init__ : PySem.W.isFn K (.ref f_Light___init__) = true)
    (l_Light___init__ : K.lookup f_Light___init__ = some ⟨oc_Light___init__, od_Light___init__, .func (PySem.W.fnOf "__init__" "Light.__init__" (defArgs s_Light___init__) (defBody s_Light___init__) (defScope s_Light___init__) .none kV_Light___init__ dc_Light___init__ pm_Light___init__ an_Light___init__ cd_Light___init__ ct_Light___init__), sl_Light___init__⟩)
    (c_Light___init__ : PySem.W.codeIn K cd_Light___init__ "Light.__init__" = true)
    (k_Light___init__ : PySem.W.keepIn K (.ref f_Light___init__) = true)
    (a__light : PySem.W.nsIn K mainGlobals "_light" = some (some (.ref f__light)))
    (l__light : K.lookup f__light = some ⟨oc__light, od__light, .func (PySem.W.fnOf "_light" "_light" (defArgs s__light) (defBody s__light) (defScope s__light) .none kV__light dc__light pm__light an__light cd__light ct__light), sl__light⟩)
    (c__light : PySem.W.codeIn K cd__light "_light" = true)
    (k__light : PySem.W.keepIn K (.ref f__light) = true)
    (a_Light_numbered : PySem.W.findCls K (.ref C_Light) (.type "type") "numbered" = some (.get (.builtin "classmethod.__get__") (.ref p_Light_numbered) .none (.ref C_Light)))
    (r1_Light_numbered : PySem.W.recIn K p_Light_numbered "classmethod" = some (.ref f_Light_numbered :: r_Light_numbered))
    (i_Light_numbered : PySem.W.fnIn K f_Light_numbered = true)
    (l_Light_numbered : K.lookup f_Light_numbered = some ⟨oc_Light_numbered, od_Light_numbered, .func (PySem.W.fnOf "numbered" "Light.numbered" (defArgs s_Light_numbered) (defBody s_Light_numbered) (defScope s_Light_numbered) .none kV_Light_numbered dc_Light_numbered pm_Light_numbered an_Light_numbered cd_Light_numbered ct_Light_numbered), sl_Light_numbered⟩)
    (c_Light_numbered : PySem.W.codeIn K cd_Light_numbered "Light.numbered" = true)
    (k_Light_numbered : PySem.W.keepIn K (.ref f_Light_numbered) = true)
    (a__law_int : PySem.W.nsIn K mainGlobals "_law_int" = some (some (.ref f__law_int)))
    (l__law_int : K.lookup f__law_int = some ⟨oc__law_int, od__law_int, .func (PySem.W.fnOf "_law_int" "_law_int" (defArgs s__law_int) (defBody s__law_int) (defScope s__law_int) .none kV__law_int dc__law_int pm__law_int an__law_int cd__law_int ct__law_int), sl__law_int⟩)
    (c__law_int : PySem.W.codeIn K cd__law_int "_law_int" = true)
    (k__law_int : PySem.W.keepIn K (.ref f__law_int) = true)
    (a__law_bands : PySem.W.nsIn K mainGlobals "_law_bands" = some (some (.ref f__law_bands)))
    (l__law_bands : K.lookup f__law_bands = some ⟨oc__law_bands, od__law_bands, .func (PySem.W.fnOf "_law_bands" "_law_bands" (defArgs s__law_bands) (defBody s__law_bands) (defScope s__law_bands) .none kV__law_bands dc__law_bands pm__law_bands an__law_bands cd__law_bands ct__law_bands), sl__law_bands⟩)
    (c__law_bands : PySem.W.codeIn K cd__law_bands "_law_bands" = true)
    (k__law_bands : PySem.W.keepIn K (.ref f__law_bands) = true)
    (a__law_same_light : PySem.W.nsIn K mainGlobals "_law_same_light" = some (some (.ref f__law_same_light)))
    (l__law_same_light : K.lookup f__law_same_light = some ⟨oc__law_same_light, od__law_same_light, .func (PySem.W.fnOf "_law_same_light" "_law_same_light" (defArgs s__law_same_light) (defBody s__law_same_light) (defScope s__law_same_light) .none kV__law_same_light dc__law_same_light pm__law_same_light an__law_same_light cd__law_same_light ct__law_same_light), sl__law_same_light⟩)
    (c__law_same_light : PySem.W.codeIn K cd__law_same_light "_law_same_light" = true)
    (k__law_same_light : PySem.W.keepIn K (.ref f__law_same_light) = true)
    (a__law_same_state : PySem.W.nsIn K mainGlobals "_law_same_state" = some (some (.ref f__law_same_state)))
    (l__law_same_state : K.lookup f__law_same_state = some ⟨oc__law_same_state, od__law_same_state, .func (PySem.W.fnOf "_law_same_state" "_law_same_state" (defArgs s__law_same_state) (defBody s__law_same_state) (defScope s__law_same_state) .none kV__law_same_state dc__law_same_state pm__law_same_state an__law_same_state cd__law_same_state ct__law_same_state), sl__law_same_state⟩)
    (c__law_same_state : PySem.W.codeIn K cd__law_same_state "_law_same_state" = true)
    (k__law_same_state : PySem.W.keepIn K (.ref f__law_same_state) = true)
    (a_Sheet_at : PySem.W.findIn K (.ref C_Sheet) "at" = some (some (.ref f_Sheet_at)))
    (i_Sheet_at : PySem.W.isFn K (.ref f_Sheet_at) = true)
    (l_Sheet_at : K.lookup f_Sheet_at = some ⟨oc_Sheet_at, od_Sheet_at, .func (PySem.W.fnOf "at" "Sheet.at" (defArgs s_Sheet_at) (defBody s_Sheet_at) (defScope s_Sheet_at) .none kV_Sheet_at dc_Sheet_at pm_Sheet_at an_Sheet_at cd_Sheet_at ct_Sheet_at), sl_Sheet_at⟩)
    (c_Sheet_at : PySem.W.codeIn K cd_Sheet_at "Sheet.at" = true)
    (k_Sheet_at : PySem.W.keepIn K (.ref f_Sheet_at) = true)
    (a__law_same_sheet : PySem.W.nsIn K mainGlobals "_law_same_sheet" = some (some (.ref f__law_same_sheet)))
    (l__law_same_sheet : K.lookup f__law_same_sheet = some ⟨oc__law_same_sheet, od__law_same_sheet, .func (PySem.W.fnOf "_law_same_sheet" "_law_same_sheet" (defArgs s__law_same_sheet) (defBody s__law_same_sheet) (defScope s__law_same_sheet) .none kV__law_same_sheet dc__law_same_sheet pm__law_same_sheet an__law_same_sheet cd__law_same_sheet ct__law_same_sheet), sl__law_same_sheet⟩)
    (c__law_same_sheet : PySem.W.codeIn K cd__law_same_sheet "_law_same_sheet" = true)
    (k__law_same_sheet : PySem.W.keepIn K (.ref f__law_same_sheet) = true)
    (a__law_grid : PySem.W.nsIn K mainGlobals "_law_grid" = some (some (.ref f__law_grid)))
    (l__law_grid : K.lookup f__law_grid = some ⟨oc__law_grid, od__law_grid, .func (PySem.W.fnOf "_law_grid" "_law_grid" (defArgs s__law_grid) (defBody s__law_grid) (defScope s__law_grid) .none kV__law_grid dc__law_grid pm__law_grid an__law_grid cd__law_grid ct__law_grid), sl__law_grid⟩)
    (c__law_grid : PySem.W.codeIn K cd__law_grid "_law_grid" = true)
    (k__law_grid : PySem.W.keepIn K (.ref f__law_grid) = true)
    (a__law_is : PySem.W.nsIn K mainGlobals "_law_is" = some (some (.ref f__law_is)))
    (l__law_is : K.lookup f__law_is = some ⟨oc__law_is, od__law_is, .func (PySem.W.fnOf "_law_is" "_law_is" (defArgs s__law_is) (defBody s__law_is) (defScope s__law_is) .none kV__law_is dc__law_is pm__law_is an__law_is cd__law_is ct__law_is), sl__law_is⟩)
    (c__law_is : PySem.W.codeIn K cd__law_is "_law_is" = true)
    (k__law_is : PySem.W.keepIn K (.ref f__law_is) = true)
    (a_law : PySem.W.nsIn K mainGlobals "law" = some (some (.ref f_law)))
    (l_law : K.lookup f_law = some ⟨oc_law, od_law, .func (PySem.W.fnOf "law" "law" (defArgs s_law) (defBody s_law) (defScope s_law) .none kV_law dc_law pm_law an_law cd_law ct_law), sl_law⟩)
    (c_law : PySem.W.codeIn K cd_law "law" = true)
    (k_law : PySem.W.keepIn K (.ref f_law) = true)
    (pg_Light : PySem.W.plainGet K C_Light Str.empty = true)
    (hd_Light : PySem.W.hasDictIn K C_Light = true)
    (po_Light : PySem.W.plainOver K C_Light = true)
    (sa_Light : PySem.W.findIn K (.ref C_Light) "__setattr__" = some (some (.builtin "object.__setattr__")))
    (pg_Sheet : PySem.W.plainGet K C_Sheet Str.empty = true)
    (hd_Sheet : PySem.W.hasDictIn K C_Sheet = true)
    (po_Sheet : PySem.W.plainOver K C_Sheet = true)
    (sa_Sheet : PySem.W.findIn K (.ref C_Sheet) "__setattr__" = some (some (.builtin "object.__setattr__")))
    (n_Light_bands : PySem.W.findIn K (.ref C_Light) "bands" = some none)
    (n_Light_number : PySem.W.findIn K (.ref C_Light) "number" = some none)
    (n_Sheet__lines : PySem.W.findIn K (.ref C_Sheet) "_lines" = some none)
    (n_Sheet_height : PySem.W.findIn K (.ref C_Sheet) "height" = some none)
    (n_Sheet_width : PySem.W.findIn K (.ref C_Sheet) "width" = some none)
    (mk_Light : PySem.W.makesIn K C_Light = true)
    (kc_Light : PySem.W.keepIn K (.ref C_Light) = true)
    (mk_Sheet : PySem.W.makesIn K C_Sheet = true)
    (kc_Sheet : PySem.W.keepIn K (.ref C_Sheet) = true)
    (rd_Light : PySem.W.readsIn K C_Light (.type "type") = true)
    (ga_Light : PySem.W.specialIn K (.ref C_Light) "__getattribute__" = some (some (.builtin "type.__getattribute__")))
    (v_Light_BANDS : PySem.W.findCls K (.ref C_Light) (.type "type") "BANDS" = some (.val (.int 6 t_Light_BANDS)))
    (co_LIGHTS : PySem.W.nsIn K mainGlobals "LIGHTS" = some (some (.int 64 t_LIGHTS)))
    (sf_Sheet : PySem.W.selfFirst K C_Sheet = true)
    (nf_Sheet_own_Sheet : PySem.W.notFirst K C_Sheet (.ref C_Sheet) = true)
    (nf_Sheet_ty_int : PySem.W.notFirst K C_Sheet (.type "int") = true)
    (ica_Light : PySem.W.findIn K (.ref C_Light) "__class__" = some (some (.builtin "object.__class__")))
    (icm_Light : PySem.W.mroIn K C_Light (.type "object") = some true)
    (ica_Sheet : PySem.W.findIn K (.ref C_Sheet) "__class__" = some (some (.builtin "object.__class__")))
    (icm_Sheet : PySem.W.mroIn K C_Sheet (.type "object") = some true)
    (ikn : PySem.W.specialIn K (.builtin "object.__class__") "__get__" = some (some (.builtin "getset_descriptor.__get__")))
    (ikt : PySem.W.takesIn K (.builtin "object.__class__") = some true)
    (it_own_Light_own_Light : PySem.W.kitOne K (.ref C_Light) (.ref C_Light) = some true)
    (it_own_Sheet_own_Sheet : PySem.W.kitOne K (.ref C_Sheet) (.ref C_Sheet) = some true)
    (it_ty_int_own_Sheet : PySem.W.kitOne K (.type "int") (.ref C_Sheet) = some false)
    (it_ty_tuple_ty_tuple : PySem.W.kitOne K (.type "tuple") (.type "tuple") = some true)
    (it_ty_int_ty_int : PySem.W.kitOne K (.type "int") (.type "int") = some true)
    (it_ty_int_ty_bool : PySem.W.kitOne K (.type "int") (.type "bool") = some false)
    (it_ty_bool_ty_bool : PySem.W.kitOne K (.type "bool") (.type "bool") = some true)
    (no_all : PySem.W.nsIn K mainGlobals "all" = some (none))
    (no_bool : PySem.W.nsIn K mainGlobals "bool" = some (none))
    (no_int : PySem.W.nsIn K mainGlobals "int" = some (none))
    (no_isinstance : PySem.W.nsIn K mainGlobals "isinstance" = some (none))
    (no_len : PySem.W.nsIn K mainGlobals "len" = some (none))
    (no_range : PySem.W.nsIn K mainGlobals "range" = some (none))
    (no_super : PySem.W.nsIn K mainGlobals "super" = some (none))
    (no_tuple : PySem.W.nsIn K mainGlobals "tuple" = some (none))
    (a_UnknownPlace___init__ : PySem.W.findIn K (.ref C_UnknownPlace) "__init__" = some (some (.ref f_UnknownPlace___init__)))
    (l_UnknownPlace___init__ : K.lookup f_UnknownPlace___init__ = some ⟨oc_UnknownPlace___init__, od_UnknownPlace___init__, .func ((nfo s_UnknownPlace___init__ "__init__" "UnknownPlace.__init__" cc_UnknownPlace___init__ cd_UnknownPlace___init__).fd dc_UnknownPlace___init__ pm_UnknownPlace___init__ ct_UnknownPlace___init__), sl_UnknownPlace___init__⟩)
    (c_UnknownPlace___init__ : PySem.W.codeIn K (.ref cd_UnknownPlace___init__) "UnknownPlace.__init__" = true)
    (lc_UnknownPlace___init__ : K.lookup cd_UnknownPlace___init__ = some ⟨o1_UnknownPlace___init__, d1_UnknownPlace___init__, .fields vs_UnknownPlace___init__, s1_UnknownPlace___init__⟩)
    (vf_UnknownPlace___init__ : vs_UnknownPlace___init__[2]? = some (.str fl_UnknownPlace___init__ tf_UnknownPlace___init__))
    (pf_UnknownPlace___init__ : ((l.prog.main.file : Str) == fl_UnknownPlace___init__) = true)
    (ce_UnknownPlace___init__ : K.lookup cc_UnknownPlace___init__ = some ⟨o2_UnknownPlace___init__, d2_UnknownPlace___init__, .cell (some (.ref C_UnknownPlace)), s2_UnknownPlace___init__⟩)
    (topS : (l.prog.main.scope.names.lookup ("super" : Str)).isSome = false)
    (hst : PySem.W.nsIn K cStatics "thirdparty.any" = some none)
    (ex_UnknownPlace___init__ : K.lookup C_UnknownPlace = some (excClassObj nm_UnknownPlace___init__ qn_UnknownPlace___init__ C_UnknownPlace N_UnknownPlace___init__ bs_UnknownPlace___init__ bm_UnknownPlace___init__ true sn_UnknownPlace___init__ sb_UnknownPlace___init__ ab_UnknownPlace___init__ col_UnknownPlace___init__ dd_UnknownPlace___init__ k0_UnknownPlace___init__ k1_UnknownPlace___init__ k2_UnknownPlace___init__ k3_UnknownPlace___init__ k5_UnknownPlace___init__ "ValueError.__new__"))
    (rv_UnknownPlace___init__ : PySem.HandSPX.refsVE bm_UnknownPlace___init__ = true)
    (sa_UnknownPlace___init__ : PySem.W.findIn K (.ref C_UnknownPlace) "__setattr__" = some (some (.builtin "object.__setattr__")))
    (xc_UnknownPlace___init__ : PySem.W.subIn K (.ref C_UnknownPlace) (.type "BaseException") = some true)
    (tc_UnknownPlace___init__ : PySem.W.typeIn K (.ref C_UnknownPlace) = some (.type "type"))
    (kc_UnknownPlace___init__ : PySem.W.keepIn K (.ref C_UnknownPlace) = true)
    (tf_UnknownPlace___init__ : PySem.W.typeIn K (.ref f_UnknownPlace___init__) = some (.type "function"))
    (si_UnknownPlace___init__ : PySem.W.ks_superIn K C_UnknownPlace C_UnknownPlace "__init__" = some (some (.builtin "ValueError.__init__")))
    (su_UnknownPlace___init__ : PySem.W.mroIn K C_UnknownPlace (.ref C_UnknownPlace) = some true)
    (hn_UnknownPlace___init__ : PySem.W.findIn K (.ref C_UnknownPlace) "x" = some none)
    (hn2_UnknownPlace___init__ : PySem.W.findIn K (.ref C_UnknownPlace) "y" = some none)
    (xg_UnknownPlace___init__ : PySem.W.findIn K (.ref C_UnknownPlace) "__getattribute__" = some (some (.builtin "BaseException.__getattribute__")))
    (xh_UnknownPlace___init__ : PySem.W.findIn K (.ref C_UnknownPlace) "__getattr__" = some none)
    (xd_UnknownPlace___init__ : PySem.W.hasDictIn K C_UnknownPlace = true)
    (xm_UnknownPlace_UnknownPlace : PySem.W.exmOne K (.ref C_UnknownPlace) (.ref C_UnknownPlace) = some true)
    (hmath : ∀ ns : List Int, ns.length ≤ 63 → ∃ G', g_law [scr ns] [] = .ok (.d (.bl true)) G') :
    ∃ fd : FuncData, (∀ (s : Shared) (v : Value), BindsTo s fd ⟨[v], []⟩ [("_law_script", v)]) ∧ ∀ base : Heap, K.In base → base.Ns mainGlobals mg → FnOk l.prog w K mg base (L2N.CX l.prog w) 8 fa fd ["_law_script"] (spLaw K) := by
  have e : fa = f_law := by
    have e := hfa.symm.trans (PySem.W.mg_of X G a_law)
    injection e with e
    injection e
  obtain ⟨d__law_box, F__law_box⟩ : ∃ fd, Fun K "_law_box" "_law_box" s__law_box f__law_box fd := ⟨_, fun_mk (st := s__law_box) l__law_box c__law_box k__law_box⟩
  obtain ⟨d__law_draw, F__law_draw⟩ : ∃ fd, Fun K "_law_draw" "_law_draw" s__law_draw f__law_draw fd := ⟨_, fun_mk (st := s__law_draw) l__law_draw c__law_draw k__law_draw⟩
  obtain ⟨d_Sheet___eq__, F_Sheet___eq__⟩ : ∃ fd, Fun K "__eq__" "Sheet.__eq__" s_Sheet___eq__ f_Sheet___eq__ fd := ⟨_, fun_mk (st := s_Sheet___eq__) l_Sheet___eq__ c_Sheet___eq__ k_Sheet___eq__⟩
  obtain ⟨d_Sheet___init__, F_Sheet___init__, bd_Sheet___init__⟩ : ∃ fd, Fun K "__init__" "Sheet.__init__" s_Sheet___init__ f_Sheet___init__ fd ∧ ∃ ds, Vals [.bl false] ds ∧ Binds K fd ["self", "width", "height", "ground", "inked"] ds := ⟨_, fun_mk (st := s_Sheet___init__) l_Sheet___init__ c_Sheet___init__ k_Sheet___init__, binds_kw (D := kD_Sheet___init__) (kws := [("inked", .bl false)]) (all_cons (a := (("inked", .bl false) : Str × V)) (p := fun q : Str × V => ∃ u, PySem.W.nsIn K kD_Sheet___init__ q.1 = some (some u) ∧ RelV q.2 u) ⟨_, kd_Sheet___init___inked, rfl⟩ all_nil) 4 rfl (fun us ks h1 h2 => match us, ks, h1, h2 with | [_, _, _, _], [_], _, _ => ⟨_, _, _, _, _, _, rfl, rfl, rfl⟩)⟩
  obtain ⟨d__bands_of, F__bands_of⟩ : ∃ fd, Fun K "_bands_of" "_bands_of" s__bands_of f__bands_of fd := ⟨_, fun_mk (st := s__bands_of) l__bands_of c__bands_of k__bands_of⟩
  obtain ⟨d_check_band, F_check_band⟩ : ∃ fd, Fun K "check_band" "check_band" s_check_band f_check_band fd := ⟨_, fun_mk (st := s_check_band) l_check_band c_check_band k_check_band⟩
  obtain ⟨d_Light___init__, F_Light___init__, b_Light___init__⟩ : ∃ fd, Fun K "__init__" "Light.__init__" s_Light___init__ f_Light___init__ fd ∧ BindS fd ["self"] "bands" := ⟨_, fun_mk (st := s_Light___init__) l_Light___init__ c_Light___init__ k_Light___init__, fun us rest hl => bind_star1 (B := fun xs => bindArgs _ ⟨xs, []⟩) (fun _ => rfl) (fun _ _ _ => rfl) us rest hl⟩
  obtain ⟨d__light, F__light⟩ : ∃ fd, Fun K "_light" "_light" s__light f__light fd := ⟨_, fun_mk (st := s__light) l__light c__light k__light⟩
  obtain ⟨d_Light_numbered, F_Light_numbered⟩ : ∃ fd, Fun K "numbered" "Light.numbered" s_Light_numbered f_Light_numbered fd := ⟨_, fun_mk (st := s_Light_numbered) l_Light_numbered c_Light_numbered k_Light_numbered⟩
  obtain ⟨d__law_int, F__law_int⟩ : ∃ fd, Fun K "_law_int" "_law_int" s__law_int f__law_int fd := ⟨_, fun_mk (st := s__law_int) l__law_int c__law_int k__law_int⟩
  obtain ⟨d__law_bands, F__law_bands⟩ : ∃ fd, Fun K "_law_bands" "_law_bands" s__law_bands f__law_bands fd := ⟨_, fun_mk (st := s__law_bands) l__law_bands c__law_bands k__law_bands⟩
  obtain ⟨d__law_same_light, F__law_same_light⟩ : ∃ fd, Fun K "_law_same_light" "_law_same_light" s__law_same_light f__law_same_light fd := ⟨_, fun_mk (st := s__law_same_light) l__law_same_light c__law_same_light k__law_same_light⟩
  obtain ⟨d__law_same_state, F__law_same_state⟩ : ∃ fd, Fun K "_law_same_state" "_law_same_state" s__law_same_state f__law_same_state fd := ⟨_, fun_mk (st := s__law_same_state) l__law_same_state c__law_same_state k__law_same_state⟩
  obtain ⟨d_Sheet_at, F_Sheet_at⟩ : ∃ fd, Fun K "at" "Sheet.at" s_Sheet_at f_Sheet_at fd := ⟨_, fun_mk (st := s_Sheet_at) l_Sheet_at c_Sheet_at k_Sheet_at⟩
  obtain ⟨d__law_same_sheet, F__law_same_sheet⟩ : ∃ fd, Fun K "_law_same_sheet" "_law_same_sheet" s__law_same_sheet f__law_same_sheet fd := ⟨_, fun_mk (st := s__law_same_sheet) l__law_same_sheet c__law_same_sheet k__law_same_sheet⟩
  obtain ⟨d__law_grid, F__law_grid⟩ : ∃ fd, Fun K "_law_grid" "_law_grid" s__law_grid f__law_grid fd := ⟨_, fun_mk (st := s__law_grid) l__law_grid c__law_grid k__law_grid⟩
  obtain ⟨d__law_is, F__law_is⟩ : ∃ fd, Fun K "_law_is" "_law_is" s__law_is f__law_is fd := ⟨_, fun_mk (st := s__law_is) l__law_is c__law_is k__law_is⟩
  obtain ⟨d_law, F_law, b_law⟩ : ∃ fd, Fun K "law" "law" s_law f_law fd ∧ ∀ (s : Shared) (v : Value), BindsTo s fd ⟨[v], []⟩ [("_law_script", v)] := ⟨_, fun_mk (st := s_law) l_law c_law k_law, fun _ _ => .of_eq rfl⟩
  obtain ⟨d_UnknownPlace___init__, e_UnknownPlace___init__⟩ : ∃ fd, fd = (nfo s_UnknownPlace___init__ "__init__" "UnknownPlace.__init__" cc_UnknownPlace___init__ cd_UnknownPlace___init__).fd dc_UnknownPlace___init__ pm_UnknownPlace___init__ ct_UnknownPlace___init__ := ⟨_, rfl⟩
  obtain ⟨A, rfl, rfl, rfl, rfl, rfl, rfl, rfl, rfl, rfl, rfl, rfl, rfl, rfl, rfl, rfl, rfl, rfl, rfl, rfl, -⟩ : ∃ A : String → Addr, A "_law_box" = f__law_box ∧ A "_law_draw" = f__law_draw ∧ A "Sheet.__eq__" = f_Sheet___eq__ ∧ A "Sheet.__init__" = f_Sheet___init__ ∧ A "_bands_of" = f__bands_of ∧ A "check_band" = f_check_band ∧ A "Light.__init__" = f_Light___init__ ∧ A "_light" = f__light ∧ A "Light.numbered" = f_Light_numbered ∧ A "_law_int" = f__law_int ∧ A "_law_bands" = f__law_bands ∧ A "_law_same_light" = f__law_same_light ∧ A "_law_same_state" = f__law_same_state ∧ A "Sheet.at" = f_Sheet_at ∧ A "_law_same_sheet" = f__law_same_sheet ∧ A "_law_grid" = f__law_grid ∧ A "_law_is" = f__law_is ∧ A "law" = f_law ∧ A "UnknownPlace.__init__" = f_UnknownPlace___init__ ∧ True := assoc_ex f__law_box ["_law_box", "_law_draw", "Sheet.__eq__", "Sheet.__init__", "_bands_of", "check_band", "Light.__init__", "_light", "Light.numbered", "_law_int", "_law_bands", "_law_same_light", "_law_same_state", "Sheet.at", "_law_same_sheet", "_law_grid", "_law_is", "law", "UnknownPlace.__init__"] [f__law_box, f__law_draw, f_Sheet___eq__, f_Sheet___init__, f__bands_of, f_check_band, f_Light___init__, f__light, f_Light_numbered, f__law_int, f__law_bands, f__law_same_light, f__law_same_state, f_Sheet_at, f__law_same_sheet, f__law_grid, f__law_is, f_law, f_UnknownPlace___init__] (by decide +kernel) rfl
  obtain ⟨FD, rfl, rfl, rfl, rfl, rfl, rfl, rfl, rfl, rfl, rfl, rfl, rfl, rfl, rfl, rfl, rfl, rfl, rfl, rfl, -⟩ : ∃ FD : String → FuncData, FD "_law_box" = d__law_box ∧ FD "_law_draw" = d__law_draw ∧ FD "Sheet.__eq__" = d_Sheet___eq__ ∧ FD "Sheet.__init__" = d_Sheet___init__ ∧ FD "_bands_of" = d__bands_of ∧ FD "check_band" = d_check_band ∧ FD "Light.__init__" = d_Light___init__ ∧ FD "_light" = d__light ∧ FD "Light.numbered" = d_Light_numbered ∧ FD "_law_int" = d__law_int ∧ FD "_law_bands" = d__law_bands ∧ FD "_law_same_light" = d__law_same_light ∧ FD "_law_same_state" = d__law_same_state ∧ FD "Sheet.at" = d_Sheet_at ∧ FD "_law_same_sheet" = d__law_same_sheet ∧ FD "_law_grid" = d__law_grid ∧ FD "_law_is" = d__law_is ∧ FD "law" = d_law ∧ FD "UnknownPlace.__init__" = d_UnknownPlace___init__ ∧ True := assoc_ex d__law_box ["_law_box", "_law_draw", "Sheet.__eq__", "Sheet.__init__", "_bands_of", "check_band", "Light.__init__", "_light", "Light.numbered", "_law_int", "_law_bands", "_law_same_light", "_law_same_state", "Sheet.at", "_law_same_sheet", "_law_grid", "_law_is", "law", "UnknownPlace.__init__"] [d__law_box, d__law_draw, d_Sheet___eq__, d_Sheet___init__, d__bands_of, d_check_band, d_Light___init__, d__light, d_Light_numbered, d__law_int, d__law_bands, d__law_same_light, d__law_same_state, d_Sheet_at, d__law_same_sheet, d__law_grid, d__law_is, d_law, d_UnknownPlace___init__] (by decide +kernel) rfl
  obtain ⟨C, rfl, rfl, rfl, -⟩ : ∃ C : String → Addr, C "Light" = C_Light ∧ C "Sheet" = C_Sheet ∧ C "UnknownPlace" = C_UnknownPlace ∧ True := assoc_ex C_Light ["Light", "Sheet", "UnknownPlace"] [C_Light, C_Sheet, C_UnknownPlace] (by decide +kernel) rfl
  subst e
  have T : Tx l.prog K mg C A FD := ⟨F__law_box,
    PySem.W.mg_of X G a__law_box,
    F__law_draw,
    PySem.W.mg_of X G a__law_draw,
    F_Sheet___eq__,
    F_Sheet___init__,
    F__bands_of,
    PySem.W.mg_of X G a__bands_of,
    F_check_band,
    PySem.W.mg_of X G a_check_band,
    F_Light___init__,
    b_Light___init__,
    F__light,
    PySem.W.mg_of X G a__light,
    F_Light_numbered,
    F__law_int,
    PySem.W.mg_of X G a__law_int,
    F__law_bands,
    PySem.W.mg_of X G a__law_bands,
    F__law_same_light,
    PySem.W.mg_of X G a__law_same_light,
    F__law_same_state,
    PySem.W.mg_of X G a__law_same_state,
    F_Sheet_at,
    F__law_same_sheet,
    PySem.W.mg_of X G a__law_same_sheet,
    F__law_grid,
    PySem.W.mg_of X G a__law_grid,
    F__law_is,
    PySem.W.mg_of X G a__law_is,
    F_law,
    PySem.W.mg_of X G a_law,
    PySem.W.mg_of X G aC_Light,
    PySem.W.mg_of X G aC_Sheet,
    PySem.W.mg_of X G aC_UnknownPlace,
    ⟨pg_Light, hd_Light, po_Light, sa_Light⟩,
    ⟨pg_Sheet, hd_Sheet, po_Sheet, sa_Sheet⟩,
    n_Light_bands,
    n_Light_number,
    n_Sheet__lines,
    n_Sheet_height,
    n_Sheet_width,
    ⟨mk_Light, a_Light___init__, i_Light___init__, kc_Light⟩,
    ⟨mk_Sheet, a_Sheet___init__, i_Sheet___init__, kc_Sheet⟩,
    ⟨a_Sheet_at, i_Sheet_at, k_Sheet_at⟩,
    ⟨rd_Light, ga_Light⟩,
    ⟨_, a_Light_numbered, ⟨_, r1_Light_numbered⟩, i_Light_numbered⟩,
    ⟨_, v_Light_BANDS, ⟨_, rfl⟩⟩,
    ⟨_, PySem.W.mg_of X G co_LIGHTS, ⟨_, rfl⟩⟩,
    sf_Sheet,
    a_Sheet___eq__,
    i_Sheet___eq__,
    nf_Sheet_own_Sheet,
    nf_Sheet_ty_int,
    ⟨⟨pg_Light, hd_Light, po_Light, sa_Light⟩, ica_Light, icm_Light⟩,
    ⟨⟨pg_Sheet, hd_Sheet, po_Sheet, sa_Sheet⟩, ica_Sheet, icm_Sheet⟩,
    ⟨ikn, ikt⟩,
    it_own_Light_own_Light,
    it_own_Sheet_own_Sheet,
    it_ty_int_own_Sheet,
    it_ty_tuple_ty_tuple,
    it_ty_int_ty_int,
    it_ty_int_ty_bool,
    it_ty_bool_ty_bool,
    PySem.W.mg_none_of X G no_all,
    PySem.W.mg_none_of X G no_bool,
    PySem.W.mg_none_of X G no_int,
    PySem.W.mg_none_of X G no_isinstance,
    PySem.W.mg_none_of X G no_len,
    PySem.W.mg_none_of X G no_range,
    PySem.W.mg_none_of X G no_super,
    PySem.W.mg_none_of X G no_tuple,
    ⟨⟨cc_UnknownPlace___init__, cd_UnknownPlace___init__, _, _, _, _, _, _, e_UnknownPlace___init__, l_UnknownPlace___init__, c_UnknownPlace___init__, ⟨rfl, ⟨_, _, _, _, _, l_UnknownPlace___init__, rfl, rfl⟩, ⟨_, _, _, _, _, _, lc_UnknownPlace___init__, vf_UnknownPlace___init__, pf_UnknownPlace___init__⟩, ⟨_, _, _, ce_UnknownPlace___init__⟩, clsIn_of ⟨⟨_, _, _, _, _, _, _, _, _, _, _, _, _, _, _, ex_UnknownPlace___init__, rv_UnknownPlace___init__⟩, sa_UnknownPlace___init__, xc_UnknownPlace___init__, tc_UnknownPlace___init__, kc_UnknownPlace___init__⟩, no_super, (show List.lookup ("super" : Str) (defScope s_UnknownPlace___init__).names = some NameKind.globalImplicit by decide +kernel), (show List.lookup ("__class__" : Str) (defScope s_UnknownPlace___init__).names = some NameKind.free by decide +kernel), (show List.lookup ("self" : Str) (defScope s_UnknownPlace___init__).names = some NameKind.local by decide +kernel), (show (defScope s_UnknownPlace___init__).kind = ScopeKind.function by decide +kernel), topS⟩⟩, ⟨⟨_, _, _, _, _, _, _, _, _, _, _, _, _, _, _, ex_UnknownPlace___init__, rv_UnknownPlace___init__⟩, sa_UnknownPlace___init__, xc_UnknownPlace___init__, tc_UnknownPlace___init__, kc_UnknownPlace___init__⟩, a_UnknownPlace___init__, tf_UnknownPlace___init__, hst, si_UnknownPlace___init__, su_UnknownPlace___init__, PySem.W.mg_none_of X G no_super, hn_UnknownPlace___init__, hn2_UnknownPlace___init__, (by rw [e_UnknownPlace___init__]; exact Binds.all (fun us hl => match us, hl with | [_, _, _], _ => rfl)), ⟨xg_UnknownPlace___init__, xh_UnknownPlace___init__, xc_UnknownPlace___init__, xd_UnknownPlace___init__⟩⟩,
    xm_UnknownPlace_UnknownPlace,
    bd_Sheet___init__⟩
  exact ⟨_, b_law, fun base _ _ => (ok_law T).imp (spd_law hmath)⟩
end K61
set_option Elab.async false
set_option linter.all false
set_option maxRecDepth 100000
set_option maxHeartbeats 4000000
namespace K61
open PySem DL
/-- the law's box: the cells, the place, the state -/
def bx (cs : List Int) (p : Nat) (s : Int) : GS := [GO.lst (cs.map fun x => .d (.int x)), GO.lst [.o 0, .d (.int p), .d (.int s)]]
theorem at0 {α : Type} (a b c : α) : L2.atI [a, b, c] 0 = some a := rfl
theorem at1 {α : Type} (a b c : α) : L2.atI [a, b, c] 1 = some b := rfl
theorem at2 {α : Type} (a b c : α) : L2.atI [a, b, c] 2 = some c := rfl
theorem ix1 : L2.ixN (0 + 1 + 1 + 1) 1 = some 1 := rfl
theorem ix2 : L2.ixN (0 + 1 + 1 + 1) 2 = some 2 := rfl
theorem atc {cs : List Int} {p : Nat} (h : p < cs.length) : L2.atI (cs.map fun x => EV.d (.int x)) (p : Int) = some (.d (.int cs[p])) := L2.atI_nat (by simp [h])
theorem cdiv {i m : Int} (h0 : 0 < m) (hm : m < 2 ^ 200) : cDiv i m = true := by unfold cDiv; rw [decide_eq_true h0, decide_eq_true hm]; rfl
theorem cpos {i m : Int} (h0 : 0 < m) : cPos i m = true := by unfold cPos; rw [decide_eq_true h0]
theorem cpow : cPow 10 18 = true := by decide +kernel
theorem cmul {i j : Int} (h : -(2 ^ 64) < j ∧ j < 2 ^ 64) : cMul i j = true := by unfold cMul; rw [decide_eq_true (p := -(2 ^ 64) < j ∧ j < 2 ^ 64) h, Bool.or_true]
theorem e18 : Int.toNat 18 = 18 := rfl
theorem ixc {cs : List Int} {p : Nat} (h : p < cs.length) : L2.ixN cs.length (p : Int) = some p := by
  unfold L2.ixN
  rw [if_pos (by omega), if_pos (by omega)]
  simp
theorem set_c {cs : List Int} {p : Nat} {v : Int} : (cs.map fun x => EV.d (.int x)).set p (EV.d (.int v)) = (cs.set p v).map fun x => EV.d (.int x) := by rw [List.map_set]
theorem cm1 {i : Int} : cMul i 48271 = true := cmul ⟨by decide, by decide⟩
theorem cm2 {i : Int} : cMul i 69621 = true := cmul ⟨by decide, by decide⟩
theorem cm3 {i : Int} : cMul i 16807 = true := cmul ⟨by decide, by decide⟩
theorem cm4 {i j : Int} : cMul i (j % 2147483647) = true := cmul ⟨by have := Int.emod_nonneg j (b := 2147483647) (by decide); omega, by have := Int.emod_lt_of_pos j (b := 2147483647) (by decide); omega⟩
theorem cp1 {i : Int} : cPos i 2147483629 = true := cpos (by decide)
theorem cp2 {i : Int} : cPos i 2147483647 = true := cpos (by decide)
theorem cp3 {i : Int} : cPos i 998244353 = true := cpos (by decide)
theorem cd5 {i : Int} : cDiv i 5 = true := cdiv (by decide) (by decide)
def stN (s c p : Int) : Int := (s * 48271 + c % 2147483629 * 69621 + p + 1) % 2147483647
def ouN (st m : Int) : Int := (st * st + st * 16807) % 998244353 / 5 % m
theorem ge_draw (cs : List Int) (p : Nat) (s m : Int) (h0 : 0 < m) (hm : m < 2 ^ 200) : ∃ (v : Int) (cs' : List Int) (p' : Nat) (s' : Int), g__law_draw [.o 1, .d (.int m)] (bx cs p s) = .ok (.d (.int v)) (bx cs' p' s') ∧ 0 ≤ v ∧ v < m := by
  by_cases hc : cs = []
  · subst hc
    exact ⟨0, [], p, s, by kernel_rfl, by omega, h0⟩
  · have hl : decide ((cs.length : Int) = 0) = false := decide_eq_false fun z => hc (List.length_eq_zero_iff.mp (by omega))
    have hq : ∀ i, cPos i m = true := fun i => cpos h0
    have hd : ∀ i, cDiv i m = true := fun i => cdiv h0 hm
    by_cases hp : p < cs.length
    · have hpi : decide ((p : Int) < (cs.length : Int)) = true := decide_eq_true (by omega)
      have ha := atc hp
      have hx := ixc hp
      by_cases hb : (10 : Int) ^ 18 ≤ cs[p]
      · refine ⟨cs[p] % m, cs.set p (cs[p] / m), p, s, ?_, Int.emod_nonneg _ (by omega), Int.emod_lt_of_pos _ h0⟩
        have hb' : decide ((10 : Int) ^ 18 ≤ cs[p]) = true := decide_eq_true hb
        generalize cs[p] = c at *
        simp only [g__law_draw, m__law_draw, runB, env0, bx, List.map, List.length, List.replicate, List.append, List.cons_append, List.nil_append, sSeq, sSet, sIf, sRet, sNil, sSub, seqO, ofE, Out.bind, eOp, eVar, eC, aNil, aCons, eFN, fIx, fLen, bOf, isB, bAnd, lift, retO, pure2, gII, gIC, gEq, gAdd,
          fEq, fLt, fGe, fPow, fDiv, fMod, fMul, fAdd, fInt, pureN, gInt, datas, Option.map, Option.bind, List.set, List.getElem?_cons_zero, List.getElem?_cons_succ, List.length_map, at0, at1, at2, ix1, ix2, cpow, e18, if_true, if_false, reduceIte, Bool.false_eq_true, Nat.succ_eq_add_one, Nat.sub_zero, hl, hpi, ha, hx, hb', hq, hd, set_c]
      · have hb' : decide ((10 : Int) ^ 18 ≤ cs[p]) = false := decide_eq_false hb
        generalize cs[p] = c at *
        refine ⟨ouN (stN s c p) m, cs, p + 1, stN s c p, ?_, Int.emod_nonneg _ (Int.ne_of_gt h0), Int.emod_lt_of_pos _ h0⟩
        · simp only [g__law_draw, m__law_draw, runB, env0, bx, List.map, List.length, List.replicate, List.append, List.cons_append, List.nil_append, sSeq, sSet, sIf, sRet, sNil, sSub, seqO, ofE, Out.bind, eOp, eVar, eC, aNil, aCons, eFN, fIx, fLen, bOf, isB, bAnd, lift, retO, pure2, gII, gIC, gEq, gAdd,
          fEq, fLt, fGe, fPow, fDiv, fMod, fMul, fAdd, fInt, pureN, gInt, datas, Option.map, Option.bind, List.set, List.getElem?_cons_zero, List.getElem?_cons_succ, List.length_map, at0, at1, at2, ix1, ix2, cpow, e18, if_true, if_false, reduceIte, Bool.false_eq_true, Nat.succ_eq_add_one, Nat.sub_zero, hl, hpi, ha, hx, hb', hq, hd, set_c, cm1, cm2, cm3, cm4, cp1, cp2, cp3, cd5, Int.natCast_add, Int.natCast_one]
          rfl
    · have hpi : decide ((p : Int) < (cs.length : Int)) = false := decide_eq_false (by omega)
      refine ⟨ouN (stN s 0 p) m, cs, p + 1, stN s 0 p, ?_, Int.emod_nonneg _ (Int.ne_of_gt h0), Int.emod_lt_of_pos _ h0⟩
      · simp only [g__law_draw, m__law_draw, runB, env0, bx, List.map, List.length, List.replicate, List.append, List.cons_append, List.nil_append, sSeq, sSet, sIf, sRet, sNil, sSub, seqO, ofE, Out.bind, eOp, eVar, eC, aNil, aCons, eFN, fIx, fLen, bOf, isB, bAnd, lift, retO, pure2, gII, gIC, gEq, gAdd,
          fEq, fLt, fGe, fPow, fDiv, fMod, fMul, fAdd, fInt, pureN, gInt, datas, Option.map, Option.bind, List.set, List.getElem?_cons_zero, List.getElem?_cons_succ, List.length_map, at0, at1, at2, ix1, ix2, cpow, e18, if_true, if_false, reduceIte, Bool.false_eq_true, Nat.succ_eq_add_one, Nat.sub_zero, hl, hpi, hq, hd, set_c, cm1, cm2, cm3, cm4, cp1, cp2, cp3, cd5, Int.natCast_add, Int.natCast_one]
        rfl
theorem lc_int (s0 : Sl) : ∀ (ns : List Int) (G : GS), lcL 1 bYes (eFN fInt (aCons (eVar 1) aNil)) (ns.map .int) [s0, .no] G = .ok (ns.map .int) G
  | [], G => rfl
  | n :: ns, G => by
    have h := lc_int s0 ns G
    simp only [List.map]
    unfold lcL
    have e1 : eFN fInt (aCons (eVar 1) aNil) [s0, .ev (.d (.int n))] G = .ok (.d (.int n)) G := rfl
    simp only [bYes, bindN, List.set, if_true, e1, h]
theorem box_ok (ns : List Int) (h : ns.length ≤ 63) : g__law_box [scr ns] [] = .ok (.o 1) (bx ns 0 1) := by
  have hc : cutL (ns.map DL.D.int) none (some 63) = ns.map DL.D.int := by
    unfold cutL
    rw [show HT.sIx (ns.map DL.D.int).length 0 none = 0 from rfl, show HT.sIx (ns.map DL.D.int).length (ns.map DL.D.int).length (some 63) = min 63 (ns.map DL.D.int).length from rfl, List.drop_zero, List.length_map, Nat.min_eq_right h, Nat.sub_zero, List.take_of_length_le (by simp)]
  have hl : (ns.map DL.D.int).length ≤ lstMax := by rw [List.length_map]; exact Nat.le_trans h (by decide)
  have h3 : (3 : Nat) ≤ lstMax := by decide
  have e : bx ns 0 1 = [GO.lst ((ns.map DL.D.int).map .d), GO.lst [.o 0, .d (.int 0), .d (.int 1)]] := by
    unfold bx
    rw [List.map_map]
    rfl
  have z : eLcO 1 [1] (lSeq (eSl (eVar 0) oNone (oSome (eC (.int 63))))) bYes (eFN fInt (aCons (eVar 1) aNil)) (env0 2 [scr ns]) [] = .ok (.o 0) [GO.lst ((ns.map DL.D.int).map .d)] := by
    have w : eSl (eVar 0) oNone (oSome (eC (.int 63))) (env0 2 [scr ns]) [] = .ok (.d (.lst (cutL (ns.map DL.D.int) none (some 63)))) [] := rfl
    unfold eLcO eLcF lSeq
    rw [w, hc]
    show bindN (lcL 1 bYes (eFN fInt (aCons (eVar 1) aNil)) (ns.map .int) [.ev (scr ns), .no] []) _ = _
    rw [lc_int]
    show (if (ns.map DL.D.int).length ≤ lstMax then _ else _) = _
    rw [if_pos hl]
    rfl
  have z2 : aCons (eLcO 1 [1] (lSeq (eSl (eVar 0) oNone (oSome (eC (.int 63))))) bYes (eFN fInt (aCons (eVar 1) aNil))) (aCons (eC (.int 0)) (aCons (eC (.int 1)) aNil)) (env0 2 [scr ns]) [] = .ok [.o 0, .d (.int 0), .d (.int 1)] [GO.lst ((ns.map DL.D.int).map .d)] := by
    show Out.bind (eLcO 1 [1] (lSeq (eSl (eVar 0) oNone (oSome (eC (.int 63))))) bYes (eFN fInt (aCons (eVar 1) aNil)) (env0 2 [scr ns]) []) _ = _
    rw [z]
    rfl
  have z3 : eObj (aCons (eLcO 1 [1] (lSeq (eSl (eVar 0) oNone (oSome (eC (.int 63))))) bYes (eFN fInt (aCons (eVar 1) aNil))) (aCons (eC (.int 0)) (aCons (eC (.int 1)) aNil))) (env0 2 [scr ns]) [] = .ok (.o 1) (bx ns 0 1) := by
    unfold eObj
    rw [z2, e]
    exact if_pos (e := Out.st) h3
  show retO (ofE (eObj (aCons (eLcO 1 [1] (lSeq (eSl (eVar 0) oNone (oSome (eC (.int 63))))) bYes (eFN fInt (aCons (eVar 1) aNil))) (aCons (eC (.int 0)) (aCons (eC (.int 1)) aNil))) (env0 2 [scr ns]) []) _ _) = _
  rw [z3]
  rfl
def bandsD (n : Nat) : List DL.D := ((List.range 6).filter fun k => n.testBit k).map fun (k : Nat) => DL.D.int (k : Int)
def lightD (n : Nat) : DL.D := .ins "Light" [.tup (bandsD n), .int n]
theorem of_tab {α : Type} {N : Nat} {f g : Nat → α} (h : (List.range N).map f = (List.range N).map g) {n : Nat} (hn : n < N) : f n = g n := by
  have z := congrArg (fun l : List α => l[n]?) h
  simpa [hn] using z
theorem num_tab : ∀ G, (List.range 64).map (fun (n : Nat) => g_Light_numbered [.d (.cls "Light"), .d (.int n)] G) = (List.range 64).map fun (n : Nat) => .ok (.d (lightD n)) G := fun G => by kernel_rfl
theorem same_tab : ∀ G, (List.range 64).map (fun (n : Nat) => g__law_same_light [.d (lightD n), .d (.int n)] G) = (List.range 64).map fun (n : Nat) => .ok (.d (.bl true)) G := fun G => by kernel_rfl
theorem num_ok {n : Nat} (h : n < 64) (G : GS) : g_Light_numbered [.d (.cls "Light"), .d (.int n)] G = .ok (.d (lightD n)) G := of_tab (num_tab G) h
theorem same_ok {n : Nat} (h : n < 64) (G : GS) : g__law_same_light [.d (lightD n), .d (.int n)] G = .ok (.d (.bl true)) G := of_tab (same_tab G) h
theorem sqn {a b : SM} {env env' : En} {G G' : GS} (h : a env G = .nx env' G') : sSeq a b env G = b env' G' := by unfold sSeq; rw [h]; rfl
theorem setn {i : Nat} {m : EM} {env : En} {G G' : GS} {e : EV} (h : m env G = .ok e G') : sSet i m env G = .nx (env.set i (.ev e)) G' := by unfold sSet; rw [h]; rfl
theorem ift {t : BM} {a b : SM} {env : En} {G G' : GS} {k : Bool} (h : t env G = .ok k G') : sIf t a b env G = if k = true then a env G' else b env G' := by unfold sIf; rw [h]; rfl
theorem nat_of {v m : Int} (h0 : 0 ≤ v) (h1 : v < m) : ∃ n : Nat, v = (n : Int) ∧ (n : Int) < m := ⟨v.toNat, by omega, by omega⟩
theorem sret_eq {m : EM} {env : En} {G G1 : GS} {e : EV} (h : m env G = .ok e G1) : sRet m env G = .rt e G1 := by unfold sRet; rw [h]; rfl
theorem three {k : Nat} (h : k < 3) : k = 0 ∨ k = 1 ∨ k = 2 := by omega
abbrev Bx := List Int × Nat × Int
def bS (b : Bx) : GS := bx b.1 b.2.1 b.2.2
theorem draw_b (b : Bx) (m : Int) (h0 : 0 < m) (hm : m < 2 ^ 200) : ∃ (v : Nat) (b' : Bx), g__law_draw [.o 1, .d (.int m)] (bS b) = .ok (.d (.int (v : Nat))) (bS b') ∧ (v : Int) < m := by
  obtain ⟨v, cs', p', s', e, h1, h2⟩ := ge_draw b.1 b.2.1 b.2.2 m h0 hm
  obtain ⟨n, rfl, hn⟩ := nat_of h1 h2
  exact ⟨n, (cs', p', s'), e, hn⟩
theorem draw_s (b : Bx) (m : Int) (h0 : 0 < m) (hm : m < 1000) : ∃ (v : Nat) (b' : Bx), g__law_draw [.o 1, .d (.int m)] (bS b) = .ok (.d (.int (v : Nat))) (bS b') ∧ (v : Int) < m := draw_b b m h0 (Int.lt_trans hm (by decide))
structure One where
  mask : Option Str
  side : Bool
  j : Nat
  k : Nat
  off : Nat
  on : Nat
structure One.Ok (x : One) : Prop where
  hj : x.j < 4
  hk : x.k < 3
  ho : x.off < 64
  hn : x.on < 64
  hz : x.off &&& x.on = 0
  hf : x.j = 0 → x.on = 0
  hb : x.j = 1 → x.off = 0
  hq : x.j = 2 → x.off = 63 - x.on
/-- does an ink of this condition print where it is inked (w), or not -/
def tk : Nat → Bool → Bool | 0, _ => true | 1, w => !w | _, w => w
def efO (k : Nat) (w : Bool) (off : Nat) : Nat := if tk k w = true then off else 0
def efN (k : Nat) (w : Bool) (on : Nat) : Nat := if tk k w = true then on else 0
def efM (k : Nat) (w : Bool) : Bool := if tk k w = true then true else w
structure FN where
  o : Nat
  n : Nat
  m : Bool
  o2 : Nat
  n2 : Nat
structure FN.Ok (f : FN) : Prop where
  o : f.o < 64
  n : f.n < 64
  o2 : f.o2 < 64
  n2 : f.n2 < 64
def FN.add (f g : FN) : FN := ⟨if f.m = true then (f.o &&& (63 - g.n2)) ||| g.o2 else (f.o &&& (63 - g.n)) ||| g.o, if f.m = true then (f.n &&& (63 - g.o2)) ||| g.n2 else (f.n &&& (63 - g.o)) ||| g.n, if f.m = true then true else g.m, (f.o2 &&& (63 - g.n2)) ||| g.o2, (f.n2 &&& (63 - g.o2)) ||| g.n2⟩
def FN.app (f : FN) (c : Nat) (w : Bool) : Nat × Bool := if w = true then ((c &&& (63 - f.o2)) ||| f.n2, true) else ((c &&& (63 - f.o)) ||| f.n, f.m)
theorem FN.Ok.add {f g : FN} (hf : f.Ok) (hg : g.Ok) : (f.add g).Ok := by
  obtain ⟨f1, f2, f3, f4⟩ := hf
  obtain ⟨g1, g2, g3, g4⟩ := hg
  refine ⟨?_, ?_, or_lt64 (and_lt64 f3) g3, or_lt64 (and_lt64 f4) g4⟩
  · show (if f.m = true then _ else _) < 64
    split
    · exact or_lt64 (and_lt64 f1) g3
    · exact or_lt64 (and_lt64 f1) g1
  · show (if f.m = true then _ else _) < 64
    split
    · exact or_lt64 (and_lt64 f2) g4
    · exact or_lt64 (and_lt64 f2) g2
def FN.zero : FN := ⟨0, 0, false, 0, 0⟩
theorem FN.zero_add (f : FN) : FN.zero.add f = f := by
  obtain ⟨fo, fn, fm, fo2, fn2⟩ := f
  simp [FN.zero, FN.add]
def inkF (k off on : Nat) : FN := ⟨efO k false off, efN k false on, efM k false, efO k true off, efN k true on⟩
theorem inkF_ok {k off on : Nat} (ho : off < 64) (hn : on < 64) : (inkF k off on).Ok := by
  refine ⟨?_, ?_, ?_, ?_⟩
  · show efO k false off < 64
    unfold efO; split <;> omega
  · show efN k false on < 64
    unfold efN; split <;> omega
  · show efO k true off < 64
    unfold efO; split <;> omega
  · show efN k true on < 64
    unfold efN; split <;> omega
def One.f (x : One) : FN := inkF x.k x.off x.on
theorem One.Ok.f {x : One} (h : x.Ok) : x.f.Ok := inkF_ok h.ho h.hn
def stT (s : Nat × Bool) : DL.D := .tup [.int (s.1 : Nat), .bl s.2]
def One.act (x : One) (lit : List Str) : Bool := match x.mask with
  | none => true
  | some m => !decide ((lit.any (· == m) != false) = x.side)
def One.app (x : One) (lit : List Str) (s : Nat × Bool) : Nat × Bool := if x.act lit = true then x.f.app s.1 s.2 else s
def run (lit : List Str) : List One → Nat × Bool → Nat × Bool
  | [], s => s
  | x :: xs, s => run lit xs (x.app lit s)
theorem sst_gen {n : Nat} {m : Bool} (hn : n < 64) (G : GS) : g__law_same_state [.d (.tup [lightD n, .bl m]), .d (stT (n, m))] G = .ok (.d (.bl true)) G := by
  have e := same_ok hn G
  have i1 : ∀ xs, gIsi TB [.tup xs, .ty "tuple"] = some (.bl true) := fun _ => by kernel_rfl
  have i2 : ∀ b, gIsi TB [.bl b, .ty "bool"] = some (.bl true) := fun _ => by kernel_rfl
  cases m <;> simp -implicitDefEqProofs only [bind_ok, bind_er, bindN_ok, ofE_ok, ofE_er, seqO_nx, seqO_rt, seqO_er, seqO_bk, seqO_ct, loopO_nx, loopO_ct, loopO_bk, loopO_rt, loopO_er, lift_s, retO_rt, retO_nx, retO_er, mkO_ok, mkO_er, toOpt_ok, eVar_z, eVar_s, oL_z, oL_s, frz_z, frz_s, wipe_n, wipe_c, datas_n, datas_c, map_s, bind_s, setA_n, setA_c, p2_d, p1_d, pN_d, fEq_i, fEq_s, fEq_b, fEq_ii, fNe_i, fNe_s, fNe_b, fSub_i, fAdd_i, fAnd_i, fOr_i, fXor_i, fLt_i, fLe_i, fGt_i, fGe_i, fIs_d, fIsNot_d, fIsB_b, isB_b, tru_b, tru_i, tru_l, tru_t, orE_s, orE_n, alt2_e, alt1_e, altN_e, fIx_l, fIx_t, at_0, at_1, at_2, at_3, at_4, at_5, for_n, for_c, lc_n, len_lst, len_tup, kfn_c, kix_c, sSeq_e, sNil_e, sSet_e, sSet2_e, sRet_e, sRetN_e, sDrop_e, sIf_e, sBk_e, sCt_e, sFrz_e, sOwn_e, sFor_e, sUnp_e, eC_e, eOp_e, eUn_e, aNil_e, aCons_e, aApp_e, eFN_e, eCall_e, eMake_e, eCMeth_e, eCallO_e, eLst_e, eTup_e, nLst_e, nLc_e, eLc_e, lSeq_e, lTup_e, eIf_e, eAnd_e, eOr_e, eNot_e, bOf_e, bAnd_e, bOr_e, bNot_e, eFld_e, runB_e, env0_e, oN_e, List.set_cons_zero, List.set_cons_succ, List.map_cons, List.map_nil, List.cons_append, List.nil_append, List.replicate_succ, List.replicate_zero, List.length_cons, List.length_nil, List.getElem?_cons_zero, List.getElem?_cons_succ, reduceIte, if_true, if_false, Bool.false_eq_true, arN_t, decide_true, decide_false, isNon, Bool.not_true, Bool.not_false, Bool.true_and, Bool.false_and, Bool.and_true, Bool.and_false, bYes_e, lstMax_e, Nat.reduceAdd, Nat.reduceSub, Nat.reduceLeDiff, Int.reduceLT, Int.reduceLE, Int.reduceEq, String.reduceEq, and_self, decide_eq_true_eq, and_true, true_and, cPos_e, cDiv_e, fMod_i, fDiv_i, Int.reduceMod, Int.reduceDiv, Int.reduceSub, Int.reduceAdd, Int.reducePow, kOf_i, fsOf_i, fOwn_k, fOwn1_k, gFld_k, methO_e, methK_s, methA_s, ownK_s, ownK_n, ownK_m, own1K_s, own1K_n, fldK_s, sApp_e, appK_s, sOSub_e, osubK_s, eOIx_e, oixK_s, eOLen_e, olenK_s, ixN_p, Int.reduceToNat, Nat.reduceLT, oS_e, eSl_e, eSlT_e, kSet_e, kSet2_e, kDrop_e, kIf_t, kIf_f, kOwn_e, kApp_e, kOsub1_e, kOsub2_e, osK_s, kOix_e, ixK_s, kFor_e, kUnp_e, unpK_s, kOp1_e, kOp2_e, kUn_e, kC1_e, kC2_e, kA1_e, kA2_e, kFN_e, kCall_e, kMake_e, kCM_e, kMeth_e, kLst_e, lstK_s, kTup_e, tupK_s, kNl_e, nlK_s, nList_e, kNli_e, nliK_s, lOf_l, lOf_t, kNc1_e, kNc2_e, kLc1_e, kLc2_e, kSeq_e, kTpl_e, kEIf_t, kEIf_f, kEAnd_t, kEAnd_f, kEOr_t, kEOr_f, kENot_e, kB_e, kBAnd_t, kBAnd_f, kBOr_t, kBOr_f, kBNot_e, kOS_e, kSl1_e, kSl2_e, kSl3_e, kSt1_e, kSt2_e, kSt3_e, eMeth_e, kMe_e, lc_c, kL1_e, kL2_e, kT_t, kT_f, Int.cast_ofNat_Int, Int.natCast_zero, Int.natCast_one, lRng1_e, kRng_1, kRng_2, kRng_3, kRng_4, kRng_5, kRng_6, List.length_map, arS_0, sEr_e, sTryAs_e, tryK_nx, tryK_rt, tryK_er, afterO_rt, afterO_nx, eXf_e, xfS_s, xfK_s, plain_n, plain_e, List.all_cons, List.all_nil, eq_self, sTryN_e, tryN_nx, tryN_rt, tryN_h, tryN_t, dflI_e, dflF_e, not_false_eq_true, eMethK_e, kMK_e, kMK2_e, eProp_e, kPr_e, eNotO_e, kNotO_e, notK_s, eSlA_e, kSA1_e, kSA2_e, kSA3_l, kSA3_t, eGetO_e, kGet1_e, kGet2_e, getK_s, g__law_same_state, m__law_same_state, stT, fIsi, i1, i2, e]
theorem sq_er {a b : SM} {env env' : En} {G G' : GS} {cl : String} {fs : List DL.D} (h : a env G = .er cl fs env' G') : sSeq a b env G = .er cl fs env' G' := by unfold sSeq; rw [h]; rfl
theorem is_ok (b : Bool) (G : GS) : g__law_is [.d (.bl b), .d (.bl b)] G = .ok (.d (.bl true)) G := by cases b <;> kernel_rfl
end K61
set_option Elab.async false
set_option linter.all false
set_option maxRecDepth 100000
set_option maxHeartbeats 4000000
namespace K61
open PySem DL
def cellD (n : Nat) (m : Bool) : DL.D := .tup [.int (n : Nat), .bl m]
def lineD (w n : Nat) (m : Bool) : DL.D := .tup (List.replicate w (cellD n m))
def linesD (w h n : Nat) (m : Bool) : DL.D := .tup (List.replicate h (lineD w n m))
def sheetD (w h n : Nat) (m : Bool) : DL.D := .ins "Sheet" [.int (w : Nat), .int (h : Nat), linesD w h n m]
def gridD (w h n : Nat) (m : Bool) : DL.D := .lst (List.replicate h (.lst (List.replicate w (cellD n m))))
theorem rep_t (c : DL.D) {w : Nat} (h1 : 1 ≤ w) (h2 : w ≤ 1000) (G : GS) : alt2 fMul (alt2 fRepL fRepT) (.d (.tup [c])) (.d (.int (w : Nat))) G = some (.d (.tup (List.replicate w c)), G) := by
  have e : fRepT (.d (.tup [c])) (.d (.int (w : Nat))) G = some (.d (.tup (List.replicate w c)), G) := by
    show (if (w : Int) = 1 then some (EV.d (.tup [c]), G) else if [c] ≠ [] ∧ 2 ≤ (w : Int) ∧ (w : Int) ≤ 1000 ∧ [c].length ≤ 1000 then some (EV.d (.tup (List.replicate (w : Int).toNat [c]).flatten), G) else none) = _
    by_cases h : w = 1
    · subst h; rfl
    · rw [if_neg (by omega), if_pos ⟨by simp, by omega, by omega, by simp⟩, Int.toNat_natCast, List.flatten_replicate_singleton]
  rw [alt2_e, show fMul (.d (.tup [c])) (.d (.int (w : Nat))) G = none from rfl, orE_n, alt2_e, show fRepL (.d (.tup [c])) (.d (.int (w : Nat))) G = none from rfl, orE_n, e]
theorem rep_l (c : DL.D) {w : Nat} (h2 : w ≤ 1000) (G : GS) : alt2 fMul (alt2 fRepL fRepT) (.d (.lst [c])) (.d (.int (w : Nat))) G = some (.d (.lst (List.replicate w c)), G) := by
  have e : fRepL (.d (.lst [c])) (.d (.int (w : Nat))) G = some (.d (.lst (List.replicate w c)), G) := by
    show (if 0 ≤ (w : Int) ∧ (w : Int) ≤ 1000 ∧ [c].length ≤ 100 then some (EV.d (.lst (List.replicate (w : Int).toNat [c]).flatten), G) else none) = _
    rw [if_pos ⟨by omega, by omega, by simp⟩, Int.toNat_natCast, List.flatten_replicate_singleton]
  rw [alt2_e, show fMul (.d (.lst [c])) (.d (.int (w : Nat))) G = none from rfl, orE_n, alt2_e, e, orE_s]
theorem make_ok {w h n : Nat} (m : Bool) (hw : 1 ≤ w) (hw2 : w ≤ 1000) (hh : 1 ≤ h) (hh2 : h ≤ 1000) (G : GS) : g_Sheet___init___for_Sheet [.d (.int (w : Nat)), .d (.int (h : Nat)), .d (lightD n), .d (.bl m)] G = .ok [.int (w : Nat), .int (h : Nat), linesD w h n m] G := by
  have r1 := rep_t (cellD n m) hw hw2 G
  have r2 := rep_t (lineD w n m) hh hh2 G
  have f : fsOf (lightD n) = [.tup (bandsD n), .int (n : Nat)] := rfl
  have k : kOf (.d (lightD n)) = some "Light" := rfl
  have a : eOp (alt2 (fMul) (alt2 fRepL fRepT)) (eTup (aCons (eTup (aCons (eFld [("Light", 1)] (eVar 3)) (aCons (eVar 4) (aNil)))) (aNil))) (eVar 1) [.own (.ins "Sheet" []), .ev (.d (.int (w : Nat))), .ev (.d (.int (h : Nat))), .ev (.d (lightD n)), .ev (.d (.bl m)), .no] G = .ok (.d (lineD w n m)) G := by
    unfold cellD at r1
    simp -implicitDefEqProofs only [bind_ok, bind_er, bindN_ok, ofE_ok, ofE_er, seqO_nx, seqO_rt, seqO_er, seqO_bk, seqO_ct, loopO_nx, loopO_ct, loopO_bk, loopO_rt, loopO_er, lift_s, retO_rt, retO_nx, retO_er, mkO_ok, mkO_er, toOpt_ok, eVar_z, eVar_s, oL_z, oL_s, frz_z, frz_s, wipe_n, wipe_c, datas_n, datas_c, map_s, bind_s, setA_n, setA_c, p2_d, p1_d, pN_d, fEq_i, fEq_s, fEq_b, fEq_ii, fNe_i, fNe_s, fNe_b, fSub_i, fAdd_i, fAnd_i, fOr_i, fXor_i, fLt_i, fLe_i, fGt_i, fGe_i, fIs_d, fIsNot_d, fIsB_b, isB_b, tru_b, tru_i, tru_l, tru_t, orE_s, orE_n, alt2_e, alt1_e, altN_e, fIx_l, fIx_t, at_0, at_1, at_2, at_3, at_4, at_5, for_n, for_c, lc_n, len_lst, len_tup, kfn_c, kix_c, sSeq_e, sNil_e, sSet_e, sSet2_e, sRet_e, sRetN_e, sDrop_e, sIf_e, sBk_e, sCt_e, sFrz_e, sOwn_e, sFor_e, sUnp_e, eC_e, eOp_e, eUn_e, aNil_e, aCons_e, aApp_e, eFN_e, eCall_e, eMake_e, eCMeth_e, eCallO_e, eLst_e, eTup_e, nLst_e, nLc_e, eLc_e, lSeq_e, lTup_e, eIf_e, eAnd_e, eOr_e, eNot_e, bOf_e, bAnd_e, bOr_e, bNot_e, eFld_e, runB_e, env0_e, oN_e, List.set_cons_zero, List.set_cons_succ, List.map_cons, List.map_nil, List.cons_append, List.nil_append, List.replicate_succ, List.replicate_zero, List.length_cons, List.length_nil, List.getElem?_cons_zero, List.getElem?_cons_succ, reduceIte, if_true, if_false, Bool.false_eq_true, arN_t, decide_true, decide_false, isNon, Bool.not_true, Bool.not_false, Bool.true_and, Bool.false_and, Bool.and_true, Bool.and_false, bYes_e, lstMax_e, Nat.reduceAdd, Nat.reduceSub, Nat.reduceLeDiff, Int.reduceLT, Int.reduceLE, Int.reduceEq, String.reduceEq, and_self, decide_eq_true_eq, and_true, true_and, cPos_e, cDiv_e, fMod_i, fDiv_i, Int.reduceMod, Int.reduceDiv, Int.reduceSub, Int.reduceAdd, Int.reducePow, kOf_i, fsOf_i, fOwn_k, fOwn1_k, gFld_k, methO_e, methK_s, methA_s, ownK_s, ownK_n, ownK_m, own1K_s, own1K_n, fldK_s, sApp_e, appK_s, sOSub_e, osubK_s, eOIx_e, oixK_s, eOLen_e, olenK_s, ixN_p, Int.reduceToNat, Nat.reduceLT, oS_e, eSl_e, eSlT_e, kSet_e, kSet2_e, kDrop_e, kIf_t, kIf_f, kOwn_e, kApp_e, kOsub1_e, kOsub2_e, osK_s, kOix_e, ixK_s, kFor_e, kUnp_e, unpK_s, kOp1_e, kOp2_e, kUn_e, kC1_e, kC2_e, kA1_e, kA2_e, kFN_e, kCall_e, kMake_e, kCM_e, kMeth_e, kLst_e, lstK_s, kTup_e, tupK_s, kNl_e, nlK_s, nList_e, kNli_e, nliK_s, lOf_l, lOf_t, kNc1_e, kNc2_e, kLc1_e, kLc2_e, kSeq_e, kTpl_e, kEIf_t, kEIf_f, kEAnd_t, kEAnd_f, kEOr_t, kEOr_f, kENot_e, kB_e, kBAnd_t, kBAnd_f, kBOr_t, kBOr_f, kBNot_e, kOS_e, kSl1_e, kSl2_e, kSl3_e, kSt1_e, kSt2_e, kSt3_e, eMeth_e, kMe_e, lc_c, kL1_e, kL2_e, kT_t, kT_f, Int.cast_ofNat_Int, Int.natCast_zero, Int.natCast_one, lRng1_e, kRng_1, kRng_2, kRng_3, kRng_4, kRng_5, kRng_6, List.length_map, arS_0, sEr_e, sTryAs_e, tryK_nx, tryK_rt, tryK_er, afterO_rt, afterO_nx, eXf_e, xfS_s, xfK_s, plain_n, plain_e, List.all_cons, List.all_nil, eq_self, sTryN_e, tryN_nx, tryN_rt, tryN_h, tryN_t, dflI_e, dflF_e, not_false_eq_true, eMethK_e, kMK_e, kMK2_e, eProp_e, kPr_e, eNotO_e, kNotO_e, notK_s, eSlA_e, kSA1_e, kSA2_e, kSA3_l, kSA3_t, eGetO_e, kGet1_e, kGet2_e, getK_s, ↓r1, f, k]
    rfl
  have b : eOp (alt2 (fMul) (alt2 fRepL fRepT)) (eTup (aCons (eVar 5) (aNil))) (eVar 2) [.own (.ins "Sheet" [.int (w : Nat), .int (h : Nat)]), .ev (.d (.int (w : Nat))), .ev (.d (.int (h : Nat))), .ev (.d (lightD n)), .ev (.d (.bl m)), .ev (.d (lineD w n m))] G = .ok (.d (linesD w h n m)) G := by
    simp -implicitDefEqProofs only [bind_ok, bind_er, bindN_ok, ofE_ok, ofE_er, seqO_nx, seqO_rt, seqO_er, seqO_bk, seqO_ct, loopO_nx, loopO_ct, loopO_bk, loopO_rt, loopO_er, lift_s, retO_rt, retO_nx, retO_er, mkO_ok, mkO_er, toOpt_ok, eVar_z, eVar_s, oL_z, oL_s, frz_z, frz_s, wipe_n, wipe_c, datas_n, datas_c, map_s, bind_s, setA_n, setA_c, p2_d, p1_d, pN_d, fEq_i, fEq_s, fEq_b, fEq_ii, fNe_i, fNe_s, fNe_b, fSub_i, fAdd_i, fAnd_i, fOr_i, fXor_i, fLt_i, fLe_i, fGt_i, fGe_i, fIs_d, fIsNot_d, fIsB_b, isB_b, tru_b, tru_i, tru_l, tru_t, orE_s, orE_n, alt2_e, alt1_e, altN_e, fIx_l, fIx_t, at_0, at_1, at_2, at_3, at_4, at_5, for_n, for_c, lc_n, len_lst, len_tup, kfn_c, kix_c, sSeq_e, sNil_e, sSet_e, sSet2_e, sRet_e, sRetN_e, sDrop_e, sIf_e, sBk_e, sCt_e, sFrz_e, sOwn_e, sFor_e, sUnp_e, eC_e, eOp_e, eUn_e, aNil_e, aCons_e, aApp_e, eFN_e, eCall_e, eMake_e, eCMeth_e, eCallO_e, eLst_e, eTup_e, nLst_e, nLc_e, eLc_e, lSeq_e, lTup_e, eIf_e, eAnd_e, eOr_e, eNot_e, bOf_e, bAnd_e, bOr_e, bNot_e, eFld_e, runB_e, env0_e, oN_e, List.set_cons_zero, List.set_cons_succ, List.map_cons, List.map_nil, List.cons_append, List.nil_append, List.replicate_succ, List.replicate_zero, List.length_cons, List.length_nil, List.getElem?_cons_zero, List.getElem?_cons_succ, reduceIte, if_true, if_false, Bool.false_eq_true, arN_t, decide_true, decide_false, isNon, Bool.not_true, Bool.not_false, Bool.true_and, Bool.false_and, Bool.and_true, Bool.and_false, bYes_e, lstMax_e, Nat.reduceAdd, Nat.reduceSub, Nat.reduceLeDiff, Int.reduceLT, Int.reduceLE, Int.reduceEq, String.reduceEq, and_self, decide_eq_true_eq, and_true, true_and, cPos_e, cDiv_e, fMod_i, fDiv_i, Int.reduceMod, Int.reduceDiv, Int.reduceSub, Int.reduceAdd, Int.reducePow, kOf_i, fsOf_i, fOwn_k, fOwn1_k, gFld_k, methO_e, methK_s, methA_s, ownK_s, ownK_n, ownK_m, own1K_s, own1K_n, fldK_s, sApp_e, appK_s, sOSub_e, osubK_s, eOIx_e, oixK_s, eOLen_e, olenK_s, ixN_p, Int.reduceToNat, Nat.reduceLT, oS_e, eSl_e, eSlT_e, kSet_e, kSet2_e, kDrop_e, kIf_t, kIf_f, kOwn_e, kApp_e, kOsub1_e, kOsub2_e, osK_s, kOix_e, ixK_s, kFor_e, kUnp_e, unpK_s, kOp1_e, kOp2_e, kUn_e, kC1_e, kC2_e, kA1_e, kA2_e, kFN_e, kCall_e, kMake_e, kCM_e, kMeth_e, kLst_e, lstK_s, kTup_e, tupK_s, kNl_e, nlK_s, nList_e, kNli_e, nliK_s, lOf_l, lOf_t, kNc1_e, kNc2_e, kLc1_e, kLc2_e, kSeq_e, kTpl_e, kEIf_t, kEIf_f, kEAnd_t, kEAnd_f, kEOr_t, kEOr_f, kENot_e, kB_e, kBAnd_t, kBAnd_f, kBOr_t, kBOr_f, kBNot_e, kOS_e, kSl1_e, kSl2_e, kSl3_e, kSt1_e, kSt2_e, kSt3_e, eMeth_e, kMe_e, lc_c, kL1_e, kL2_e, kT_t, kT_f, Int.cast_ofNat_Int, Int.natCast_zero, Int.natCast_one, lRng1_e, kRng_1, kRng_2, kRng_3, kRng_4, kRng_5, kRng_6, List.length_map, arS_0, sEr_e, sTryAs_e, tryK_nx, tryK_rt, tryK_er, afterO_rt, afterO_nx, eXf_e, xfS_s, xfK_s, plain_n, plain_e, List.all_cons, List.all_nil, eq_self, sTryN_e, tryN_nx, tryN_rt, tryN_h, tryN_t, dflI_e, dflF_e, not_false_eq_true, eMethK_e, kMK_e, kMK2_e, eProp_e, kPr_e, eNotO_e, kNotO_e, notK_s, eSlA_e, kSA1_e, kSA2_e, kSA3_l, kSA3_t, eGetO_e, kGet1_e, kGet2_e, getK_s, ↓r2]
    rfl
  show retI "Sheet" (sSeq _ _ [.own (.ins "Sheet" []), .ev (.d (.int (w : Nat))), .ev (.d (.int (h : Nat))), .ev (.d (lightD n)), .ev (.d (.bl m)), .no] G) = _
  rw [sqn (setn a)]
  show retI "Sheet" (sSeq _ _ [.own (.ins "Sheet" []), .ev (.d (.int (w : Nat))), .ev (.d (.int (h : Nat))), .ev (.d (lightD n)), .ev (.d (.bl m)), .ev (.d (lineD w n m))] G) = _
  show retI "Sheet" (sFld 0 "Sheet" 2 (eOp (alt2 (fMul) (alt2 fRepL fRepT)) (eTup (aCons (eVar 5) (aNil))) (eVar 2)) [.own (.ins "Sheet" [.int (w : Nat), .int (h : Nat)]), .ev (.d (.int (w : Nat))), .ev (.d (.int (h : Nat))), .ev (.d (lightD n)), .ev (.d (.bl m)), .ev (.d (lineD w n m))] G) = _
  unfold sFld
  rw [b]
  rfl
theorem at_rep {α : Type} {x : α} {n k : Nat} (h : k < n) : L2.atI (List.replicate n x) (k : Int) = some x := by
  exact L2.atI_nat (by rw [List.getElem?_replicate, if_pos h])
theorem sheet_k (w h n : Nat) (m : Bool) : kOf (.d (sheetD w h n m)) = some "Sheet" := rfl
theorem sheet_f (w h n : Nat) (m : Bool) : fsOf (sheetD w h n m) = [.int (w : Nat), .int (h : Nat), linesD w h n m] := rfl
theorem shat_ok {w h n x y : Nat} (m : Bool) (hx : x < w) (hy : y < h) (hn : n < 64) (G : GS) : g_Sheet_at [.d (sheetD w h n m), .d (.int (x : Nat)), .d (.int (y : Nat))] G = .ok (.d (.tup [lightD n, .bl m])) G := by
  have d1 : decide ((x : Int) < 0) = false := decide_eq_false (by omega)
  have d2 : decide ((w : Int) ≤ (x : Int)) = false := decide_eq_false (by omega)
  have d3 : decide ((y : Int) < 0) = false := decide_eq_false (by omega)
  have d4 : decide ((h : Int) ≤ (y : Int)) = false := decide_eq_false (by omega)
  have a1 : L2.atI (List.replicate h (lineD w n m)) (y : Int) = some (.tup (List.replicate w (cellD n m))) := at_rep hy
  have a2 : L2.atI (List.replicate w (cellD n m)) (x : Int) = some (.tup [.int (n : Nat), .bl m]) := at_rep hx
  have f := sheet_f w h n m
  have k := sheet_k w h n m
  have nu := num_ok hn G
  have li : linesD w h n m = .tup (List.replicate h (lineD w n m)) := rfl
  simp -implicitDefEqProofs only [bind_ok, bind_er, bindN_ok, ofE_ok, ofE_er, seqO_nx, seqO_rt, seqO_er, seqO_bk, seqO_ct, loopO_nx, loopO_ct, loopO_bk, loopO_rt, loopO_er, lift_s, retO_rt, retO_nx, retO_er, mkO_ok, mkO_er, toOpt_ok, eVar_z, eVar_s, oL_z, oL_s, frz_z, frz_s, wipe_n, wipe_c, datas_n, datas_c, map_s, bind_s, setA_n, setA_c, p2_d, p1_d, pN_d, fEq_i, fEq_s, fEq_b, fEq_ii, fNe_i, fNe_s, fNe_b, fSub_i, fAdd_i, fAnd_i, fOr_i, fXor_i, fLt_i, fLe_i, fGt_i, fGe_i, fIs_d, fIsNot_d, fIsB_b, isB_b, tru_b, tru_i, tru_l, tru_t, orE_s, orE_n, alt2_e, alt1_e, altN_e, fIx_l, fIx_t, at_0, at_1, at_2, at_3, at_4, at_5, for_n, for_c, lc_n, len_lst, len_tup, kfn_c, kix_c, sSeq_e, sNil_e, sSet_e, sSet2_e, sRet_e, sRetN_e, sDrop_e, sIf_e, sBk_e, sCt_e, sFrz_e, sOwn_e, sFor_e, sUnp_e, eC_e, eOp_e, eUn_e, aNil_e, aCons_e, aApp_e, eFN_e, eCall_e, eMake_e, eCMeth_e, eCallO_e, eLst_e, eTup_e, nLst_e, nLc_e, eLc_e, lSeq_e, lTup_e, eIf_e, eAnd_e, eOr_e, eNot_e, bOf_e, bAnd_e, bOr_e, bNot_e, eFld_e, runB_e, env0_e, oN_e, List.set_cons_zero, List.set_cons_succ, List.map_cons, List.map_nil, List.cons_append, List.nil_append, List.replicate_succ, List.replicate_zero, List.length_cons, List.length_nil, List.getElem?_cons_zero, List.getElem?_cons_succ, reduceIte, if_true, if_false, Bool.false_eq_true, arN_t, decide_true, decide_false, isNon, Bool.not_true, Bool.not_false, Bool.true_and, Bool.false_and, Bool.and_true, Bool.and_false, bYes_e, lstMax_e, Nat.reduceAdd, Nat.reduceSub, Nat.reduceLeDiff, Int.reduceLT, Int.reduceLE, Int.reduceEq, String.reduceEq, and_self, decide_eq_true_eq, and_true, true_and, cPos_e, cDiv_e, fMod_i, fDiv_i, Int.reduceMod, Int.reduceDiv, Int.reduceSub, Int.reduceAdd, Int.reducePow, kOf_i, fsOf_i, fOwn_k, fOwn1_k, gFld_k, methO_e, methK_s, methA_s, ownK_s, ownK_n, ownK_m, own1K_s, own1K_n, fldK_s, sApp_e, appK_s, sOSub_e, osubK_s, eOIx_e, oixK_s, eOLen_e, olenK_s, ixN_p, Int.reduceToNat, Nat.reduceLT, oS_e, eSl_e, eSlT_e, kSet_e, kSet2_e, kDrop_e, kIf_t, kIf_f, kOwn_e, kApp_e, kOsub1_e, kOsub2_e, osK_s, kOix_e, ixK_s, kFor_e, kUnp_e, unpK_s, kOp1_e, kOp2_e, kUn_e, kC1_e, kC2_e, kA1_e, kA2_e, kFN_e, kCall_e, kMake_e, kCM_e, kMeth_e, kLst_e, lstK_s, kTup_e, tupK_s, kNl_e, nlK_s, nList_e, kNli_e, nliK_s, lOf_l, lOf_t, kNc1_e, kNc2_e, kLc1_e, kLc2_e, kSeq_e, kTpl_e, kEIf_t, kEIf_f, kEAnd_t, kEAnd_f, kEOr_t, kEOr_f, kENot_e, kB_e, kBAnd_t, kBAnd_f, kBOr_t, kBOr_f, kBNot_e, kOS_e, kSl1_e, kSl2_e, kSl3_e, kSt1_e, kSt2_e, kSt3_e, eMeth_e, kMe_e, lc_c, kL1_e, kL2_e, kT_t, kT_f, Int.cast_ofNat_Int, Int.natCast_zero, Int.natCast_one, lRng1_e, kRng_1, kRng_2, kRng_3, kRng_4, kRng_5, kRng_6, List.length_map, arS_0, sEr_e, sTryAs_e, tryK_nx, tryK_rt, tryK_er, afterO_rt, afterO_nx, eXf_e, xfS_s, xfK_s, plain_n, plain_e, List.all_cons, List.all_nil, eq_self, sTryN_e, tryN_nx, tryN_rt, tryN_h, tryN_t, dflI_e, dflF_e, not_false_eq_true, eMethK_e, kMK_e, kMK2_e, eProp_e, kPr_e, eNotO_e, kNotO_e, notK_s, eSlA_e, kSA1_e, kSA2_e, kSA3_l, kSA3_t, eGetO_e, kGet1_e, kGet2_e, getK_s, g_Sheet_at, m_Sheet_at, d1, d2, d3, d4, f, k, li, a1, a2, nu]
theorem shat_er {w h n : Nat} (m : Bool) {x y : Int} (hb : x < 0 ∨ (w : Int) ≤ x ∨ y < 0 ∨ (h : Int) ≤ y) (hx : okI (.int x) = true) (hy : okI (.int y) = true) (G : GS) : g_Sheet_at [.d (sheetD w h n m), .d (.int x), .d (.int y)] G = .er "UnknownPlace" [.int y, .int x] G := by
  have f := sheet_f w h n m
  have k := sheet_k w h n m
  have o : okII (.int x) (.int y) = true := by
    show (okI (.int x) && okI (.int y)) = true
    rw [hx, hy]; rfl
  have t : (bOr (bOf isB (eOp (fLt) (eVar 1) (eC (.int 0)))) (bOr (bOf isB (eOp (fGe) (eVar 1) (eFld [("Sheet", 0)] (eVar 0)))) (bOr (bOf isB (eOp (fLt) (eVar 2) (eC (.int 0)))) (bOf isB (eOp (fGe) (eVar 2) (eFld [("Sheet", 1)] (eVar 0))))))) [.ev (.d (sheetD w h n m)), .ev (.d (.int x)), .ev (.d (.int y)), .no, .no] G = .ok true G := by
    by_cases h1 : x < 0
    · have d1 := decide_eq_true h1
      simp -implicitDefEqProofs only [bind_ok, bind_er, bindN_ok, ofE_ok, ofE_er, seqO_nx, seqO_rt, seqO_er, seqO_bk, seqO_ct, loopO_nx, loopO_ct, loopO_bk, loopO_rt, loopO_er, lift_s, retO_rt, retO_nx, retO_er, mkO_ok, mkO_er, toOpt_ok, eVar_z, eVar_s, oL_z, oL_s, frz_z, frz_s, wipe_n, wipe_c, datas_n, datas_c, map_s, bind_s, setA_n, setA_c, p2_d, p1_d, pN_d, fEq_i, fEq_s, fEq_b, fEq_ii, fNe_i, fNe_s, fNe_b, fSub_i, fAdd_i, fAnd_i, fOr_i, fXor_i, fLt_i, fLe_i, fGt_i, fGe_i, fIs_d, fIsNot_d, fIsB_b, isB_b, tru_b, tru_i, tru_l, tru_t, orE_s, orE_n, alt2_e, alt1_e, altN_e, fIx_l, fIx_t, at_0, at_1, at_2, at_3, at_4, at_5, for_n, for_c, lc_n, len_lst, len_tup, kfn_c, kix_c, sSeq_e, sNil_e, sSet_e, sSet2_e, sRet_e, sRetN_e, sDrop_e, sIf_e, sBk_e, sCt_e, sFrz_e, sOwn_e, sFor_e, sUnp_e, eC_e, eOp_e, eUn_e, aNil_e, aCons_e, aApp_e, eFN_e, eCall_e, eMake_e, eCMeth_e, eCallO_e, eLst_e, eTup_e, nLst_e, nLc_e, eLc_e, lSeq_e, lTup_e, eIf_e, eAnd_e, eOr_e, eNot_e, bOf_e, bAnd_e, bOr_e, bNot_e, eFld_e, runB_e, env0_e, oN_e, List.set_cons_zero, List.set_cons_succ, List.map_cons, List.map_nil, List.cons_append, List.nil_append, List.replicate_succ, List.replicate_zero, List.length_cons, List.length_nil, List.getElem?_cons_zero, List.getElem?_cons_succ, reduceIte, if_true, if_false, Bool.false_eq_true, arN_t, decide_true, decide_false, isNon, Bool.not_true, Bool.not_false, Bool.true_and, Bool.false_and, Bool.and_true, Bool.and_false, bYes_e, lstMax_e, Nat.reduceAdd, Nat.reduceSub, Nat.reduceLeDiff, Int.reduceLT, Int.reduceLE, Int.reduceEq, String.reduceEq, and_self, decide_eq_true_eq, and_true, true_and, cPos_e, cDiv_e, fMod_i, fDiv_i, Int.reduceMod, Int.reduceDiv, Int.reduceSub, Int.reduceAdd, Int.reducePow, kOf_i, fsOf_i, fOwn_k, fOwn1_k, gFld_k, methO_e, methK_s, methA_s, ownK_s, ownK_n, ownK_m, own1K_s, own1K_n, fldK_s, sApp_e, appK_s, sOSub_e, osubK_s, eOIx_e, oixK_s, eOLen_e, olenK_s, ixN_p, Int.reduceToNat, Nat.reduceLT, oS_e, eSl_e, eSlT_e, kSet_e, kSet2_e, kDrop_e, kIf_t, kIf_f, kOwn_e, kApp_e, kOsub1_e, kOsub2_e, osK_s, kOix_e, ixK_s, kFor_e, kUnp_e, unpK_s, kOp1_e, kOp2_e, kUn_e, kC1_e, kC2_e, kA1_e, kA2_e, kFN_e, kCall_e, kMake_e, kCM_e, kMeth_e, kLst_e, lstK_s, kTup_e, tupK_s, kNl_e, nlK_s, nList_e, kNli_e, nliK_s, lOf_l, lOf_t, kNc1_e, kNc2_e, kLc1_e, kLc2_e, kSeq_e, kTpl_e, kEIf_t, kEIf_f, kEAnd_t, kEAnd_f, kEOr_t, kEOr_f, kENot_e, kB_e, kBAnd_t, kBAnd_f, kBOr_t, kBOr_f, kBNot_e, kOS_e, kSl1_e, kSl2_e, kSl3_e, kSt1_e, kSt2_e, kSt3_e, eMeth_e, kMe_e, lc_c, kL1_e, kL2_e, kT_t, kT_f, Int.cast_ofNat_Int, Int.natCast_zero, Int.natCast_one, lRng1_e, kRng_1, kRng_2, kRng_3, kRng_4, kRng_5, kRng_6, List.length_map, arS_0, sEr_e, sTryAs_e, tryK_nx, tryK_rt, tryK_er, afterO_rt, afterO_nx, eXf_e, xfS_s, xfK_s, plain_n, plain_e, List.all_cons, List.all_nil, eq_self, sTryN_e, tryN_nx, tryN_rt, tryN_h, tryN_t, dflI_e, dflF_e, not_false_eq_true, eMethK_e, kMK_e, kMK2_e, eProp_e, kPr_e, eNotO_e, kNotO_e, notK_s, eSlA_e, kSA1_e, kSA2_e, kSA3_l, kSA3_t, eGetO_e, kGet1_e, kGet2_e, getK_s, d1]
    · have d1 := decide_eq_false h1
      by_cases h2 : (w : Int) ≤ x
      · have d2 := decide_eq_true h2
        simp -implicitDefEqProofs only [bind_ok, bind_er, bindN_ok, ofE_ok, ofE_er, seqO_nx, seqO_rt, seqO_er, seqO_bk, seqO_ct, loopO_nx, loopO_ct, loopO_bk, loopO_rt, loopO_er, lift_s, retO_rt, retO_nx, retO_er, mkO_ok, mkO_er, toOpt_ok, eVar_z, eVar_s, oL_z, oL_s, frz_z, frz_s, wipe_n, wipe_c, datas_n, datas_c, map_s, bind_s, setA_n, setA_c, p2_d, p1_d, pN_d, fEq_i, fEq_s, fEq_b, fEq_ii, fNe_i, fNe_s, fNe_b, fSub_i, fAdd_i, fAnd_i, fOr_i, fXor_i, fLt_i, fLe_i, fGt_i, fGe_i, fIs_d, fIsNot_d, fIsB_b, isB_b, tru_b, tru_i, tru_l, tru_t, orE_s, orE_n, alt2_e, alt1_e, altN_e, fIx_l, fIx_t, at_0, at_1, at_2, at_3, at_4, at_5, for_n, for_c, lc_n, len_lst, len_tup, kfn_c, kix_c, sSeq_e, sNil_e, sSet_e, sSet2_e, sRet_e, sRetN_e, sDrop_e, sIf_e, sBk_e, sCt_e, sFrz_e, sOwn_e, sFor_e, sUnp_e, eC_e, eOp_e, eUn_e, aNil_e, aCons_e, aApp_e, eFN_e, eCall_e, eMake_e, eCMeth_e, eCallO_e, eLst_e, eTup_e, nLst_e, nLc_e, eLc_e, lSeq_e, lTup_e, eIf_e, eAnd_e, eOr_e, eNot_e, bOf_e, bAnd_e, bOr_e, bNot_e, eFld_e, runB_e, env0_e, oN_e, List.set_cons_zero, List.set_cons_succ, List.map_cons, List.map_nil, List.cons_append, List.nil_append, List.replicate_succ, List.replicate_zero, List.length_cons, List.length_nil, List.getElem?_cons_zero, List.getElem?_cons_succ, reduceIte, if_true, if_false, Bool.false_eq_true, arN_t, decide_true, decide_false, isNon, Bool.not_true, Bool.not_false, Bool.true_and, Bool.false_and, Bool.and_true, Bool.and_false, bYes_e, lstMax_e, Nat.reduceAdd, Nat.reduceSub, Nat.reduceLeDiff, Int.reduceLT, Int.reduceLE, Int.reduceEq, String.reduceEq, and_self, decide_eq_true_eq, and_true, true_and, cPos_e, cDiv_e, fMod_i, fDiv_i, Int.reduceMod, Int.reduceDiv, Int.reduceSub, Int.reduceAdd, Int.reducePow, kOf_i, fsOf_i, fOwn_k, fOwn1_k, gFld_k, methO_e, methK_s, methA_s, ownK_s, ownK_n, ownK_m, own1K_s, own1K_n, fldK_s, sApp_e, appK_s, sOSub_e, osubK_s, eOIx_e, oixK_s, eOLen_e, olenK_s, ixN_p, Int.reduceToNat, Nat.reduceLT, oS_e, eSl_e, eSlT_e, kSet_e, kSet2_e, kDrop_e, kIf_t, kIf_f, kOwn_e, kApp_e, kOsub1_e, kOsub2_e, osK_s, kOix_e, ixK_s, kFor_e, kUnp_e, unpK_s, kOp1_e, kOp2_e, kUn_e, kC1_e, kC2_e, kA1_e, kA2_e, kFN_e, kCall_e, kMake_e, kCM_e, kMeth_e, kLst_e, lstK_s, kTup_e, tupK_s, kNl_e, nlK_s, nList_e, kNli_e, nliK_s, lOf_l, lOf_t, kNc1_e, kNc2_e, kLc1_e, kLc2_e, kSeq_e, kTpl_e, kEIf_t, kEIf_f, kEAnd_t, kEAnd_f, kEOr_t, kEOr_f, kENot_e, kB_e, kBAnd_t, kBAnd_f, kBOr_t, kBOr_f, kBNot_e, kOS_e, kSl1_e, kSl2_e, kSl3_e, kSt1_e, kSt2_e, kSt3_e, eMeth_e, kMe_e, lc_c, kL1_e, kL2_e, kT_t, kT_f, Int.cast_ofNat_Int, Int.natCast_zero, Int.natCast_one, lRng1_e, kRng_1, kRng_2, kRng_3, kRng_4, kRng_5, kRng_6, List.length_map, arS_0, sEr_e, sTryAs_e, tryK_nx, tryK_rt, tryK_er, afterO_rt, afterO_nx, eXf_e, xfS_s, xfK_s, plain_n, plain_e, List.all_cons, List.all_nil, eq_self, sTryN_e, tryN_nx, tryN_rt, tryN_h, tryN_t, dflI_e, dflF_e, not_false_eq_true, eMethK_e, kMK_e, kMK2_e, eProp_e, kPr_e, eNotO_e, kNotO_e, notK_s, eSlA_e, kSA1_e, kSA2_e, kSA3_l, kSA3_t, eGetO_e, kGet1_e, kGet2_e, getK_s, d1, d2, f, k]
      · have d2 := decide_eq_false h2
        by_cases h3 : y < 0
        · have d3 := decide_eq_true h3
          simp -implicitDefEqProofs only [bind_ok, bind_er, bindN_ok, ofE_ok, ofE_er, seqO_nx, seqO_rt, seqO_er, seqO_bk, seqO_ct, loopO_nx, loopO_ct, loopO_bk, loopO_rt, loopO_er, lift_s, retO_rt, retO_nx, retO_er, mkO_ok, mkO_er, toOpt_ok, eVar_z, eVar_s, oL_z, oL_s, frz_z, frz_s, wipe_n, wipe_c, datas_n, datas_c, map_s, bind_s, setA_n, setA_c, p2_d, p1_d, pN_d, fEq_i, fEq_s, fEq_b, fEq_ii, fNe_i, fNe_s, fNe_b, fSub_i, fAdd_i, fAnd_i, fOr_i, fXor_i, fLt_i, fLe_i, fGt_i, fGe_i, fIs_d, fIsNot_d, fIsB_b, isB_b, tru_b, tru_i, tru_l, tru_t, orE_s, orE_n, alt2_e, alt1_e, altN_e, fIx_l, fIx_t, at_0, at_1, at_2, at_3, at_4, at_5, for_n, for_c, lc_n, len_lst, len_tup, kfn_c, kix_c, sSeq_e, sNil_e, sSet_e, sSet2_e, sRet_e, sRetN_e, sDrop_e, sIf_e, sBk_e, sCt_e, sFrz_e, sOwn_e, sFor_e, sUnp_e, eC_e, eOp_e, eUn_e, aNil_e, aCons_e, aApp_e, eFN_e, eCall_e, eMake_e, eCMeth_e, eCallO_e, eLst_e, eTup_e, nLst_e, nLc_e, eLc_e, lSeq_e, lTup_e, eIf_e, eAnd_e, eOr_e, eNot_e, bOf_e, bAnd_e, bOr_e, bNot_e, eFld_e, runB_e, env0_e, oN_e, List.set_cons_zero, List.set_cons_succ, List.map_cons, List.map_nil, List.cons_append, List.nil_append, List.replicate_succ, List.replicate_zero, List.length_cons, List.length_nil, List.getElem?_cons_zero, List.getElem?_cons_succ, reduceIte, if_true, if_false, Bool.false_eq_true, arN_t, decide_true, decide_false, isNon, Bool.not_true, Bool.not_false, Bool.true_and, Bool.false_and, Bool.and_true, Bool.and_false, bYes_e, lstMax_e, Nat.reduceAdd, Nat.reduceSub, Nat.reduceLeDiff, Int.reduceLT, Int.reduceLE, Int.reduceEq, String.reduceEq, and_self, decide_eq_true_eq, and_true, true_and, cPos_e, cDiv_e, fMod_i, fDiv_i, Int.reduceMod, Int.reduceDiv, Int.reduceSub, Int.reduceAdd, Int.reducePow, kOf_i, fsOf_i, fOwn_k, fOwn1_k, gFld_k, methO_e, methK_s, methA_s, ownK_s, ownK_n, ownK_m, own1K_s, own1K_n, fldK_s, sApp_e, appK_s, sOSub_e, osubK_s, eOIx_e, oixK_s, eOLen_e, olenK_s, ixN_p, Int.reduceToNat, Nat.reduceLT, oS_e, eSl_e, eSlT_e, kSet_e, kSet2_e, kDrop_e, kIf_t, kIf_f, kOwn_e, kApp_e, kOsub1_e, kOsub2_e, osK_s, kOix_e, ixK_s, kFor_e, kUnp_e, unpK_s, kOp1_e, kOp2_e, kUn_e, kC1_e, kC2_e, kA1_e, kA2_e, kFN_e, kCall_e, kMake_e, kCM_e, kMeth_e, kLst_e, lstK_s, kTup_e, tupK_s, kNl_e, nlK_s, nList_e, kNli_e, nliK_s, lOf_l, lOf_t, kNc1_e, kNc2_e, kLc1_e, kLc2_e, kSeq_e, kTpl_e, kEIf_t, kEIf_f, kEAnd_t, kEAnd_f, kEOr_t, kEOr_f, kENot_e, kB_e, kBAnd_t, kBAnd_f, kBOr_t, kBOr_f, kBNot_e, kOS_e, kSl1_e, kSl2_e, kSl3_e, kSt1_e, kSt2_e, kSt3_e, eMeth_e, kMe_e, lc_c, kL1_e, kL2_e, kT_t, kT_f, Int.cast_ofNat_Int, Int.natCast_zero, Int.natCast_one, lRng1_e, kRng_1, kRng_2, kRng_3, kRng_4, kRng_5, kRng_6, List.length_map, arS_0, sEr_e, sTryAs_e, tryK_nx, tryK_rt, tryK_er, afterO_rt, afterO_nx, eXf_e, xfS_s, xfK_s, plain_n, plain_e, List.all_cons, List.all_nil, eq_self, sTryN_e, tryN_nx, tryN_rt, tryN_h, tryN_t, dflI_e, dflF_e, not_false_eq_true, eMethK_e, kMK_e, kMK2_e, eProp_e, kPr_e, eNotO_e, kNotO_e, notK_s, eSlA_e, kSA1_e, kSA2_e, kSA3_l, kSA3_t, eGetO_e, kGet1_e, kGet2_e, getK_s, d1, d2, d3, f, k]
        · have d3 := decide_eq_false h3
          have d4 : decide ((h : Int) ≤ y) = true := decide_eq_true (by omega)
          simp -implicitDefEqProofs only [bind_ok, bind_er, bindN_ok, ofE_ok, ofE_er, seqO_nx, seqO_rt, seqO_er, seqO_bk, seqO_ct, loopO_nx, loopO_ct, loopO_bk, loopO_rt, loopO_er, lift_s, retO_rt, retO_nx, retO_er, mkO_ok, mkO_er, toOpt_ok, eVar_z, eVar_s, oL_z, oL_s, frz_z, frz_s, wipe_n, wipe_c, datas_n, datas_c, map_s, bind_s, setA_n, setA_c, p2_d, p1_d, pN_d, fEq_i, fEq_s, fEq_b, fEq_ii, fNe_i, fNe_s, fNe_b, fSub_i, fAdd_i, fAnd_i, fOr_i, fXor_i, fLt_i, fLe_i, fGt_i, fGe_i, fIs_d, fIsNot_d, fIsB_b, isB_b, tru_b, tru_i, tru_l, tru_t, orE_s, orE_n, alt2_e, alt1_e, altN_e, fIx_l, fIx_t, at_0, at_1, at_2, at_3, at_4, at_5, for_n, for_c, lc_n, len_lst, len_tup, kfn_c, kix_c, sSeq_e, sNil_e, sSet_e, sSet2_e, sRet_e, sRetN_e, sDrop_e, sIf_e, sBk_e, sCt_e, sFrz_e, sOwn_e, sFor_e, sUnp_e, eC_e, eOp_e, eUn_e, aNil_e, aCons_e, aApp_e, eFN_e, eCall_e, eMake_e, eCMeth_e, eCallO_e, eLst_e, eTup_e, nLst_e, nLc_e, eLc_e, lSeq_e, lTup_e, eIf_e, eAnd_e, eOr_e, eNot_e, bOf_e, bAnd_e, bOr_e, bNot_e, eFld_e, runB_e, env0_e, oN_e, List.set_cons_zero, List.set_cons_succ, List.map_cons, List.map_nil, List.cons_append, List.nil_append, List.replicate_succ, List.replicate_zero, List.length_cons, List.length_nil, List.getElem?_cons_zero, List.getElem?_cons_succ, reduceIte, if_true, if_false, Bool.false_eq_true, arN_t, decide_true, decide_false, isNon, Bool.not_true, Bool.not_false, Bool.true_and, Bool.false_and, Bool.and_true, Bool.and_false, bYes_e, lstMax_e, Nat.reduceAdd, Nat.reduceSub, Nat.reduceLeDiff, Int.reduceLT, Int.reduceLE, Int.reduceEq, String.reduceEq, and_self, decide_eq_true_eq, and_true, true_and, cPos_e, cDiv_e, fMod_i, fDiv_i, Int.reduceMod, Int.reduceDiv, Int.reduceSub, Int.reduceAdd, Int.reducePow, kOf_i, fsOf_i, fOwn_k, fOwn1_k, gFld_k, methO_e, methK_s, methA_s, ownK_s, ownK_n, ownK_m, own1K_s, own1K_n, fldK_s, sApp_e, appK_s, sOSub_e, osubK_s, eOIx_e, oixK_s, eOLen_e, olenK_s, ixN_p, Int.reduceToNat, Nat.reduceLT, oS_e, eSl_e, eSlT_e, kSet_e, kSet2_e, kDrop_e, kIf_t, kIf_f, kOwn_e, kApp_e, kOsub1_e, kOsub2_e, osK_s, kOix_e, ixK_s, kFor_e, kUnp_e, unpK_s, kOp1_e, kOp2_e, kUn_e, kC1_e, kC2_e, kA1_e, kA2_e, kFN_e, kCall_e, kMake_e, kCM_e, kMeth_e, kLst_e, lstK_s, kTup_e, tupK_s, kNl_e, nlK_s, nList_e, kNli_e, nliK_s, lOf_l, lOf_t, kNc1_e, kNc2_e, kLc1_e, kLc2_e, kSeq_e, kTpl_e, kEIf_t, kEIf_f, kEAnd_t, kEAnd_f, kEOr_t, kEOr_f, kENot_e, kB_e, kBAnd_t, kBAnd_f, kBOr_t, kBOr_f, kBNot_e, kOS_e, kSl1_e, kSl2_e, kSl3_e, kSt1_e, kSt2_e, kSt3_e, eMeth_e, kMe_e, lc_c, kL1_e, kL2_e, kT_t, kT_f, Int.cast_ofNat_Int, Int.natCast_zero, Int.natCast_one, lRng1_e, kRng_1, kRng_2, kRng_3, kRng_4, kRng_5, kRng_6, List.length_map, arS_0, sEr_e, sTryAs_e, tryK_nx, tryK_rt, tryK_er, afterO_rt, afterO_nx, eXf_e, xfS_s, xfK_s, plain_n, plain_e, List.all_cons, List.all_nil, eq_self, sTryN_e, tryN_nx, tryN_rt, tryN_h, tryN_t, dflI_e, dflF_e, not_false_eq_true, eMethK_e, kMK_e, kMK2_e, eProp_e, kPr_e, eNotO_e, kNotO_e, notK_s, eSlA_e, kSA1_e, kSA2_e, kSA3_l, kSA3_t, eGetO_e, kGet1_e, kGet2_e, getK_s, d1, d2, d3, d4, f, k]
  show retO (sSeq (sIf (bOr (bOf isB (eOp (fLt) (eVar 1) (eC (.int 0)))) (bOr (bOf isB (eOp (fGe) (eVar 1) (eFld [("Sheet", 0)] (eVar 0)))) (bOr (bOf isB (eOp (fLt) (eVar 2) (eC (.int 0)))) (bOf isB (eOp (fGe) (eVar 2) (eFld [("Sheet", 1)] (eVar 0))))))) (sEr2 "UnknownPlace" okII (eVar 1) (eVar 2)) sNil) _ [.ev (.d (sheetD w h n m)), .ev (.d (.int x)), .ev (.d (.int y)), .no, .no] G) = _
  have i : sIf (bOr (bOf isB (eOp (fLt) (eVar 1) (eC (.int 0)))) (bOr (bOf isB (eOp (fGe) (eVar 1) (eFld [("Sheet", 0)] (eVar 0)))) (bOr (bOf isB (eOp (fLt) (eVar 2) (eC (.int 0)))) (bOf isB (eOp (fGe) (eVar 2) (eFld [("Sheet", 1)] (eVar 0))))))) (sEr2 "UnknownPlace" okII (eVar 1) (eVar 2)) sNil [.ev (.d (sheetD w h n m)), .ev (.d (.int x)), .ev (.d (.int y)), .no, .no] G = .er "UnknownPlace" [.int y, .int x] [.ev (.d (sheetD w h n m)), .ev (.d (.int x)), .ev (.d (.int y)), .no, .no] G := by
    rw [ift t, if_pos rfl]
    exact if_pos o
  rw [sq_er i]
  rfl
/-! ### the sheet read place by place -/
theorem rep_map {α : Type} (x : α) (n : Nat) : List.replicate n x = (List.range n).map fun _ => x := by
  rw [List.map_const', List.length_range]
@[reducible] def fX : SM := (sIf (bNot (bOf truE (eCall (arN 2) g__law_same_state (aCons (eMeth [("Sheet", ((arN 3 : DL.Ar), g_Sheet_at))] (eVar 0) (aCons (eVar 3) (aCons (eVar 2) (aNil)))) (aCons (eOp fIx (eOp fIx (eVar 1) (eVar 2)) (eVar 3)) (aNil)))))) (sRet (eC (.bl false))) (sNil))
theorem fX_ok {w h n x y : Nat} (m : Bool) (hx : x < w) (hy : y < h) (hn : n < 64) (G : GS) : fX [.ev (.d (sheetD w h n m)), .ev (.d (gridD w h n m)), .ev (.d (.int (y : Nat))), .ev (.d (.int (x : Nat)))] G = .nx [.ev (.d (sheetD w h n m)), .ev (.d (gridD w h n m)), .ev (.d (.int (y : Nat))), .ev (.d (.int (x : Nat)))] G := by
  have a := shat_ok m hx hy hn G
  have k := sheet_k w h n m
  have a1 : L2.atI (List.replicate h (DL.D.lst (List.replicate w (cellD n m)))) (y : Int) = some (.lst (List.replicate w (cellD n m))) := at_rep hy
  have a2 : L2.atI (List.replicate w (cellD n m)) (x : Int) = some (stT (n, m)) := at_rep hx
  have s := sst_gen (m := m) hn G
  have li : gridD w h n m = .lst (List.replicate h (.lst (List.replicate w (cellD n m)))) := rfl
  simp -implicitDefEqProofs only [bind_ok, bind_er, bindN_ok, ofE_ok, ofE_er, seqO_nx, seqO_rt, seqO_er, seqO_bk, seqO_ct, loopO_nx, loopO_ct, loopO_bk, loopO_rt, loopO_er, lift_s, retO_rt, retO_nx, retO_er, mkO_ok, mkO_er, toOpt_ok, eVar_z, eVar_s, oL_z, oL_s, frz_z, frz_s, wipe_n, wipe_c, datas_n, datas_c, map_s, bind_s, setA_n, setA_c, p2_d, p1_d, pN_d, fEq_i, fEq_s, fEq_b, fEq_ii, fNe_i, fNe_s, fNe_b, fSub_i, fAdd_i, fAnd_i, fOr_i, fXor_i, fLt_i, fLe_i, fGt_i, fGe_i, fIs_d, fIsNot_d, fIsB_b, isB_b, tru_b, tru_i, tru_l, tru_t, orE_s, orE_n, alt2_e, alt1_e, altN_e, fIx_l, fIx_t, at_0, at_1, at_2, at_3, at_4, at_5, for_n, for_c, lc_n, len_lst, len_tup, kfn_c, kix_c, sSeq_e, sNil_e, sSet_e, sSet2_e, sRet_e, sRetN_e, sDrop_e, sIf_e, sBk_e, sCt_e, sFrz_e, sOwn_e, sFor_e, sUnp_e, eC_e, eOp_e, eUn_e, aNil_e, aCons_e, aApp_e, eFN_e, eCall_e, eMake_e, eCMeth_e, eCallO_e, eLst_e, eTup_e, nLst_e, nLc_e, eLc_e, lSeq_e, lTup_e, eIf_e, eAnd_e, eOr_e, eNot_e, bOf_e, bAnd_e, bOr_e, bNot_e, eFld_e, runB_e, env0_e, oN_e, List.set_cons_zero, List.set_cons_succ, List.map_cons, List.map_nil, List.cons_append, List.nil_append, List.replicate_succ, List.replicate_zero, List.length_cons, List.length_nil, List.getElem?_cons_zero, List.getElem?_cons_succ, reduceIte, if_true, if_false, Bool.false_eq_true, arN_t, decide_true, decide_false, isNon, Bool.not_true, Bool.not_false, Bool.true_and, Bool.false_and, Bool.and_true, Bool.and_false, bYes_e, lstMax_e, Nat.reduceAdd, Nat.reduceSub, Nat.reduceLeDiff, Int.reduceLT, Int.reduceLE, Int.reduceEq, String.reduceEq, and_self, decide_eq_true_eq, and_true, true_and, cPos_e, cDiv_e, fMod_i, fDiv_i, Int.reduceMod, Int.reduceDiv, Int.reduceSub, Int.reduceAdd, Int.reducePow, kOf_i, fsOf_i, fOwn_k, fOwn1_k, gFld_k, methO_e, methK_s, methA_s, ownK_s, ownK_n, ownK_m, own1K_s, own1K_n, fldK_s, sApp_e, appK_s, sOSub_e, osubK_s, eOIx_e, oixK_s, eOLen_e, olenK_s, ixN_p, Int.reduceToNat, Nat.reduceLT, oS_e, eSl_e, eSlT_e, kSet_e, kSet2_e, kDrop_e, kIf_t, kIf_f, kOwn_e, kApp_e, kOsub1_e, kOsub2_e, osK_s, kOix_e, ixK_s, kFor_e, kUnp_e, unpK_s, kOp1_e, kOp2_e, kUn_e, kC1_e, kC2_e, kA1_e, kA2_e, kFN_e, kCall_e, kMake_e, kCM_e, kMeth_e, kLst_e, lstK_s, kTup_e, tupK_s, kNl_e, nlK_s, nList_e, kNli_e, nliK_s, lOf_l, lOf_t, kNc1_e, kNc2_e, kLc1_e, kLc2_e, kSeq_e, kTpl_e, kEIf_t, kEIf_f, kEAnd_t, kEAnd_f, kEOr_t, kEOr_f, kENot_e, kB_e, kBAnd_t, kBAnd_f, kBOr_t, kBOr_f, kBNot_e, kOS_e, kSl1_e, kSl2_e, kSl3_e, kSt1_e, kSt2_e, kSt3_e, eMeth_e, kMe_e, lc_c, kL1_e, kL2_e, kT_t, kT_f, Int.cast_ofNat_Int, Int.natCast_zero, Int.natCast_one, lRng1_e, kRng_1, kRng_2, kRng_3, kRng_4, kRng_5, kRng_6, List.length_map, arS_0, sEr_e, sTryAs_e, tryK_nx, tryK_rt, tryK_er, afterO_rt, afterO_nx, eXf_e, xfS_s, xfK_s, plain_n, plain_e, List.all_cons, List.all_nil, eq_self, sTryN_e, tryN_nx, tryN_rt, tryN_h, tryN_t, dflI_e, dflF_e, not_false_eq_true, eMethK_e, kMK_e, kMK2_e, eProp_e, kPr_e, eNotO_e, kNotO_e, notK_s, eSlA_e, kSA1_e, kSA2_e, kSA3_l, kSA3_t, eGetO_e, kGet1_e, kGet2_e, getK_s, fX, a, k, li, a1, a2, s]
theorem int_ok (n : Nat) (G : GS) : g__law_int [.d (.int (n : Nat)), .d (.int (n : Nat))] G = .ok (.d (.bl true)) G := by
  have d : decide ((n : Int) = n) = true := decide_eq_true rfl
  have e : gIsi TB [.int (n : Nat), .ty "int"] = some (.bl true) := rfl
  have e2 : gIsi TB [.int (n : Nat), .ty "bool"] = some (.bl false) := rfl
  simp -implicitDefEqProofs only [bind_ok, bind_er, bindN_ok, ofE_ok, ofE_er, seqO_nx, seqO_rt, seqO_er, seqO_bk, seqO_ct, loopO_nx, loopO_ct, loopO_bk, loopO_rt, loopO_er, lift_s, retO_rt, retO_nx, retO_er, mkO_ok, mkO_er, toOpt_ok, eVar_z, eVar_s, oL_z, oL_s, frz_z, frz_s, wipe_n, wipe_c, datas_n, datas_c, map_s, bind_s, setA_n, setA_c, p2_d, p1_d, pN_d, fEq_i, fEq_s, fEq_b, fEq_ii, fNe_i, fNe_s, fNe_b, fSub_i, fAdd_i, fAnd_i, fOr_i, fXor_i, fLt_i, fLe_i, fGt_i, fGe_i, fIs_d, fIsNot_d, fIsB_b, isB_b, tru_b, tru_i, tru_l, tru_t, orE_s, orE_n, alt2_e, alt1_e, altN_e, fIx_l, fIx_t, at_0, at_1, at_2, at_3, at_4, at_5, for_n, for_c, lc_n, len_lst, len_tup, kfn_c, kix_c, sSeq_e, sNil_e, sSet_e, sSet2_e, sRet_e, sRetN_e, sDrop_e, sIf_e, sBk_e, sCt_e, sFrz_e, sOwn_e, sFor_e, sUnp_e, eC_e, eOp_e, eUn_e, aNil_e, aCons_e, aApp_e, eFN_e, eCall_e, eMake_e, eCMeth_e, eCallO_e, eLst_e, eTup_e, nLst_e, nLc_e, eLc_e, lSeq_e, lTup_e, eIf_e, eAnd_e, eOr_e, eNot_e, bOf_e, bAnd_e, bOr_e, bNot_e, eFld_e, runB_e, env0_e, oN_e, List.set_cons_zero, List.set_cons_succ, List.map_cons, List.map_nil, List.cons_append, List.nil_append, List.replicate_succ, List.replicate_zero, List.length_cons, List.length_nil, List.getElem?_cons_zero, List.getElem?_cons_succ, reduceIte, if_true, if_false, Bool.false_eq_true, arN_t, decide_true, decide_false, isNon, Bool.not_true, Bool.not_false, Bool.true_and, Bool.false_and, Bool.and_true, Bool.and_false, bYes_e, lstMax_e, Nat.reduceAdd, Nat.reduceSub, Nat.reduceLeDiff, Int.reduceLT, Int.reduceLE, Int.reduceEq, String.reduceEq, and_self, decide_eq_true_eq, and_true, true_and, cPos_e, cDiv_e, fMod_i, fDiv_i, Int.reduceMod, Int.reduceDiv, Int.reduceSub, Int.reduceAdd, Int.reducePow, kOf_i, fsOf_i, fOwn_k, fOwn1_k, gFld_k, methO_e, methK_s, methA_s, ownK_s, ownK_n, ownK_m, own1K_s, own1K_n, fldK_s, sApp_e, appK_s, sOSub_e, osubK_s, eOIx_e, oixK_s, eOLen_e, olenK_s, ixN_p, Int.reduceToNat, Nat.reduceLT, oS_e, eSl_e, eSlT_e, kSet_e, kSet2_e, kDrop_e, kIf_t, kIf_f, kOwn_e, kApp_e, kOsub1_e, kOsub2_e, osK_s, kOix_e, ixK_s, kFor_e, kUnp_e, unpK_s, kOp1_e, kOp2_e, kUn_e, kC1_e, kC2_e, kA1_e, kA2_e, kFN_e, kCall_e, kMake_e, kCM_e, kMeth_e, kLst_e, lstK_s, kTup_e, tupK_s, kNl_e, nlK_s, nList_e, kNli_e, nliK_s, lOf_l, lOf_t, kNc1_e, kNc2_e, kLc1_e, kLc2_e, kSeq_e, kTpl_e, kEIf_t, kEIf_f, kEAnd_t, kEAnd_f, kEOr_t, kEOr_f, kENot_e, kB_e, kBAnd_t, kBAnd_f, kBOr_t, kBOr_f, kBNot_e, kOS_e, kSl1_e, kSl2_e, kSl3_e, kSt1_e, kSt2_e, kSt3_e, eMeth_e, kMe_e, lc_c, kL1_e, kL2_e, kT_t, kT_f, Int.cast_ofNat_Int, Int.natCast_zero, Int.natCast_one, lRng1_e, kRng_1, kRng_2, kRng_3, kRng_4, kRng_5, kRng_6, List.length_map, arS_0, sEr_e, sTryAs_e, tryK_nx, tryK_rt, tryK_er, afterO_rt, afterO_nx, eXf_e, xfS_s, xfK_s, plain_n, plain_e, List.all_cons, List.all_nil, eq_self, sTryN_e, tryN_nx, tryN_rt, tryN_h, tryN_t, dflI_e, dflF_e, not_false_eq_true, eMethK_e, kMK_e, kMK2_e, eProp_e, kPr_e, eNotO_e, kNotO_e, notK_s, eSlA_e, kSA1_e, kSA2_e, kSA3_l, kSA3_t, eGetO_e, kGet1_e, kGet2_e, getK_s, g__law_int, m__law_int, fIsi, e, e2, d]
end K61
set_option Elab.async false
set_option linter.all false
set_option maxRecDepth 100000
set_option maxHeartbeats 4000000
namespace K61
open PySem DL
theorem in_loop {w h n y : Nat} (m : Bool) (hy : y < h) (hn : n < 64) (G : GS) (s3 : Sl) : ∃ s, forL 3 fX ((List.range w).map fun i : Nat => DL.D.int (i : Nat)) [.ev (.d (sheetD w h n m)), .ev (.d (gridD w h n m)), .ev (.d (.int (y : Nat))), s3] G = .nx [.ev (.d (sheetD w h n m)), .ev (.d (gridD w h n m)), .ev (.d (.int (y : Nat))), s] G :=
  for_same (k := 3) (d := fun i : Nat => DL.D.int (i : Nat)) (b := fX) (env := [.ev (.d (sheetD w h n m)), .ev (.d (gridD w h n m)), .ev (.d (.int (y : Nat))), .no]) (G := G) (List.range w) s3 fun x hx => fX_ok m (List.mem_range.mp hx) hy hn G
theorem rngX {w h n : Nat} (m : Bool) (hh : 1 ≤ h) (hw : w ≤ 1000) (s2 s3 : Sl) (G : GS) : lRng1 (aCons (eFN fLen (aCons (eOp fIx (eVar 1) (eC (.int 0))) (aNil))) (aNil)) [.ev (.d (sheetD w h n m)), .ev (.d (gridD w h n m)), s2, s3] G = .ok ((List.range w).map fun i : Nat => DL.D.int (i : Nat)) G :=
  rng_of (by omega) (by
    have a0 : L2.atI (List.replicate h (DL.D.lst (List.replicate w (cellD n m)))) 0 = some (.lst (List.replicate w (cellD n m))) := at_rep (k := 0) (by omega)
    have li : gridD w h n m = .lst (List.replicate h (.lst (List.replicate w (cellD n m)))) := rfl
    simp -implicitDefEqProofs only [bind_ok, bind_er, bindN_ok, ofE_ok, ofE_er, seqO_nx, seqO_rt, seqO_er, seqO_bk, seqO_ct, loopO_nx, loopO_ct, loopO_bk, loopO_rt, loopO_er, lift_s, retO_rt, retO_nx, retO_er, mkO_ok, mkO_er, toOpt_ok, eVar_z, eVar_s, oL_z, oL_s, frz_z, frz_s, wipe_n, wipe_c, datas_n, datas_c, map_s, bind_s, setA_n, setA_c, p2_d, p1_d, pN_d, fEq_i, fEq_s, fEq_b, fEq_ii, fNe_i, fNe_s, fNe_b, fSub_i, fAdd_i, fAnd_i, fOr_i, fXor_i, fLt_i, fLe_i, fGt_i, fGe_i, fIs_d, fIsNot_d, fIsB_b, isB_b, tru_b, tru_i, tru_l, tru_t, orE_s, orE_n, alt2_e, alt1_e, altN_e, fIx_l, fIx_t, at_0, at_1, at_2, at_3, at_4, at_5, for_n, for_c, lc_n, len_lst, len_tup, kfn_c, kix_c, sSeq_e, sNil_e, sSet_e, sSet2_e, sRet_e, sRetN_e, sDrop_e, sIf_e, sBk_e, sCt_e, sFrz_e, sOwn_e, sFor_e, sUnp_e, eC_e, eOp_e, eUn_e, aNil_e, aCons_e, aApp_e, eFN_e, eCall_e, eMake_e, eCMeth_e, eCallO_e, eLst_e, eTup_e, nLst_e, nLc_e, eLc_e, lSeq_e, lTup_e, eIf_e, eAnd_e, eOr_e, eNot_e, bOf_e, bAnd_e, bOr_e, bNot_e, eFld_e, runB_e, env0_e, oN_e, List.set_cons_zero, List.set_cons_succ, List.map_cons, List.map_nil, List.cons_append, List.nil_append, List.replicate_succ, List.replicate_zero, List.length_cons, List.length_nil, List.getElem?_cons_zero, List.getElem?_cons_succ, reduceIte, if_true, if_false, Bool.false_eq_true, arN_t, decide_true, decide_false, isNon, Bool.not_true, Bool.not_false, Bool.true_and, Bool.false_and, Bool.and_true, Bool.and_false, bYes_e, lstMax_e, Nat.reduceAdd, Nat.reduceSub, Nat.reduceLeDiff, Int.reduceLT, Int.reduceLE, Int.reduceEq, String.reduceEq, and_self, decide_eq_true_eq, and_true, true_and, cPos_e, cDiv_e, fMod_i, fDiv_i, Int.reduceMod, Int.reduceDiv, Int.reduceSub, Int.reduceAdd, Int.reducePow, kOf_i, fsOf_i, fOwn_k, fOwn1_k, gFld_k, methO_e, methK_s, methA_s, ownK_s, ownK_n, ownK_m, own1K_s, own1K_n, fldK_s, sApp_e, appK_s, sOSub_e, osubK_s, eOIx_e, oixK_s, eOLen_e, olenK_s, ixN_p, Int.reduceToNat, Nat.reduceLT, oS_e, eSl_e, eSlT_e, kSet_e, kSet2_e, kDrop_e, kIf_t, kIf_f, kOwn_e, kApp_e, kOsub1_e, kOsub2_e, osK_s, kOix_e, ixK_s, kFor_e, kUnp_e, unpK_s, kOp1_e, kOp2_e, kUn_e, kC1_e, kC2_e, kA1_e, kA2_e, kFN_e, kCall_e, kMake_e, kCM_e, kMeth_e, kLst_e, lstK_s, kTup_e, tupK_s, kNl_e, nlK_s, nList_e, kNli_e, nliK_s, lOf_l, lOf_t, kNc1_e, kNc2_e, kLc1_e, kLc2_e, kSeq_e, kTpl_e, kEIf_t, kEIf_f, kEAnd_t, kEAnd_f, kEOr_t, kEOr_f, kENot_e, kB_e, kBAnd_t, kBAnd_f, kBOr_t, kBOr_f, kBNot_e, kOS_e, kSl1_e, kSl2_e, kSl3_e, kSt1_e, kSt2_e, kSt3_e, eMeth_e, kMe_e, lc_c, kL1_e, kL2_e, kT_t, kT_f, Int.cast_ofNat_Int, Int.natCast_zero, Int.natCast_one, lRng1_e, kRng_1, kRng_2, kRng_3, kRng_4, kRng_5, kRng_6, List.length_map, arS_0, sEr_e, sTryAs_e, tryK_nx, tryK_rt, tryK_er, afterO_rt, afterO_nx, eXf_e, xfS_s, xfK_s, plain_n, plain_e, List.all_cons, List.all_nil, eq_self, sTryN_e, tryN_nx, tryN_rt, tryN_h, tryN_t, dflI_e, dflF_e, not_false_eq_true, eMethK_e, kMK_e, kMK2_e, eProp_e, kPr_e, eNotO_e, kNotO_e, notK_s, eSlA_e, kSA1_e, kSA2_e, kSA3_l, kSA3_t, eGetO_e, kGet1_e, kGet2_e, getK_s, li, a0, List.length_replicate])
theorem rngY {w h n : Nat} (m : Bool) (hh : h ≤ 1000) (s2 s3 : Sl) (G : GS) : lRng1 (aCons (eFN fLen (aCons (eVar 1) (aNil))) (aNil)) [.ev (.d (sheetD w h n m)), .ev (.d (gridD w h n m)), s2, s3] G = .ok ((List.range h).map fun i : Nat => DL.D.int (i : Nat)) G :=
  rng_of (by omega) (by
    have li : gridD w h n m = .lst (List.replicate h (.lst (List.replicate w (cellD n m)))) := rfl
    simp -implicitDefEqProofs only [bind_ok, bind_er, bindN_ok, ofE_ok, ofE_er, seqO_nx, seqO_rt, seqO_er, seqO_bk, seqO_ct, loopO_nx, loopO_ct, loopO_bk, loopO_rt, loopO_er, lift_s, retO_rt, retO_nx, retO_er, mkO_ok, mkO_er, toOpt_ok, eVar_z, eVar_s, oL_z, oL_s, frz_z, frz_s, wipe_n, wipe_c, datas_n, datas_c, map_s, bind_s, setA_n, setA_c, p2_d, p1_d, pN_d, fEq_i, fEq_s, fEq_b, fEq_ii, fNe_i, fNe_s, fNe_b, fSub_i, fAdd_i, fAnd_i, fOr_i, fXor_i, fLt_i, fLe_i, fGt_i, fGe_i, fIs_d, fIsNot_d, fIsB_b, isB_b, tru_b, tru_i, tru_l, tru_t, orE_s, orE_n, alt2_e, alt1_e, altN_e, fIx_l, fIx_t, at_0, at_1, at_2, at_3, at_4, at_5, for_n, for_c, lc_n, len_lst, len_tup, kfn_c, kix_c, sSeq_e, sNil_e, sSet_e, sSet2_e, sRet_e, sRetN_e, sDrop_e, sIf_e, sBk_e, sCt_e, sFrz_e, sOwn_e, sFor_e, sUnp_e, eC_e, eOp_e, eUn_e, aNil_e, aCons_e, aApp_e, eFN_e, eCall_e, eMake_e, eCMeth_e, eCallO_e, eLst_e, eTup_e, nLst_e, nLc_e, eLc_e, lSeq_e, lTup_e, eIf_e, eAnd_e, eOr_e, eNot_e, bOf_e, bAnd_e, bOr_e, bNot_e, eFld_e, runB_e, env0_e, oN_e, List.set_cons_zero, List.set_cons_succ, List.map_cons, List.map_nil, List.cons_append, List.nil_append, List.replicate_succ, List.replicate_zero, List.length_cons, List.length_nil, List.getElem?_cons_zero, List.getElem?_cons_succ, reduceIte, if_true, if_false, Bool.false_eq_true, arN_t, decide_true, decide_false, isNon, Bool.not_true, Bool.not_false, Bool.true_and, Bool.false_and, Bool.and_true, Bool.and_false, bYes_e, lstMax_e, Nat.reduceAdd, Nat.reduceSub, Nat.reduceLeDiff, Int.reduceLT, Int.reduceLE, Int.reduceEq, String.reduceEq, and_self, decide_eq_true_eq, and_true, true_and, cPos_e, cDiv_e, fMod_i, fDiv_i, Int.reduceMod, Int.reduceDiv, Int.reduceSub, Int.reduceAdd, Int.reducePow, kOf_i, fsOf_i, fOwn_k, fOwn1_k, gFld_k, methO_e, methK_s, methA_s, ownK_s, ownK_n, ownK_m, own1K_s, own1K_n, fldK_s, sApp_e, appK_s, sOSub_e, osubK_s, eOIx_e, oixK_s, eOLen_e, olenK_s, ixN_p, Int.reduceToNat, Nat.reduceLT, oS_e, eSl_e, eSlT_e, kSet_e, kSet2_e, kDrop_e, kIf_t, kIf_f, kOwn_e, kApp_e, kOsub1_e, kOsub2_e, osK_s, kOix_e, ixK_s, kFor_e, kUnp_e, unpK_s, kOp1_e, kOp2_e, kUn_e, kC1_e, kC2_e, kA1_e, kA2_e, kFN_e, kCall_e, kMake_e, kCM_e, kMeth_e, kLst_e, lstK_s, kTup_e, tupK_s, kNl_e, nlK_s, nList_e, kNli_e, nliK_s, lOf_l, lOf_t, kNc1_e, kNc2_e, kLc1_e, kLc2_e, kSeq_e, kTpl_e, kEIf_t, kEIf_f, kEAnd_t, kEAnd_f, kEOr_t, kEOr_f, kENot_e, kB_e, kBAnd_t, kBAnd_f, kBOr_t, kBOr_f, kBNot_e, kOS_e, kSl1_e, kSl2_e, kSl3_e, kSt1_e, kSt2_e, kSt3_e, eMeth_e, kMe_e, lc_c, kL1_e, kL2_e, kT_t, kT_f, Int.cast_ofNat_Int, Int.natCast_zero, Int.natCast_one, lRng1_e, kRng_1, kRng_2, kRng_3, kRng_4, kRng_5, kRng_6, List.length_map, arS_0, sEr_e, sTryAs_e, tryK_nx, tryK_rt, tryK_er, afterO_rt, afterO_nx, eXf_e, xfS_s, xfK_s, plain_n, plain_e, List.all_cons, List.all_nil, eq_self, sTryN_e, tryN_nx, tryN_rt, tryN_h, tryN_t, dflI_e, dflF_e, not_false_eq_true, eMethK_e, kMK_e, kMK2_e, eProp_e, kPr_e, eNotO_e, kNotO_e, notK_s, eSlA_e, kSA1_e, kSA2_e, kSA3_l, kSA3_t, eGetO_e, kGet1_e, kGet2_e, getK_s, li, List.length_replicate])
@[reducible] def fY : SM := sFor 3 (lRng1 (aCons (eFN fLen (aCons (eOp fIx (eVar 1) (eC (.int 0))) (aNil))) (aNil))) fX
theorem out_loop {w h n : Nat} (m : Bool) (hw : w ≤ 1000) (hn : n < 64) (G : GS) : ∀ (ys : List Nat) (s2 s3 : Sl), (∀ y ∈ ys, y < h) → ∃ s2' s3', forL 2 fY (ys.map fun i : Nat => DL.D.int (i : Nat)) [.ev (.d (sheetD w h n m)), .ev (.d (gridD w h n m)), s2, s3] G = .nx [.ev (.d (sheetD w h n m)), .ev (.d (gridD w h n m)), s2', s3'] G
  | [], s2, s3, _ => ⟨s2, s3, rfl⟩
  | y :: ys, s2, s3, hy => by
    have h0 := hy y List.mem_cons_self
    obtain ⟨s, e⟩ := in_loop m h0 hn (w := w) G s3
    obtain ⟨s2', s3', f⟩ := out_loop m hw hn G ys (.ev (.d (.int (y : Nat)))) s fun z hz => hy z (.tail _ hz)
    refine ⟨s2', s3', ?_⟩
    have b : fY [.ev (.d (sheetD w h n m)), .ev (.d (gridD w h n m)), .ev (.d (.int (y : Nat))), s3] G = .nx [.ev (.d (sheetD w h n m)), .ev (.d (gridD w h n m)), .ev (.d (.int (y : Nat))), s] G := by
      unfold fY sFor
      rw [rngX m (by omega) hw]
      exact e
    rw [List.map_cons, for_c]
    show loopO (fY [.ev (.d (sheetD w h n m)), .ev (.d (gridD w h n m)), .ev (.d (.int (y : Nat))), s3] G) _ = _
    rw [b, loopO_nx, f]
theorem ssh_ok {w h n : Nat} (m : Bool) (hh : 1 ≤ h) (hw : w ≤ 1000) (hh2 : h ≤ 1000) (hn : n < 64) (G : GS) : g__law_same_sheet [.d (sheetD w h n m), .d (gridD w h n m)] G = .ok (.d (.bl true)) G := by
  obtain ⟨s2, s3, e⟩ := out_loop m hw hn G (List.range h) .no .no fun y hy => List.mem_range.mp hy
  have f := sheet_f w h n m
  have k := sheet_k w h n m
  have i1 := int_ok w G
  have i2 := int_ok h G
  have a0 : L2.atI (List.replicate h (DL.D.lst (List.replicate w (cellD n m)))) 0 = some (.lst (List.replicate w (cellD n m))) := at_rep (k := 0) (by omega)
  have c : sFor 2 (lRng1 (aCons (eFN fLen (aCons (eVar 1) (aNil))) (aNil))) fY [.ev (.d (sheetD w h n m)), .ev (.d (gridD w h n m)), .no, .no] G = .nx [.ev (.d (sheetD w h n m)), .ev (.d (gridD w h n m)), s2, s3] G := by
    unfold sFor
    rw [rngY m hh2]
    exact e
  have li : gridD w h n m = .lst (List.replicate h (.lst (List.replicate w (cellD n m)))) := rfl
  have q : (sIf (bOr (bNot (bOf truE (eCall (arN 2) g__law_int (aCons (eFld [("Sheet", 0)] (eVar 0)) (aCons (eFN fLen (aCons (eOp fIx (eVar 1) (eC (.int 0))) (aNil))) (aNil)))))) (bNot (bOf truE (eCall (arN 2) g__law_int (aCons (eFld [("Sheet", 1)] (eVar 0)) (aCons (eFN fLen (aCons (eVar 1) (aNil))) (aNil))))))) (sRet (eC (.bl false))) (sNil)) [.ev (.d (sheetD w h n m)), .ev (.d (gridD w h n m)), .no, .no] G = .nx [.ev (.d (sheetD w h n m)), .ev (.d (gridD w h n m)), .no, .no] G := by
    simp -implicitDefEqProofs only [bind_ok, bind_er, bindN_ok, ofE_ok, ofE_er, seqO_nx, seqO_rt, seqO_er, seqO_bk, seqO_ct, loopO_nx, loopO_ct, loopO_bk, loopO_rt, loopO_er, lift_s, retO_rt, retO_nx, retO_er, mkO_ok, mkO_er, toOpt_ok, eVar_z, eVar_s, oL_z, oL_s, frz_z, frz_s, wipe_n, wipe_c, datas_n, datas_c, map_s, bind_s, setA_n, setA_c, p2_d, p1_d, pN_d, fEq_i, fEq_s, fEq_b, fEq_ii, fNe_i, fNe_s, fNe_b, fSub_i, fAdd_i, fAnd_i, fOr_i, fXor_i, fLt_i, fLe_i, fGt_i, fGe_i, fIs_d, fIsNot_d, fIsB_b, isB_b, tru_b, tru_i, tru_l, tru_t, orE_s, orE_n, alt2_e, alt1_e, altN_e, fIx_l, fIx_t, at_0, at_1, at_2, at_3, at_4, at_5, for_n, for_c, lc_n, len_lst, len_tup, kfn_c, kix_c, sSeq_e, sNil_e, sSet_e, sSet2_e, sRet_e, sRetN_e, sDrop_e, sIf_e, sBk_e, sCt_e, sFrz_e, sOwn_e, sFor_e, sUnp_e, eC_e, eOp_e, eUn_e, aNil_e, aCons_e, aApp_e, eFN_e, eCall_e, eMake_e, eCMeth_e, eCallO_e, eLst_e, eTup_e, nLst_e, nLc_e, eLc_e, lSeq_e, lTup_e, eIf_e, eAnd_e, eOr_e, eNot_e, bOf_e, bAnd_e, bOr_e, bNot_e, eFld_e, runB_e, env0_e, oN_e, List.set_cons_zero, List.set_cons_succ, List.map_cons, List.map_nil, List.cons_append, List.nil_append, List.replicate_succ, List.replicate_zero, List.length_cons, List.length_nil, List.getElem?_cons_zero, List.getElem?_cons_succ, reduceIte, if_true, if_false, Bool.false_eq_true, arN_t, decide_true, decide_false, isNon, Bool.not_true, Bool.not_false, Bool.true_and, Bool.false_and, Bool.and_true, Bool.and_false, bYes_e, lstMax_e, Nat.reduceAdd, Nat.reduceSub, Nat.reduceLeDiff, Int.reduceLT, Int.reduceLE, Int.reduceEq, String.reduceEq, and_self, decide_eq_true_eq, and_true, true_and, cPos_e, cDiv_e, fMod_i, fDiv_i, Int.reduceMod, Int.reduceDiv, Int.reduceSub, Int.reduceAdd, Int.reducePow, kOf_i, fsOf_i, fOwn_k, fOwn1_k, gFld_k, methO_e, methK_s, methA_s, ownK_s, ownK_n, ownK_m, own1K_s, own1K_n, fldK_s, sApp_e, appK_s, sOSub_e, osubK_s, eOIx_e, oixK_s, eOLen_e, olenK_s, ixN_p, Int.reduceToNat, Nat.reduceLT, oS_e, eSl_e, eSlT_e, kSet_e, kSet2_e, kDrop_e, kIf_t, kIf_f, kOwn_e, kApp_e, kOsub1_e, kOsub2_e, osK_s, kOix_e, ixK_s, kFor_e, kUnp_e, unpK_s, kOp1_e, kOp2_e, kUn_e, kC1_e, kC2_e, kA1_e, kA2_e, kFN_e, kCall_e, kMake_e, kCM_e, kMeth_e, kLst_e, lstK_s, kTup_e, tupK_s, kNl_e, nlK_s, nList_e, kNli_e, nliK_s, lOf_l, lOf_t, kNc1_e, kNc2_e, kLc1_e, kLc2_e, kSeq_e, kTpl_e, kEIf_t, kEIf_f, kEAnd_t, kEAnd_f, kEOr_t, kEOr_f, kENot_e, kB_e, kBAnd_t, kBAnd_f, kBOr_t, kBOr_f, kBNot_e, kOS_e, kSl1_e, kSl2_e, kSl3_e, kSt1_e, kSt2_e, kSt3_e, eMeth_e, kMe_e, lc_c, kL1_e, kL2_e, kT_t, kT_f, Int.cast_ofNat_Int, Int.natCast_zero, Int.natCast_one, lRng1_e, kRng_1, kRng_2, kRng_3, kRng_4, kRng_5, kRng_6, List.length_map, arS_0, sEr_e, sTryAs_e, tryK_nx, tryK_rt, tryK_er, afterO_rt, afterO_nx, eXf_e, xfS_s, xfK_s, plain_n, plain_e, List.all_cons, List.all_nil, eq_self, sTryN_e, tryN_nx, tryN_rt, tryN_h, tryN_t, dflI_e, dflF_e, not_false_eq_true, eMethK_e, kMK_e, kMK2_e, eProp_e, kPr_e, eNotO_e, kNotO_e, notK_s, eSlA_e, kSA1_e, kSA2_e, kSA3_l, kSA3_t, eGetO_e, kGet1_e, kGet2_e, getK_s, li, f, k, a0, List.length_replicate, i1, i2]
  show retO (sSeq (sIf (bOr (bNot (bOf truE (eCall (arN 2) g__law_int (aCons (eFld [("Sheet", 0)] (eVar 0)) (aCons (eFN fLen (aCons (eOp fIx (eVar 1) (eC (.int 0))) (aNil))) (aNil)))))) (bNot (bOf truE (eCall (arN 2) g__law_int (aCons (eFld [("Sheet", 1)] (eVar 0)) (aCons (eFN fLen (aCons (eVar 1) (aNil))) (aNil))))))) (sRet (eC (.bl false))) (sNil)) (sSeq (sFor 2 (lRng1 (aCons (eFN fLen (aCons (eVar 1) (aNil))) (aNil))) fY) (sRet (eC (.bl true)))) [.ev (.d (sheetD w h n m)), .ev (.d (gridD w h n m)), .no, .no] G) = _
  rw [sqn q, sqn c]
  rfl
theorem grid_ok {w h n : Nat} (m : Bool) (hw : w ≤ 1000) (hh : h ≤ 1000) (G : GS) : g__law_grid [.d (.int (w : Nat)), .d (.int (h : Nat)), .d (.int (n : Nat)), .d (.bl m)] G = .ok (.d (gridD w h n m)) G := by
  have r := rep_l (cellD n m) hw G
  have e : eLc 4 [4] (lRng1 (aCons (eVar 1) (aNil))) (bYes) (eOp (alt2 (fMul) (alt2 fRepL fRepT)) (eLst (aCons (eTup (aCons (eVar 2) (aCons (eVar 3) (aNil)))) (aNil))) (eVar 0)) [.ev (.d (.int (w : Nat))), .ev (.d (.int (h : Nat))), .ev (.d (.int (n : Nat))), .ev (.d (.bl m)), .no] G = .ok (.d (.lst ((List.range h).map fun _ => DL.D.lst (List.replicate w (cellD n m))))) G :=
    elc_of (rng_of (by omega) rfl) (lc_map (f := fun i : Nat => DL.D.int (i : Nat)) (g := fun _ => DL.D.lst (List.replicate w (cellD n m))) (List.range h) fun x _ => by
      unfold cellD at r ⊢
      simp -implicitDefEqProofs only [bind_ok, bind_er, bindN_ok, ofE_ok, ofE_er, seqO_nx, seqO_rt, seqO_er, seqO_bk, seqO_ct, loopO_nx, loopO_ct, loopO_bk, loopO_rt, loopO_er, lift_s, retO_rt, retO_nx, retO_er, mkO_ok, mkO_er, toOpt_ok, eVar_z, eVar_s, oL_z, oL_s, frz_z, frz_s, wipe_n, wipe_c, datas_n, datas_c, map_s, bind_s, setA_n, setA_c, p2_d, p1_d, pN_d, fEq_i, fEq_s, fEq_b, fEq_ii, fNe_i, fNe_s, fNe_b, fSub_i, fAdd_i, fAnd_i, fOr_i, fXor_i, fLt_i, fLe_i, fGt_i, fGe_i, fIs_d, fIsNot_d, fIsB_b, isB_b, tru_b, tru_i, tru_l, tru_t, orE_s, orE_n, alt2_e, alt1_e, altN_e, fIx_l, fIx_t, at_0, at_1, at_2, at_3, at_4, at_5, for_n, for_c, lc_n, len_lst, len_tup, kfn_c, kix_c, sSeq_e, sNil_e, sSet_e, sSet2_e, sRet_e, sRetN_e, sDrop_e, sIf_e, sBk_e, sCt_e, sFrz_e, sOwn_e, sFor_e, sUnp_e, eC_e, eOp_e, eUn_e, aNil_e, aCons_e, aApp_e, eFN_e, eCall_e, eMake_e, eCMeth_e, eCallO_e, eLst_e, eTup_e, nLst_e, nLc_e, eLc_e, lSeq_e, lTup_e, eIf_e, eAnd_e, eOr_e, eNot_e, bOf_e, bAnd_e, bOr_e, bNot_e, eFld_e, runB_e, env0_e, oN_e, List.set_cons_zero, List.set_cons_succ, List.map_cons, List.map_nil, List.cons_append, List.nil_append, List.replicate_succ, List.replicate_zero, List.length_cons, List.length_nil, List.getElem?_cons_zero, List.getElem?_cons_succ, reduceIte, if_true, if_false, Bool.false_eq_true, arN_t, decide_true, decide_false, isNon, Bool.not_true, Bool.not_false, Bool.true_and, Bool.false_and, Bool.and_true, Bool.and_false, bYes_e, lstMax_e, Nat.reduceAdd, Nat.reduceSub, Nat.reduceLeDiff, Int.reduceLT, Int.reduceLE, Int.reduceEq, String.reduceEq, and_self, decide_eq_true_eq, and_true, true_and, cPos_e, cDiv_e, fMod_i, fDiv_i, Int.reduceMod, Int.reduceDiv, Int.reduceSub, Int.reduceAdd, Int.reducePow, kOf_i, fsOf_i, fOwn_k, fOwn1_k, gFld_k, methO_e, methK_s, methA_s, ownK_s, ownK_n, ownK_m, own1K_s, own1K_n, fldK_s, sApp_e, appK_s, sOSub_e, osubK_s, eOIx_e, oixK_s, eOLen_e, olenK_s, ixN_p, Int.reduceToNat, Nat.reduceLT, oS_e, eSl_e, eSlT_e, kSet_e, kSet2_e, kDrop_e, kIf_t, kIf_f, kOwn_e, kApp_e, kOsub1_e, kOsub2_e, osK_s, kOix_e, ixK_s, kFor_e, kUnp_e, unpK_s, kOp1_e, kOp2_e, kUn_e, kC1_e, kC2_e, kA1_e, kA2_e, kFN_e, kCall_e, kMake_e, kCM_e, kMeth_e, kLst_e, lstK_s, kTup_e, tupK_s, kNl_e, nlK_s, nList_e, kNli_e, nliK_s, lOf_l, lOf_t, kNc1_e, kNc2_e, kLc1_e, kLc2_e, kSeq_e, kTpl_e, kEIf_t, kEIf_f, kEAnd_t, kEAnd_f, kEOr_t, kEOr_f, kENot_e, kB_e, kBAnd_t, kBAnd_f, kBOr_t, kBOr_f, kBNot_e, kOS_e, kSl1_e, kSl2_e, kSl3_e, kSt1_e, kSt2_e, kSt3_e, eMeth_e, kMe_e, lc_c, kL1_e, kL2_e, kT_t, kT_f, Int.cast_ofNat_Int, Int.natCast_zero, Int.natCast_one, lRng1_e, kRng_1, kRng_2, kRng_3, kRng_4, kRng_5, kRng_6, List.length_map, arS_0, sEr_e, sTryAs_e, tryK_nx, tryK_rt, tryK_er, afterO_rt, afterO_nx, eXf_e, xfS_s, xfK_s, plain_n, plain_e, List.all_cons, List.all_nil, eq_self, sTryN_e, tryN_nx, tryN_rt, tryN_h, tryN_t, dflI_e, dflF_e, not_false_eq_true, eMethK_e, kMK_e, kMK2_e, eProp_e, kPr_e, eNotO_e, kNotO_e, notK_s, eSlA_e, kSA1_e, kSA2_e, kSA3_l, kSA3_t, eGetO_e, kGet1_e, kGet2_e, getK_s, ↓r]) (by rw [List.length_map, List.length_range]; omega)
  show retO (sRet (eLc 4 [4] _ _ _) [.ev (.d (.int (w : Nat))), .ev (.d (.int (h : Nat))), .ev (.d (.int (n : Nat))), .ev (.d (.bl m)), .no] G) = _
  rw [sret_eq e, ← rep_map]
  rfl
/-! ### == -/
theorem toPys_rep {x : DL.D} {p : PyData} (h : toPy x = some p) : ∀ n : Nat, toPys (List.replicate n x) = some (List.replicate n p)
  | 0 => rfl
  | n + 1 => by
    rw [List.replicate_succ, List.replicate_succ]
    show (toPy x).bind (fun a => (toPys (List.replicate n x)).map (a :: ·)) = _
    rw [h, toPys_rep h n]
    rfl
theorem layT_cons (p : PyData) (l : List PyData) : PyData.canLay0 (.tuple (p :: l)) = (PyData.canLay0 p && PyData.canLay0 (.tuple l)) := rfl
theorem lay_rep {p : PyData} (h : PyData.canLay0 p = true) : ∀ n : Nat, PyData.canLay0 (.tuple (List.replicate n p)) = true
  | 0 => rfl
  | n + 1 => by rw [List.replicate_succ, layT_cons, h, lay_rep h n]; rfl
theorem dep_rep (p : PyData) : ∀ n : Nat, PyData.depthAll (List.replicate n p) ≤ PyData.depth p
  | 0 => Nat.zero_le _
  | n + 1 => by
    rw [List.replicate_succ]
    show max (PyData.depth p) (PyData.depthAll (List.replicate n p)) ≤ _
    have := dep_rep p n
    omega
theorem eqv_rep (p q : PyData) : ∀ n : Nat, PyData.eqvAll (List.replicate (n + 1) p) (List.replicate (n + 1) q) = PyData.eqv p q
  | 0 => by
    show (PyData.eqv p q && true) = _
    rw [Bool.and_true]
  | n + 1 => by
    rw [List.replicate_succ, List.replicate_succ (n := n + 1)]
    show (PyData.eqv p q && PyData.eqvAll (List.replicate (n + 1) p) (List.replicate (n + 1) q)) = _
    rw [eqv_rep p q n, Bool.and_self]
def cellP (n : Nat) (m : Bool) : PyData := .tuple [.int (n : Nat), .bool m]
def lineP (w n : Nat) (m : Bool) : PyData := .tuple (List.replicate w (cellP n m))
def linesP (w h n : Nat) (m : Bool) : PyData := .tuple (List.replicate h (lineP w n m))
theorem lines_py (w h n : Nat) (m : Bool) : toPy (linesD w h n m) = some (linesP w h n m) := by
  have a : toPy (lineD w n m) = some (lineP w n m) := by
    show (toPys (List.replicate w (cellD n m))).map PyData.tuple = _
    rw [toPys_rep (p := cellP n m) rfl]
    rfl
  show (toPys (List.replicate h (lineD w n m))).map PyData.tuple = _
  rw [toPys_rep a]
  rfl
theorem lines_sh (w h n : Nat) (m : Bool) : SeqAt.shaped (linesP w h n m) = true := by
  show (PyData.canLay0 (linesP w h n m) && decide (PyData.depthAll (List.replicate h (lineP w n m)) + 1 ≤ 64)) = true
  have d1 := dep_rep (lineP w n m) h
  have d2 := dep_rep (cellP n m) w
  have d3 : PyData.depth (lineP w n m) = PyData.depthAll (List.replicate w (cellP n m)) + 1 := rfl
  have d4 : PyData.depth (cellP n m) = 1 := rfl
  have c : PyData.canLay0 (linesP w h n m) = true := lay_rep (lay_rep (p := cellP n m) rfl w) h
  rw [c, decide_eq_true (by omega)]
  rfl
theorem cell_eqv (n n' : Nat) (m m' : Bool) : PyData.eqv (cellP n m) (cellP n' m') = (decide ((n : Int) = n') && decide (m = m')) := by
  show ((((n : Nat) : Int) == ((n' : Nat) : Int)) && ((m == m') && true)) = _
  have bb : (m == m') = decide (m = m') := by cases m <;> cases m' <;> rfl
  have bi : (((n : Nat) : Int) == ((n' : Nat) : Int)) = decide ((n : Int) = n') := by
    by_cases h : (n : Int) = (n' : Int)
    · rw [decide_eq_true h, h, beq_self_eq_true]
    · rw [decide_eq_false h]; exact beq_eq_false_iff_ne.mpr h
  rw [Bool.and_true, bb, bi]
theorem feq_lines {w h : Nat} (hw : 1 ≤ w) (hh : 1 ≤ h) (n n' : Nat) (m m' : Bool) (G : GS) : fEq (.d (linesD w h n m)) (.d (linesD w h n' m')) G = some (.d (.bl (decide ((n : Int) = n') && decide (m = m'))), G) := by
  have e : gEq (linesD w h n m) (linesD w h n' m') = some (decide ((n : Int) = n') && decide (m = m')) := by
    show (match toPy (linesD w h n m), toPy (linesD w h n' m') with
      | some x, some y => if (SeqAt.shaped x && SeqAt.shaped y) = true then some (PyData.eqv x y) else none
      | _, _ => none) = _
    rw [lines_py, lines_py]
    show (if (SeqAt.shaped (linesP w h n m) && SeqAt.shaped (linesP w h n' m')) = true then some (PyData.eqvAll (List.replicate h (lineP w n m)) (List.replicate h (lineP w n' m'))) else none) = _
    rw [lines_sh, lines_sh, show h = (h - 1) + 1 by omega, eqv_rep]
    show some (PyData.eqvAll (List.replicate w (cellP n m)) (List.replicate w (cellP n' m'))) = _
    rw [show w = (w - 1) + 1 by omega, eqv_rep, cell_eqv]
  show Option.map _ ((gEq (linesD w h n m) (linesD w h n' m')).map DL.D.bl) = _
  rw [e]
  rfl
theorem isi_sheet (l : List DL.D) : gIsi TB [.ins "Sheet" l, .cls "Sheet"] = some (.bl true) := by kernel_rfl
def seqB (w h n : Nat) (m : Bool) (w' h' n' : Nat) (m' : Bool) : Bool := decide ((w : Int) = w') && (decide ((h : Int) = h') && (decide ((n : Int) = n') && decide (m = m')))
theorem sheq_ok {w h n w' h' n' : Nat} (m m' : Bool) (hw : 1 ≤ w) (hh : 1 ≤ h) (G : GS) : g_Sheet___eq__ [.d (sheetD w h n m), .d (sheetD w' h' n' m')] G = .ok (.d (.bl (seqB w h n m w' h' n' m'))) G := by
  have f := sheet_f w h n m
  have k := sheet_k w h n m
  have f' := sheet_f w' h' n' m'
  have k' := sheet_k w' h' n' m'
  have i : gIsi TB [sheetD w' h' n' m', .cls "Sheet"] = some (.bl true) := isi_sheet _
  unfold seqB
  by_cases h1 : (w : Int) = w'
  · have d1 := decide_eq_true h1
    by_cases h2 : (h : Int) = h'
    · have d2 := decide_eq_true h2
      obtain rfl : w = w' := by omega
      obtain rfl : h = h' := by omega
      have l := feq_lines hw hh n n' m m' G
      simp -implicitDefEqProofs only [bind_ok, bind_er, bindN_ok, ofE_ok, ofE_er, seqO_nx, seqO_rt, seqO_er, seqO_bk, seqO_ct, loopO_nx, loopO_ct, loopO_bk, loopO_rt, loopO_er, lift_s, retO_rt, retO_nx, retO_er, mkO_ok, mkO_er, toOpt_ok, eVar_z, eVar_s, oL_z, oL_s, frz_z, frz_s, wipe_n, wipe_c, datas_n, datas_c, map_s, bind_s, setA_n, setA_c, p2_d, p1_d, pN_d, fEq_i, fEq_s, fEq_b, fEq_ii, fNe_i, fNe_s, fNe_b, fSub_i, fAdd_i, fAnd_i, fOr_i, fXor_i, fLt_i, fLe_i, fGt_i, fGe_i, fIs_d, fIsNot_d, fIsB_b, isB_b, tru_b, tru_i, tru_l, tru_t, orE_s, orE_n, alt2_e, alt1_e, altN_e, fIx_l, fIx_t, at_0, at_1, at_2, at_3, at_4, at_5, for_n, for_c, lc_n, len_lst, len_tup, kfn_c, kix_c, sSeq_e, sNil_e, sSet_e, sSet2_e, sRet_e, sRetN_e, sDrop_e, sIf_e, sBk_e, sCt_e, sFrz_e, sOwn_e, sFor_e, sUnp_e, eC_e, eOp_e, eUn_e, aNil_e, aCons_e, aApp_e, eFN_e, eCall_e, eMake_e, eCMeth_e, eCallO_e, eLst_e, eTup_e, nLst_e, nLc_e, eLc_e, lSeq_e, lTup_e, eIf_e, eAnd_e, eOr_e, eNot_e, bOf_e, bAnd_e, bOr_e, bNot_e, eFld_e, runB_e, env0_e, oN_e, List.set_cons_zero, List.set_cons_succ, List.map_cons, List.map_nil, List.cons_append, List.nil_append, List.replicate_succ, List.replicate_zero, List.length_cons, List.length_nil, List.getElem?_cons_zero, List.getElem?_cons_succ, reduceIte, if_true, if_false, Bool.false_eq_true, arN_t, decide_true, decide_false, isNon, Bool.not_true, Bool.not_false, Bool.true_and, Bool.false_and, Bool.and_true, Bool.and_false, bYes_e, lstMax_e, Nat.reduceAdd, Nat.reduceSub, Nat.reduceLeDiff, Int.reduceLT, Int.reduceLE, Int.reduceEq, String.reduceEq, and_self, decide_eq_true_eq, and_true, true_and, cPos_e, cDiv_e, fMod_i, fDiv_i, Int.reduceMod, Int.reduceDiv, Int.reduceSub, Int.reduceAdd, Int.reducePow, kOf_i, fsOf_i, fOwn_k, fOwn1_k, gFld_k, methO_e, methK_s, methA_s, ownK_s, ownK_n, ownK_m, own1K_s, own1K_n, fldK_s, sApp_e, appK_s, sOSub_e, osubK_s, eOIx_e, oixK_s, eOLen_e, olenK_s, ixN_p, Int.reduceToNat, Nat.reduceLT, oS_e, eSl_e, eSlT_e, kSet_e, kSet2_e, kDrop_e, kIf_t, kIf_f, kOwn_e, kApp_e, kOsub1_e, kOsub2_e, osK_s, kOix_e, ixK_s, kFor_e, kUnp_e, unpK_s, kOp1_e, kOp2_e, kUn_e, kC1_e, kC2_e, kA1_e, kA2_e, kFN_e, kCall_e, kMake_e, kCM_e, kMeth_e, kLst_e, lstK_s, kTup_e, tupK_s, kNl_e, nlK_s, nList_e, kNli_e, nliK_s, lOf_l, lOf_t, kNc1_e, kNc2_e, kLc1_e, kLc2_e, kSeq_e, kTpl_e, kEIf_t, kEIf_f, kEAnd_t, kEAnd_f, kEOr_t, kEOr_f, kENot_e, kB_e, kBAnd_t, kBAnd_f, kBOr_t, kBOr_f, kBNot_e, kOS_e, kSl1_e, kSl2_e, kSl3_e, kSt1_e, kSt2_e, kSt3_e, eMeth_e, kMe_e, lc_c, kL1_e, kL2_e, kT_t, kT_f, Int.cast_ofNat_Int, Int.natCast_zero, Int.natCast_one, lRng1_e, kRng_1, kRng_2, kRng_3, kRng_4, kRng_5, kRng_6, List.length_map, arS_0, sEr_e, sTryAs_e, tryK_nx, tryK_rt, tryK_er, afterO_rt, afterO_nx, eXf_e, xfS_s, xfK_s, plain_n, plain_e, List.all_cons, List.all_nil, eq_self, sTryN_e, tryN_nx, tryN_rt, tryN_h, tryN_t, dflI_e, dflF_e, not_false_eq_true, eMethK_e, kMK_e, kMK2_e, eProp_e, kPr_e, eNotO_e, kNotO_e, notK_s, eSlA_e, kSA1_e, kSA2_e, kSA3_l, kSA3_t, eGetO_e, kGet1_e, kGet2_e, getK_s, g_Sheet___eq__, m_Sheet___eq__, fIsi, i, f, k, f', k', d1, d2, ↓l]
    · have d2 := decide_eq_false h2
      simp -implicitDefEqProofs only [bind_ok, bind_er, bindN_ok, ofE_ok, ofE_er, seqO_nx, seqO_rt, seqO_er, seqO_bk, seqO_ct, loopO_nx, loopO_ct, loopO_bk, loopO_rt, loopO_er, lift_s, retO_rt, retO_nx, retO_er, mkO_ok, mkO_er, toOpt_ok, eVar_z, eVar_s, oL_z, oL_s, frz_z, frz_s, wipe_n, wipe_c, datas_n, datas_c, map_s, bind_s, setA_n, setA_c, p2_d, p1_d, pN_d, fEq_i, fEq_s, fEq_b, fEq_ii, fNe_i, fNe_s, fNe_b, fSub_i, fAdd_i, fAnd_i, fOr_i, fXor_i, fLt_i, fLe_i, fGt_i, fGe_i, fIs_d, fIsNot_d, fIsB_b, isB_b, tru_b, tru_i, tru_l, tru_t, orE_s, orE_n, alt2_e, alt1_e, altN_e, fIx_l, fIx_t, at_0, at_1, at_2, at_3, at_4, at_5, for_n, for_c, lc_n, len_lst, len_tup, kfn_c, kix_c, sSeq_e, sNil_e, sSet_e, sSet2_e, sRet_e, sRetN_e, sDrop_e, sIf_e, sBk_e, sCt_e, sFrz_e, sOwn_e, sFor_e, sUnp_e, eC_e, eOp_e, eUn_e, aNil_e, aCons_e, aApp_e, eFN_e, eCall_e, eMake_e, eCMeth_e, eCallO_e, eLst_e, eTup_e, nLst_e, nLc_e, eLc_e, lSeq_e, lTup_e, eIf_e, eAnd_e, eOr_e, eNot_e, bOf_e, bAnd_e, bOr_e, bNot_e, eFld_e, runB_e, env0_e, oN_e, List.set_cons_zero, List.set_cons_succ, List.map_cons, List.map_nil, List.cons_append, List.nil_append, List.replicate_succ, List.replicate_zero, List.length_cons, List.length_nil, List.getElem?_cons_zero, List.getElem?_cons_succ, reduceIte, if_true, if_false, Bool.false_eq_true, arN_t, decide_true, decide_false, isNon, Bool.not_true, Bool.not_false, Bool.true_and, Bool.false_and, Bool.and_true, Bool.and_false, bYes_e, lstMax_e, Nat.reduceAdd, Nat.reduceSub, Nat.reduceLeDiff, Int.reduceLT, Int.reduceLE, Int.reduceEq, String.reduceEq, and_self, decide_eq_true_eq, and_true, true_and, cPos_e, cDiv_e, fMod_i, fDiv_i, Int.reduceMod, Int.reduceDiv, Int.reduceSub, Int.reduceAdd, Int.reducePow, kOf_i, fsOf_i, fOwn_k, fOwn1_k, gFld_k, methO_e, methK_s, methA_s, ownK_s, ownK_n, ownK_m, own1K_s, own1K_n, fldK_s, sApp_e, appK_s, sOSub_e, osubK_s, eOIx_e, oixK_s, eOLen_e, olenK_s, ixN_p, Int.reduceToNat, Nat.reduceLT, oS_e, eSl_e, eSlT_e, kSet_e, kSet2_e, kDrop_e, kIf_t, kIf_f, kOwn_e, kApp_e, kOsub1_e, kOsub2_e, osK_s, kOix_e, ixK_s, kFor_e, kUnp_e, unpK_s, kOp1_e, kOp2_e, kUn_e, kC1_e, kC2_e, kA1_e, kA2_e, kFN_e, kCall_e, kMake_e, kCM_e, kMeth_e, kLst_e, lstK_s, kTup_e, tupK_s, kNl_e, nlK_s, nList_e, kNli_e, nliK_s, lOf_l, lOf_t, kNc1_e, kNc2_e, kLc1_e, kLc2_e, kSeq_e, kTpl_e, kEIf_t, kEIf_f, kEAnd_t, kEAnd_f, kEOr_t, kEOr_f, kENot_e, kB_e, kBAnd_t, kBAnd_f, kBOr_t, kBOr_f, kBNot_e, kOS_e, kSl1_e, kSl2_e, kSl3_e, kSt1_e, kSt2_e, kSt3_e, eMeth_e, kMe_e, lc_c, kL1_e, kL2_e, kT_t, kT_f, Int.cast_ofNat_Int, Int.natCast_zero, Int.natCast_one, lRng1_e, kRng_1, kRng_2, kRng_3, kRng_4, kRng_5, kRng_6, List.length_map, arS_0, sEr_e, sTryAs_e, tryK_nx, tryK_rt, tryK_er, afterO_rt, afterO_nx, eXf_e, xfS_s, xfK_s, plain_n, plain_e, List.all_cons, List.all_nil, eq_self, sTryN_e, tryN_nx, tryN_rt, tryN_h, tryN_t, dflI_e, dflF_e, not_false_eq_true, eMethK_e, kMK_e, kMK2_e, eProp_e, kPr_e, eNotO_e, kNotO_e, notK_s, eSlA_e, kSA1_e, kSA2_e, kSA3_l, kSA3_t, eGetO_e, kGet1_e, kGet2_e, getK_s, g_Sheet___eq__, m_Sheet___eq__, fIsi, i, f, k, f', k', d1, d2]
  · have d1 := decide_eq_false h1
    simp -implicitDefEqProofs only [bind_ok, bind_er, bindN_ok, ofE_ok, ofE_er, seqO_nx, seqO_rt, seqO_er, seqO_bk, seqO_ct, loopO_nx, loopO_ct, loopO_bk, loopO_rt, loopO_er, lift_s, retO_rt, retO_nx, retO_er, mkO_ok, mkO_er, toOpt_ok, eVar_z, eVar_s, oL_z, oL_s, frz_z, frz_s, wipe_n, wipe_c, datas_n, datas_c, map_s, bind_s, setA_n, setA_c, p2_d, p1_d, pN_d, fEq_i, fEq_s, fEq_b, fEq_ii, fNe_i, fNe_s, fNe_b, fSub_i, fAdd_i, fAnd_i, fOr_i, fXor_i, fLt_i, fLe_i, fGt_i, fGe_i, fIs_d, fIsNot_d, fIsB_b, isB_b, tru_b, tru_i, tru_l, tru_t, orE_s, orE_n, alt2_e, alt1_e, altN_e, fIx_l, fIx_t, at_0, at_1, at_2, at_3, at_4, at_5, for_n, for_c, lc_n, len_lst, len_tup, kfn_c, kix_c, sSeq_e, sNil_e, sSet_e, sSet2_e, sRet_e, sRetN_e, sDrop_e, sIf_e, sBk_e, sCt_e, sFrz_e, sOwn_e, sFor_e, sUnp_e, eC_e, eOp_e, eUn_e, aNil_e, aCons_e, aApp_e, eFN_e, eCall_e, eMake_e, eCMeth_e, eCallO_e, eLst_e, eTup_e, nLst_e, nLc_e, eLc_e, lSeq_e, lTup_e, eIf_e, eAnd_e, eOr_e, eNot_e, bOf_e, bAnd_e, bOr_e, bNot_e, eFld_e, runB_e, env0_e, oN_e, List.set_cons_zero, List.set_cons_succ, List.map_cons, List.map_nil, List.cons_append, List.nil_append, List.replicate_succ, List.replicate_zero, List.length_cons, List.length_nil, List.getElem?_cons_zero, List.getElem?_cons_succ, reduceIte, if_true, if_false, Bool.false_eq_true, arN_t, decide_true, decide_false, isNon, Bool.not_true, Bool.not_false, Bool.true_and, Bool.false_and, Bool.and_true, Bool.and_false, bYes_e, lstMax_e, Nat.reduceAdd, Nat.reduceSub, Nat.reduceLeDiff, Int.reduceLT, Int.reduceLE, Int.reduceEq, String.reduceEq, and_self, decide_eq_true_eq, and_true, true_and, cPos_e, cDiv_e, fMod_i, fDiv_i, Int.reduceMod, Int.reduceDiv, Int.reduceSub, Int.reduceAdd, Int.reducePow, kOf_i, fsOf_i, fOwn_k, fOwn1_k, gFld_k, methO_e, methK_s, methA_s, ownK_s, ownK_n, ownK_m, own1K_s, own1K_n, fldK_s, sApp_e, appK_s, sOSub_e, osubK_s, eOIx_e, oixK_s, eOLen_e, olenK_s, ixN_p, Int.reduceToNat, Nat.reduceLT, oS_e, eSl_e, eSlT_e, kSet_e, kSet2_e, kDrop_e, kIf_t, kIf_f, kOwn_e, kApp_e, kOsub1_e, kOsub2_e, osK_s, kOix_e, ixK_s, kFor_e, kUnp_e, unpK_s, kOp1_e, kOp2_e, kUn_e, kC1_e, kC2_e, kA1_e, kA2_e, kFN_e, kCall_e, kMake_e, kCM_e, kMeth_e, kLst_e, lstK_s, kTup_e, tupK_s, kNl_e, nlK_s, nList_e, kNli_e, nliK_s, lOf_l, lOf_t, kNc1_e, kNc2_e, kLc1_e, kLc2_e, kSeq_e, kTpl_e, kEIf_t, kEIf_f, kEAnd_t, kEAnd_f, kEOr_t, kEOr_f, kENot_e, kB_e, kBAnd_t, kBAnd_f, kBOr_t, kBOr_f, kBNot_e, kOS_e, kSl1_e, kSl2_e, kSl3_e, kSt1_e, kSt2_e, kSt3_e, eMeth_e, kMe_e, lc_c, kL1_e, kL2_e, kT_t, kT_f, Int.cast_ofNat_Int, Int.natCast_zero, Int.natCast_one, lRng1_e, kRng_1, kRng_2, kRng_3, kRng_4, kRng_5, kRng_6, List.length_map, arS_0, sEr_e, sTryAs_e, tryK_nx, tryK_rt, tryK_er, afterO_rt, afterO_nx, eXf_e, xfS_s, xfK_s, plain_n, plain_e, List.all_cons, List.all_nil, eq_self, sTryN_e, tryN_nx, tryN_rt, tryN_h, tryN_t, dflI_e, dflF_e, not_false_eq_true, eMethK_e, kMK_e, kMK2_e, eProp_e, kPr_e, eNotO_e, kNotO_e, notK_s, eSlA_e, kSA1_e, kSA2_e, kSA3_l, kSA3_t, eGetO_e, kGet1_e, kGet2_e, getK_s, g_Sheet___eq__, m_Sheet___eq__, fIsi, i, f, k, f', k', d1]
@[reducible] noncomputable def rE : F2 := alt2 (fEq) (fEqO NT_Sheet "Sheet" (arN 2) g_Sheet___eq__)
theorem rq_sheet {w h n w' h' n' : Nat} (m m' : Bool) (hw : 1 ≤ w) (hh : 1 ≤ h) (G : GS) : rE (.d (sheetD w h n m)) (.d (sheetD w' h' n' m')) G = some (.d (.bl (seqB w h n m w' h' n' m')), G) := by
  have e1 : fEq (.d (sheetD w h n m)) (.d (sheetD w' h' n' m')) G = none := rfl
  have e2 : fEqO NT_Sheet "Sheet" (arN 2) g_Sheet___eq__ (.d (sheetD w h n m)) (.d (sheetD w' h' n' m')) G = resB (toOpt (g_Sheet___eq__ [.d (sheetD w h n m), .d (sheetD w' h' n' m')] G)) := by kernel_rfl
  unfold rE
  rw [alt2_e, e1, orE_n, e2, sheq_ok m m' hw hh]
  rfl
theorem rq_int (w h n : Nat) (m : Bool) (i : Int) (G : GS) : rE (.d (sheetD w h n m)) (.d (.int i)) G = some (.d (.bl false), G) := by
  have f : ∀ (l : List DL.D) (i : Int), rE (.d (.ins "Sheet" l)) (.d (.int i)) G = some (.d (.bl false), G) := fun l i => by kernel_rfl
  exact f _ _
end K61
set_option Elab.async false
set_option linter.all false
set_option maxRecDepth 100000
set_option maxHeartbeats 4000000
namespace K61
open PySem DL
def r5 : SM := sSeq (sTryAs 14 "UnknownPlace" (sDrop (eMeth [("Sheet", ((arN 3 : DL.Ar), g_Sheet_at))] (eVar 6) (aCons (eOp fIx (eVar 13) (eC (.int 0))) (aCons (eOp fIx (eVar 13) (eC (.int 1))) (aNil))))) (sRet (eAnd (eCall (arN 2) g__law_int (aCons (eXf 14 "UnknownPlace" 1) (aCons (eOp fIx (eVar 13) (eC (.int 0))) (aNil)))) (eCall (arN 2) g__law_int (aCons (eXf 14 "UnknownPlace" 0) (aCons (eOp fIx (eVar 13) (eC (.int 1))) (aNil))))))) (sRet (eC (.bl false)))
def r4 : SM := sSeq (sSet 12 (eCall (arN 2) g__law_draw (aCons (eVar 1) (aCons (eOp (fPow) (eC (.int 10)) (eC (.int 20))) (aNil))))) (sSeq (sSet 13 (eOp fIx (eLst (aCons (eTup (aCons (eUn fNeg (eC (.int 1))) (aCons (eC (.int 0)) (aNil)))) (aCons (eTup (aCons (eC (.int 0)) (aCons (eUn fNeg (eC (.int 1))) (aNil)))) (aCons (eTup (aCons (eVar 2) (aCons (eC (.int 0)) (aNil)))) (aCons (eTup (aCons (eC (.int 0)) (aCons (eVar 3) (aNil)))) (aCons (eTup (aCons (eOp (fAdd) (eVar 2) (eVar 12)) (aCons (eC (.int 0)) (aNil)))) (aCons (eTup (aCons (eC (.int 0)) (aCons (eOp (fSub) (eUn fNeg (eC (.int 1))) (eVar 12)) (aNil)))) (aNil)))))))) (eCall (arN 2) g__law_draw (aCons (eVar 1) (aCons (eC (.int 6)) (aNil)))))) (r5))
noncomputable def r3 : SM := sSeq (sSet 9 (eMake "Sheet" (arN 4) g_Sheet___init___for_Sheet (aApp 3 1 (aCons (eOp fIx (eVar 7) (eC (.int 0))) (aCons (eOp fIx (eVar 7) (eC (.int 1))) (aCons (eCMeth "Light" (arN 2) g_Light_numbered (aCons (eOp fIx (eVar 7) (eC (.int 2))) (aNil))) (aNil)))) (aCons (eOp fIx (eVar 7) (eC (.int 3))) (aNil))))) (sSeq (sSet 10 (eOp (alt2 (fEq) (fEqO NT_Sheet "Sheet" (arN 2) g_Sheet___eq__)) (eVar 7) (eLst (aCons (eVar 2) (aCons (eVar 3) (aCons (eVar 4) (aCons (eOp (alt2 (fEq) (fEqO NT_Sheet "Sheet" (arN 2) g_Sheet___eq__)) (eVar 5) (eC (.int 2))) (aNil)))))))) (sSeq (sIf (bOr (bNot (bOf truE (eCall (arN 2) g__law_is (aCons (eOp (alt2 (fEq) (fEqO NT_Sheet "Sheet" (arN 2) g_Sheet___eq__)) (eVar 6) (eVar 9)) (aCons (eVar 10) (aNil)))))) (bOr (bNot (bOf truE (eCall (arN 2) g__law_is (aCons (eOp (alt2 (fEq) (fEqO NT_Sheet "Sheet" (arN 2) g_Sheet___eq__)) (eVar 9) (eVar 6)) (aCons (eVar 10) (aNil)))))) (bOf isB (eOp (fIsNotB) (eOp (alt2 (fEq) (fEqO NT_Sheet "Sheet" (arN 2) g_Sheet___eq__)) (eVar 6) (eVar 4)) (eC (.bl false)))))) (sRet (eC (.bl false))) (sNil)) (sSeq (sSet 11 (eMake "Sheet" (arN 4) g_Sheet___init___for_Sheet (aApp 3 1 (aCons (eVar 3) (aCons (eVar 2) (aCons (eCMeth "Light" (arN 2) g_Light_numbered (aCons (eVar 4) (aNil))) (aNil)))) (aCons (eOp (alt2 (fEq) (fEqO NT_Sheet "Sheet" (arN 2) g_Sheet___eq__)) (eVar 5) (eC (.int 2))) (aNil))))) (sSeq (sIf (bOr (bNot (bOf truE (eCall (arN 2) g__law_is (aCons (eOp (alt2 (fEq) (fEqO NT_Sheet "Sheet" (arN 2) g_Sheet___eq__)) (eVar 6) (eVar 11)) (aCons (eOp (alt2 (fEq) (fEqO NT_Sheet "Sheet" (arN 2) g_Sheet___eq__)) (eVar 2) (eVar 3)) (aNil)))))) (bNot (bOf truE (eCall (arN 2) g__law_is (aCons (eOp (alt2 (fEq) (fEqO NT_Sheet "Sheet" (arN 2) g_Sheet___eq__)) (eVar 11) (eVar 6)) (aCons (eOp (alt2 (fEq) (fEqO NT_Sheet "Sheet" (arN 2) g_Sheet___eq__)) (eVar 2) (eVar 3)) (aNil))))))) (sRet (eC (.bl false))) (sNil)) (r4)))))
noncomputable def r2 : SM := sSeq (sOwn 7 (nLst (aCons (eVar 2) (aCons (eVar 3) (aCons (eVar 4) (aCons (eOp (alt2 (fEq) (fEqO NT_Sheet "Sheet" (arN 2) g_Sheet___eq__)) (eVar 5) (eC (.int 2))) (aNil))))))) (sSeq (sSet 8 (eCall (arN 2) g__law_draw (aCons (eVar 1) (aCons (eC (.int 5)) (aNil))))) (sSeq (sIf (bOf isB (eOp (fLt) (eVar 8) (eC (.int 2)))) (sOSub 7 (eVar 8) (eOp (fAdd) (eOIx 7 (eVar 8)) (eC (.int 1)))) (sNil)) (sSeq (sIf (bOf isB (eOp (alt2 (fEq) (fEqO NT_Sheet "Sheet" (arN 2) g_Sheet___eq__)) (eVar 8) (eC (.int 2)))) (sOSub 7 (eC (.int 2)) (eCall (arN 2) g__law_draw (aCons (eVar 1) (aCons (eC (.int 64)) (aNil))))) (sNil)) (sSeq (sIf (bOf isB (eOp (alt2 (fEq) (fEqO NT_Sheet "Sheet" (arN 2) g_Sheet___eq__)) (eVar 8) (eC (.int 3)))) (sOSub 7 (eC (.int 3)) (eNot (eOIx 7 (eC (.int 3))))) (sNil)) (sFrz 7 (r3))))))
noncomputable def r1 : SM := sSeq (sSet 6 (eMake "Sheet" (arN 3) (dflI [.bl false] g_Sheet___init___for_Sheet) (aCons (eVar 2) (aCons (eVar 3) (aCons (eCMeth "Light" (arN 2) g_Light_numbered (aCons (eVar 4) (aNil))) (aNil)))))) (sSeq (sIf (bOf isB (eOp (fGt) (eVar 5) (eC (.int 0)))) (sSet 6 (eMake "Sheet" (arN 4) g_Sheet___init___for_Sheet (aApp 3 1 (aCons (eVar 2) (aCons (eVar 3) (aCons (eCMeth "Light" (arN 2) g_Light_numbered (aCons (eVar 4) (aNil))) (aNil)))) (aCons (eOp (alt2 (fEq) (fEqO NT_Sheet "Sheet" (arN 2) g_Sheet___eq__)) (eVar 5) (eC (.int 2))) (aNil))))) (sNil)) (sSeq (sIf (bNot (bOf truE (eCall (arN 2) g__law_same_sheet (aCons (eVar 6) (aCons (eCall (arN 4) g__law_grid (aCons (eVar 2) (aCons (eVar 3) (aCons (eVar 4) (aCons (eOp (alt2 (fEq) (fEqO NT_Sheet "Sheet" (arN 2) g_Sheet___eq__)) (eVar 5) (eC (.int 2))) (aNil)))))) (aNil)))))) (sRet (eC (.bl false))) (sNil)) (r2)))
def EnA (z : EV) (W H N : Nat) (way : Int) (s6 s7 s8 s9 s10 s11 s12 s13 : Sl) : En := [.ev z, .ev (.o 1), .ev (.d (.int (W : Nat))), .ev (.d (.int (H : Nat))), .ev (.d (.int (N : Nat))), .ev (.d (.int way)), s6, s7, s8, s9, s10, s11, s12, s13, .no]
theorem lint_gen (a b : Int) (G : GS) : g__law_int [.d (.int a), .d (.int b)] G = .ok (.d (.bl (decide (a = b)))) G := by
  have e : gIsi TB [.int a, .ty "int"] = some (.bl true) := rfl
  have e2 : gIsi TB [.int a, .ty "bool"] = some (.bl false) := rfl
  simp -implicitDefEqProofs only [bind_ok, bind_er, bindN_ok, ofE_ok, ofE_er, seqO_nx, seqO_rt, seqO_er, seqO_bk, seqO_ct, loopO_nx, loopO_ct, loopO_bk, loopO_rt, loopO_er, lift_s, retO_rt, retO_nx, retO_er, mkO_ok, mkO_er, toOpt_ok, eVar_z, eVar_s, oL_z, oL_s, frz_z, frz_s, wipe_n, wipe_c, datas_n, datas_c, map_s, bind_s, setA_n, setA_c, p2_d, p1_d, pN_d, fEq_i, fEq_s, fEq_b, fEq_ii, fNe_i, fNe_s, fNe_b, fSub_i, fAdd_i, fAnd_i, fOr_i, fXor_i, fLt_i, fLe_i, fGt_i, fGe_i, fIs_d, fIsNot_d, fIsB_b, isB_b, tru_b, tru_i, tru_l, tru_t, orE_s, orE_n, alt2_e, alt1_e, altN_e, fIx_l, fIx_t, at_0, at_1, at_2, at_3, at_4, at_5, for_n, for_c, lc_n, len_lst, len_tup, kfn_c, kix_c, sSeq_e, sNil_e, sSet_e, sSet2_e, sRet_e, sRetN_e, sDrop_e, sIf_e, sBk_e, sCt_e, sFrz_e, sOwn_e, sFor_e, sUnp_e, eC_e, eOp_e, eUn_e, aNil_e, aCons_e, aApp_e, eFN_e, eCall_e, eMake_e, eCMeth_e, eCallO_e, eLst_e, eTup_e, nLst_e, nLc_e, eLc_e, lSeq_e, lTup_e, eIf_e, eAnd_e, eOr_e, eNot_e, bOf_e, bAnd_e, bOr_e, bNot_e, eFld_e, runB_e, env0_e, oN_e, List.set_cons_zero, List.set_cons_succ, List.map_cons, List.map_nil, List.cons_append, List.nil_append, List.replicate_succ, List.replicate_zero, List.length_cons, List.length_nil, List.getElem?_cons_zero, List.getElem?_cons_succ, reduceIte, if_true, if_false, Bool.false_eq_true, arN_t, decide_true, decide_false, isNon, Bool.not_true, Bool.not_false, Bool.true_and, Bool.false_and, Bool.and_true, Bool.and_false, bYes_e, lstMax_e, Nat.reduceAdd, Nat.reduceSub, Nat.reduceLeDiff, Int.reduceLT, Int.reduceLE, Int.reduceEq, String.reduceEq, and_self, decide_eq_true_eq, and_true, true_and, cPos_e, cDiv_e, fMod_i, fDiv_i, Int.reduceMod, Int.reduceDiv, Int.reduceSub, Int.reduceAdd, Int.reducePow, kOf_i, fsOf_i, fOwn_k, fOwn1_k, gFld_k, methO_e, methK_s, methA_s, ownK_s, ownK_n, ownK_m, own1K_s, own1K_n, fldK_s, sApp_e, appK_s, sOSub_e, osubK_s, eOIx_e, oixK_s, eOLen_e, olenK_s, ixN_p, Int.reduceToNat, Nat.reduceLT, oS_e, eSl_e, eSlT_e, kSet_e, kSet2_e, kDrop_e, kIf_t, kIf_f, kOwn_e, kApp_e, kOsub1_e, kOsub2_e, osK_s, kOix_e, ixK_s, kFor_e, kUnp_e, unpK_s, kOp1_e, kOp2_e, kUn_e, kC1_e, kC2_e, kA1_e, kA2_e, kFN_e, kCall_e, kMake_e, kCM_e, kMeth_e, kLst_e, lstK_s, kTup_e, tupK_s, kNl_e, nlK_s, nList_e, kNli_e, nliK_s, lOf_l, lOf_t, kNc1_e, kNc2_e, kLc1_e, kLc2_e, kSeq_e, kTpl_e, kEIf_t, kEIf_f, kEAnd_t, kEAnd_f, kEOr_t, kEOr_f, kENot_e, kB_e, kBAnd_t, kBAnd_f, kBOr_t, kBOr_f, kBNot_e, kOS_e, kSl1_e, kSl2_e, kSl3_e, kSt1_e, kSt2_e, kSt3_e, eMeth_e, kMe_e, lc_c, kL1_e, kL2_e, kT_t, kT_f, Int.cast_ofNat_Int, Int.natCast_zero, Int.natCast_one, lRng1_e, kRng_1, kRng_2, kRng_3, kRng_4, kRng_5, kRng_6, List.length_map, arS_0, sEr_e, sTryAs_e, tryK_nx, tryK_rt, tryK_er, afterO_rt, afterO_nx, eXf_e, xfS_s, xfK_s, plain_n, plain_e, List.all_cons, List.all_nil, eq_self, sTryN_e, tryN_nx, tryN_rt, tryN_h, tryN_t, dflI_e, dflF_e, not_false_eq_true, eMethK_e, kMK_e, kMK2_e, eProp_e, kPr_e, eNotO_e, kNotO_e, notK_s, eSlA_e, kSA1_e, kSA2_e, kSA3_l, kSA3_t, eGetO_e, kGet1_e, kGet2_e, getK_s, g__law_int, m__law_int, fIsi, e, e2]
theorem okI_big {i : Int} (h : i.natAbs < 2 ^ 200) : okI (.int i) = true := by
  show decide (i.natAbs.log2 < 1920) = true
  refine decide_eq_true ?_
  by_cases z : i.natAbs = 0
  · rw [z]; decide
  · exact Nat.lt_of_lt_of_le ((Nat.log2_lt z).mpr h) (by decide)
theorem r5_ok {W H N : Nat} {m : Bool} (z : EV) (way : Int) (s7 s8 s9 s10 s11 s12 : Sl) (h7 : plainS s7 = true) (h8 : plainS s8 = true) (h9 : plainS s9 = true) (h10 : plainS s10 = true) (h11 : plainS s11 = true) (h12 : plainS s12 = true) {x y : Int} (hb : x < 0 ∨ (W : Int) ≤ x ∨ y < 0 ∨ (H : Int) ≤ y) (hx : x.natAbs < 2 ^ 200) (hy : y.natAbs < 2 ^ 200) (G : GS) :
    r5 (EnA z W H N way (.ev (.d (sheetD W H N m))) s7 s8 s9 s10 s11 s12 (.ev (.d (.tup [.int x, .int y])))) G = .rt (.d (.bl true)) G := by
  have e := shat_er (n := N) m hb (okI_big hx) (okI_big hy) G
  have k := sheet_k W H N m
  have i1 := lint_gen x x G
  have i2 := lint_gen y y G
  rw [decide_eq_true rfl] at i1 i2
  unfold EnA
  simp -implicitDefEqProofs only [bind_ok, bind_er, bindN_ok, ofE_ok, ofE_er, seqO_nx, seqO_rt, seqO_er, seqO_bk, seqO_ct, loopO_nx, loopO_ct, loopO_bk, loopO_rt, loopO_er, lift_s, retO_rt, retO_nx, retO_er, mkO_ok, mkO_er, toOpt_ok, eVar_z, eVar_s, oL_z, oL_s, frz_z, frz_s, wipe_n, wipe_c, datas_n, datas_c, map_s, bind_s, setA_n, setA_c, p2_d, p1_d, pN_d, fEq_i, fEq_s, fEq_b, fEq_ii, fNe_i, fNe_s, fNe_b, fSub_i, fAdd_i, fAnd_i, fOr_i, fXor_i, fLt_i, fLe_i, fGt_i, fGe_i, fIs_d, fIsNot_d, fIsB_b, isB_b, tru_b, tru_i, tru_l, tru_t, orE_s, orE_n, alt2_e, alt1_e, altN_e, fIx_l, fIx_t, at_0, at_1, at_2, at_3, at_4, at_5, for_n, for_c, lc_n, len_lst, len_tup, kfn_c, kix_c, sSeq_e, sNil_e, sSet_e, sSet2_e, sRet_e, sRetN_e, sDrop_e, sIf_e, sBk_e, sCt_e, sFrz_e, sOwn_e, sFor_e, sUnp_e, eC_e, eOp_e, eUn_e, aNil_e, aCons_e, aApp_e, eFN_e, eCall_e, eMake_e, eCMeth_e, eCallO_e, eLst_e, eTup_e, nLst_e, nLc_e, eLc_e, lSeq_e, lTup_e, eIf_e, eAnd_e, eOr_e, eNot_e, bOf_e, bAnd_e, bOr_e, bNot_e, eFld_e, runB_e, env0_e, oN_e, List.set_cons_zero, List.set_cons_succ, List.map_cons, List.map_nil, List.cons_append, List.nil_append, List.replicate_succ, List.replicate_zero, List.length_cons, List.length_nil, List.getElem?_cons_zero, List.getElem?_cons_succ, reduceIte, if_true, if_false, Bool.false_eq_true, arN_t, decide_true, decide_false, isNon, Bool.not_true, Bool.not_false, Bool.true_and, Bool.false_and, Bool.and_true, Bool.and_false, bYes_e, lstMax_e, Nat.reduceAdd, Nat.reduceSub, Nat.reduceLeDiff, Int.reduceLT, Int.reduceLE, Int.reduceEq, String.reduceEq, and_self, decide_eq_true_eq, and_true, true_and, cPos_e, cDiv_e, fMod_i, fDiv_i, Int.reduceMod, Int.reduceDiv, Int.reduceSub, Int.reduceAdd, Int.reducePow, kOf_i, fsOf_i, fOwn_k, fOwn1_k, gFld_k, methO_e, methK_s, methA_s, ownK_s, ownK_n, ownK_m, own1K_s, own1K_n, fldK_s, sApp_e, appK_s, sOSub_e, osubK_s, eOIx_e, oixK_s, eOLen_e, olenK_s, ixN_p, Int.reduceToNat, Nat.reduceLT, oS_e, eSl_e, eSlT_e, kSet_e, kSet2_e, kDrop_e, kIf_t, kIf_f, kOwn_e, kApp_e, kOsub1_e, kOsub2_e, osK_s, kOix_e, ixK_s, kFor_e, kUnp_e, unpK_s, kOp1_e, kOp2_e, kUn_e, kC1_e, kC2_e, kA1_e, kA2_e, kFN_e, kCall_e, kMake_e, kCM_e, kMeth_e, kLst_e, lstK_s, kTup_e, tupK_s, kNl_e, nlK_s, nList_e, kNli_e, nliK_s, lOf_l, lOf_t, kNc1_e, kNc2_e, kLc1_e, kLc2_e, kSeq_e, kTpl_e, kEIf_t, kEIf_f, kEAnd_t, kEAnd_f, kEOr_t, kEOr_f, kENot_e, kB_e, kBAnd_t, kBAnd_f, kBOr_t, kBOr_f, kBNot_e, kOS_e, kSl1_e, kSl2_e, kSl3_e, kSt1_e, kSt2_e, kSt3_e, eMeth_e, kMe_e, lc_c, kL1_e, kL2_e, kT_t, kT_f, Int.cast_ofNat_Int, Int.natCast_zero, Int.natCast_one, lRng1_e, kRng_1, kRng_2, kRng_3, kRng_4, kRng_5, kRng_6, List.length_map, arS_0, sEr_e, sTryAs_e, tryK_nx, tryK_rt, tryK_er, afterO_rt, afterO_nx, eXf_e, xfS_s, xfK_s, plain_n, plain_e, List.all_cons, List.all_nil, eq_self, sTryN_e, tryN_nx, tryN_rt, tryN_h, tryN_t, dflI_e, dflF_e, not_false_eq_true, eMethK_e, kMK_e, kMK2_e, eProp_e, kPr_e, eNotO_e, kNotO_e, notK_s, eSlA_e, kSA1_e, kSA2_e, kSA3_l, kSA3_t, eGetO_e, kGet1_e, kGet2_e, getK_s, r5, k, e, h7, h8, h9, h10, h11, h12, i1, i2]
theorem r4_ok {W H N : Nat} {m : Bool} (hW : W ≤ 1000) (hH : H ≤ 1000) (z : EV) (way : Int) (s7 s8 s9 s10 s11 : Sl) (h7 : plainS s7 = true) (h8 : plainS s8 = true) (h9 : plainS s9 = true) (h10 : plainS s10 = true) (h11 : plainS s11 = true) (b : Bx) :
    ∃ G', r4 (EnA z W H N way (.ev (.d (sheetD W H N m))) s7 s8 s9 s10 s11 .no .no) (bS b) = .rt (.d (.bl true)) G' := by
  obtain ⟨far, b1, e1, hf⟩ := draw_b b (10 ^ 20) (by decide) (by decide)
  obtain ⟨v, b2, e2, hv⟩ := draw_s b1 6 (by decide) (by decide)
  have fin : ∀ (x y : Int), (x < 0 ∨ (W : Int) ≤ x ∨ y < 0 ∨ (H : Int) ≤ y) → x.natAbs < 2 ^ 200 → y.natAbs < 2 ^ 200 → _ := fun x y hb hx hy => r5_ok (m := m) (N := N) z way s7 s8 s9 s10 s11 (.ev (.d (.int (far : Nat)))) h7 h8 h9 h10 h11 rfl hb hx hy (bS b2)
  unfold EnA at fin
  have e20 : (10 : Int) ^ 20 = 100000000000000000000 := by decide
  rw [e20] at e1 hf
  have pw : fPow (.d (.int 10)) (.d (.int 20)) (bS b) = some (.d (.int 100000000000000000000), bS b) := by kernel_rfl
  have ng1 : ∀ G, fNeg (.d (.int 1)) G = some (.d (.int (-1)), G) := fun _ => rfl
  have big : (2 : Nat) ^ 200 > 100000000000000000000 + 1000 := by decide
  have v6 : v = 0 ∨ v = 1 ∨ v = 2 ∨ v = 3 ∨ v = 4 ∨ v = 5 := by omega
  refine ⟨bS b2, ?_⟩
  unfold EnA
  rcases v6 with rfl | rfl | rfl | rfl | rfl | rfl
  · have fn := fin (-1) 0 (by omega) (by decide) (by decide)
    simp -implicitDefEqProofs only [bind_ok, bind_er, bindN_ok, ofE_ok, ofE_er, seqO_nx, seqO_rt, seqO_er, seqO_bk, seqO_ct, loopO_nx, loopO_ct, loopO_bk, loopO_rt, loopO_er, lift_s, retO_rt, retO_nx, retO_er, mkO_ok, mkO_er, toOpt_ok, eVar_z, eVar_s, oL_z, oL_s, frz_z, frz_s, wipe_n, wipe_c, datas_n, datas_c, map_s, bind_s, setA_n, setA_c, p2_d, p1_d, pN_d, fEq_i, fEq_s, fEq_b, fEq_ii, fNe_i, fNe_s, fNe_b, fSub_i, fAdd_i, fAnd_i, fOr_i, fXor_i, fLt_i, fLe_i, fGt_i, fGe_i, fIs_d, fIsNot_d, fIsB_b, isB_b, tru_b, tru_i, tru_l, tru_t, orE_s, orE_n, alt2_e, alt1_e, altN_e, fIx_l, fIx_t, at_0, at_1, at_2, at_3, at_4, at_5, for_n, for_c, lc_n, len_lst, len_tup, kfn_c, kix_c, sSeq_e, sNil_e, sSet_e, sSet2_e, sRet_e, sRetN_e, sDrop_e, sIf_e, sBk_e, sCt_e, sFrz_e, sOwn_e, sFor_e, sUnp_e, eC_e, eOp_e, eUn_e, aNil_e, aCons_e, aApp_e, eFN_e, eCall_e, eMake_e, eCMeth_e, eCallO_e, eLst_e, eTup_e, nLst_e, nLc_e, eLc_e, lSeq_e, lTup_e, eIf_e, eAnd_e, eOr_e, eNot_e, bOf_e, bAnd_e, bOr_e, bNot_e, eFld_e, runB_e, env0_e, oN_e, List.set_cons_zero, List.set_cons_succ, List.map_cons, List.map_nil, List.cons_append, List.nil_append, List.replicate_succ, List.replicate_zero, List.length_cons, List.length_nil, List.getElem?_cons_zero, List.getElem?_cons_succ, reduceIte, if_true, if_false, Bool.false_eq_true, arN_t, decide_true, decide_false, isNon, Bool.not_true, Bool.not_false, Bool.true_and, Bool.false_and, Bool.and_true, Bool.and_false, bYes_e, lstMax_e, Nat.reduceAdd, Nat.reduceSub, Nat.reduceLeDiff, Int.reduceLT, Int.reduceLE, Int.reduceEq, String.reduceEq, and_self, decide_eq_true_eq, and_true, true_and, cPos_e, cDiv_e, fMod_i, fDiv_i, Int.reduceMod, Int.reduceDiv, Int.reduceSub, Int.reduceAdd, Int.reducePow, kOf_i, fsOf_i, fOwn_k, fOwn1_k, gFld_k, methO_e, methK_s, methA_s, ownK_s, ownK_n, ownK_m, own1K_s, own1K_n, fldK_s, sApp_e, appK_s, sOSub_e, osubK_s, eOIx_e, oixK_s, eOLen_e, olenK_s, ixN_p, Int.reduceToNat, Nat.reduceLT, oS_e, eSl_e, eSlT_e, kSet_e, kSet2_e, kDrop_e, kIf_t, kIf_f, kOwn_e, kApp_e, kOsub1_e, kOsub2_e, osK_s, kOix_e, ixK_s, kFor_e, kUnp_e, unpK_s, kOp1_e, kOp2_e, kUn_e, kC1_e, kC2_e, kA1_e, kA2_e, kFN_e, kCall_e, kMake_e, kCM_e, kMeth_e, kLst_e, lstK_s, kTup_e, tupK_s, kNl_e, nlK_s, nList_e, kNli_e, nliK_s, lOf_l, lOf_t, kNc1_e, kNc2_e, kLc1_e, kLc2_e, kSeq_e, kTpl_e, kEIf_t, kEIf_f, kEAnd_t, kEAnd_f, kEOr_t, kEOr_f, kENot_e, kB_e, kBAnd_t, kBAnd_f, kBOr_t, kBOr_f, kBNot_e, kOS_e, kSl1_e, kSl2_e, kSl3_e, kSt1_e, kSt2_e, kSt3_e, eMeth_e, kMe_e, lc_c, kL1_e, kL2_e, kT_t, kT_f, Int.cast_ofNat_Int, Int.natCast_zero, Int.natCast_one, lRng1_e, kRng_1, kRng_2, kRng_3, kRng_4, kRng_5, kRng_6, List.length_map, arS_0, sEr_e, sTryAs_e, tryK_nx, tryK_rt, tryK_er, afterO_rt, afterO_nx, eXf_e, xfS_s, xfK_s, plain_n, plain_e, List.all_cons, List.all_nil, eq_self, sTryN_e, tryN_nx, tryN_rt, tryN_h, tryN_t, dflI_e, dflF_e, not_false_eq_true, eMethK_e, kMK_e, kMK2_e, eProp_e, kPr_e, eNotO_e, kNotO_e, notK_s, eSlA_e, kSA1_e, kSA2_e, kSA3_l, kSA3_t, eGetO_e, kGet1_e, kGet2_e, getK_s, r4, e1, e2, pw, ng1, ↓fn]
  · have fn := fin 0 (-1) (by omega) (by decide) (by decide)
    simp -implicitDefEqProofs only [bind_ok, bind_er, bindN_ok, ofE_ok, ofE_er, seqO_nx, seqO_rt, seqO_er, seqO_bk, seqO_ct, loopO_nx, loopO_ct, loopO_bk, loopO_rt, loopO_er, lift_s, retO_rt, retO_nx, retO_er, mkO_ok, mkO_er, toOpt_ok, eVar_z, eVar_s, oL_z, oL_s, frz_z, frz_s, wipe_n, wipe_c, datas_n, datas_c, map_s, bind_s, setA_n, setA_c, p2_d, p1_d, pN_d, fEq_i, fEq_s, fEq_b, fEq_ii, fNe_i, fNe_s, fNe_b, fSub_i, fAdd_i, fAnd_i, fOr_i, fXor_i, fLt_i, fLe_i, fGt_i, fGe_i, fIs_d, fIsNot_d, fIsB_b, isB_b, tru_b, tru_i, tru_l, tru_t, orE_s, orE_n, alt2_e, alt1_e, altN_e, fIx_l, fIx_t, at_0, at_1, at_2, at_3, at_4, at_5, for_n, for_c, lc_n, len_lst, len_tup, kfn_c, kix_c, sSeq_e, sNil_e, sSet_e, sSet2_e, sRet_e, sRetN_e, sDrop_e, sIf_e, sBk_e, sCt_e, sFrz_e, sOwn_e, sFor_e, sUnp_e, eC_e, eOp_e, eUn_e, aNil_e, aCons_e, aApp_e, eFN_e, eCall_e, eMake_e, eCMeth_e, eCallO_e, eLst_e, eTup_e, nLst_e, nLc_e, eLc_e, lSeq_e, lTup_e, eIf_e, eAnd_e, eOr_e, eNot_e, bOf_e, bAnd_e, bOr_e, bNot_e, eFld_e, runB_e, env0_e, oN_e, List.set_cons_zero, List.set_cons_succ, List.map_cons, List.map_nil, List.cons_append, List.nil_append, List.replicate_succ, List.replicate_zero, List.length_cons, List.length_nil, List.getElem?_cons_zero, List.getElem?_cons_succ, reduceIte, if_true, if_false, Bool.false_eq_true, arN_t, decide_true, decide_false, isNon, Bool.not_true, Bool.not_false, Bool.true_and, Bool.false_and, Bool.and_true, Bool.and_false, bYes_e, lstMax_e, Nat.reduceAdd, Nat.reduceSub, Nat.reduceLeDiff, Int.reduceLT, Int.reduceLE, Int.reduceEq, String.reduceEq, and_self, decide_eq_true_eq, and_true, true_and, cPos_e, cDiv_e, fMod_i, fDiv_i, Int.reduceMod, Int.reduceDiv, Int.reduceSub, Int.reduceAdd, Int.reducePow, kOf_i, fsOf_i, fOwn_k, fOwn1_k, gFld_k, methO_e, methK_s, methA_s, ownK_s, ownK_n, ownK_m, own1K_s, own1K_n, fldK_s, sApp_e, appK_s, sOSub_e, osubK_s, eOIx_e, oixK_s, eOLen_e, olenK_s, ixN_p, Int.reduceToNat, Nat.reduceLT, oS_e, eSl_e, eSlT_e, kSet_e, kSet2_e, kDrop_e, kIf_t, kIf_f, kOwn_e, kApp_e, kOsub1_e, kOsub2_e, osK_s, kOix_e, ixK_s, kFor_e, kUnp_e, unpK_s, kOp1_e, kOp2_e, kUn_e, kC1_e, kC2_e, kA1_e, kA2_e, kFN_e, kCall_e, kMake_e, kCM_e, kMeth_e, kLst_e, lstK_s, kTup_e, tupK_s, kNl_e, nlK_s, nList_e, kNli_e, nliK_s, lOf_l, lOf_t, kNc1_e, kNc2_e, kLc1_e, kLc2_e, kSeq_e, kTpl_e, kEIf_t, kEIf_f, kEAnd_t, kEAnd_f, kEOr_t, kEOr_f, kENot_e, kB_e, kBAnd_t, kBAnd_f, kBOr_t, kBOr_f, kBNot_e, kOS_e, kSl1_e, kSl2_e, kSl3_e, kSt1_e, kSt2_e, kSt3_e, eMeth_e, kMe_e, lc_c, kL1_e, kL2_e, kT_t, kT_f, Int.cast_ofNat_Int, Int.natCast_zero, Int.natCast_one, lRng1_e, kRng_1, kRng_2, kRng_3, kRng_4, kRng_5, kRng_6, List.length_map, arS_0, sEr_e, sTryAs_e, tryK_nx, tryK_rt, tryK_er, afterO_rt, afterO_nx, eXf_e, xfS_s, xfK_s, plain_n, plain_e, List.all_cons, List.all_nil, eq_self, sTryN_e, tryN_nx, tryN_rt, tryN_h, tryN_t, dflI_e, dflF_e, not_false_eq_true, eMethK_e, kMK_e, kMK2_e, eProp_e, kPr_e, eNotO_e, kNotO_e, notK_s, eSlA_e, kSA1_e, kSA2_e, kSA3_l, kSA3_t, eGetO_e, kGet1_e, kGet2_e, getK_s, r4, e1, e2, pw, ng1, ↓fn]
  · have fn := fin (W : Nat) 0 (by omega) (by omega) (by decide)
    simp -implicitDefEqProofs only [bind_ok, bind_er, bindN_ok, ofE_ok, ofE_er, seqO_nx, seqO_rt, seqO_er, seqO_bk, seqO_ct, loopO_nx, loopO_ct, loopO_bk, loopO_rt, loopO_er, lift_s, retO_rt, retO_nx, retO_er, mkO_ok, mkO_er, toOpt_ok, eVar_z, eVar_s, oL_z, oL_s, frz_z, frz_s, wipe_n, wipe_c, datas_n, datas_c, map_s, bind_s, setA_n, setA_c, p2_d, p1_d, pN_d, fEq_i, fEq_s, fEq_b, fEq_ii, fNe_i, fNe_s, fNe_b, fSub_i, fAdd_i, fAnd_i, fOr_i, fXor_i, fLt_i, fLe_i, fGt_i, fGe_i, fIs_d, fIsNot_d, fIsB_b, isB_b, tru_b, tru_i, tru_l, tru_t, orE_s, orE_n, alt2_e, alt1_e, altN_e, fIx_l, fIx_t, at_0, at_1, at_2, at_3, at_4, at_5, for_n, for_c, lc_n, len_lst, len_tup, kfn_c, kix_c, sSeq_e, sNil_e, sSet_e, sSet2_e, sRet_e, sRetN_e, sDrop_e, sIf_e, sBk_e, sCt_e, sFrz_e, sOwn_e, sFor_e, sUnp_e, eC_e, eOp_e, eUn_e, aNil_e, aCons_e, aApp_e, eFN_e, eCall_e, eMake_e, eCMeth_e, eCallO_e, eLst_e, eTup_e, nLst_e, nLc_e, eLc_e, lSeq_e, lTup_e, eIf_e, eAnd_e, eOr_e, eNot_e, bOf_e, bAnd_e, bOr_e, bNot_e, eFld_e, runB_e, env0_e, oN_e, List.set_cons_zero, List.set_cons_succ, List.map_cons, List.map_nil, List.cons_append, List.nil_append, List.replicate_succ, List.replicate_zero, List.length_cons, List.length_nil, List.getElem?_cons_zero, List.getElem?_cons_succ, reduceIte, if_true, if_false, Bool.false_eq_true, arN_t, decide_true, decide_false, isNon, Bool.not_true, Bool.not_false, Bool.true_and, Bool.false_and, Bool.and_true, Bool.and_false, bYes_e, lstMax_e, Nat.reduceAdd, Nat.reduceSub, Nat.reduceLeDiff, Int.reduceLT, Int.reduceLE, Int.reduceEq, String.reduceEq, and_self, decide_eq_true_eq, and_true, true_and, cPos_e, cDiv_e, fMod_i, fDiv_i, Int.reduceMod, Int.reduceDiv, Int.reduceSub, Int.reduceAdd, Int.reducePow, kOf_i, fsOf_i, fOwn_k, fOwn1_k, gFld_k, methO_e, methK_s, methA_s, ownK_s, ownK_n, ownK_m, own1K_s, own1K_n, fldK_s, sApp_e, appK_s, sOSub_e, osubK_s, eOIx_e, oixK_s, eOLen_e, olenK_s, ixN_p, Int.reduceToNat, Nat.reduceLT, oS_e, eSl_e, eSlT_e, kSet_e, kSet2_e, kDrop_e, kIf_t, kIf_f, kOwn_e, kApp_e, kOsub1_e, kOsub2_e, osK_s, kOix_e, ixK_s, kFor_e, kUnp_e, unpK_s, kOp1_e, kOp2_e, kUn_e, kC1_e, kC2_e, kA1_e, kA2_e, kFN_e, kCall_e, kMake_e, kCM_e, kMeth_e, kLst_e, lstK_s, kTup_e, tupK_s, kNl_e, nlK_s, nList_e, kNli_e, nliK_s, lOf_l, lOf_t, kNc1_e, kNc2_e, kLc1_e, kLc2_e, kSeq_e, kTpl_e, kEIf_t, kEIf_f, kEAnd_t, kEAnd_f, kEOr_t, kEOr_f, kENot_e, kB_e, kBAnd_t, kBAnd_f, kBOr_t, kBOr_f, kBNot_e, kOS_e, kSl1_e, kSl2_e, kSl3_e, kSt1_e, kSt2_e, kSt3_e, eMeth_e, kMe_e, lc_c, kL1_e, kL2_e, kT_t, kT_f, Int.cast_ofNat_Int, Int.natCast_zero, Int.natCast_one, lRng1_e, kRng_1, kRng_2, kRng_3, kRng_4, kRng_5, kRng_6, List.length_map, arS_0, sEr_e, sTryAs_e, tryK_nx, tryK_rt, tryK_er, afterO_rt, afterO_nx, eXf_e, xfS_s, xfK_s, plain_n, plain_e, List.all_cons, List.all_nil, eq_self, sTryN_e, tryN_nx, tryN_rt, tryN_h, tryN_t, dflI_e, dflF_e, not_false_eq_true, eMethK_e, kMK_e, kMK2_e, eProp_e, kPr_e, eNotO_e, kNotO_e, notK_s, eSlA_e, kSA1_e, kSA2_e, kSA3_l, kSA3_t, eGetO_e, kGet1_e, kGet2_e, getK_s, r4, e1, e2, pw, ng1, ↓fn]
  · have fn := fin 0 (H : Nat) (by omega) (by decide) (by omega)
    simp -implicitDefEqProofs only [bind_ok, bind_er, bindN_ok, ofE_ok, ofE_er, seqO_nx, seqO_rt, seqO_er, seqO_bk, seqO_ct, loopO_nx, loopO_ct, loopO_bk, loopO_rt, loopO_er, lift_s, retO_rt, retO_nx, retO_er, mkO_ok, mkO_er, toOpt_ok, eVar_z, eVar_s, oL_z, oL_s, frz_z, frz_s, wipe_n, wipe_c, datas_n, datas_c, map_s, bind_s, setA_n, setA_c, p2_d, p1_d, pN_d, fEq_i, fEq_s, fEq_b, fEq_ii, fNe_i, fNe_s, fNe_b, fSub_i, fAdd_i, fAnd_i, fOr_i, fXor_i, fLt_i, fLe_i, fGt_i, fGe_i, fIs_d, fIsNot_d, fIsB_b, isB_b, tru_b, tru_i, tru_l, tru_t, orE_s, orE_n, alt2_e, alt1_e, altN_e, fIx_l, fIx_t, at_0, at_1, at_2, at_3, at_4, at_5, for_n, for_c, lc_n, len_lst, len_tup, kfn_c, kix_c, sSeq_e, sNil_e, sSet_e, sSet2_e, sRet_e, sRetN_e, sDrop_e, sIf_e, sBk_e, sCt_e, sFrz_e, sOwn_e, sFor_e, sUnp_e, eC_e, eOp_e, eUn_e, aNil_e, aCons_e, aApp_e, eFN_e, eCall_e, eMake_e, eCMeth_e, eCallO_e, eLst_e, eTup_e, nLst_e, nLc_e, eLc_e, lSeq_e, lTup_e, eIf_e, eAnd_e, eOr_e, eNot_e, bOf_e, bAnd_e, bOr_e, bNot_e, eFld_e, runB_e, env0_e, oN_e, List.set_cons_zero, List.set_cons_succ, List.map_cons, List.map_nil, List.cons_append, List.nil_append, List.replicate_succ, List.replicate_zero, List.length_cons, List.length_nil, List.getElem?_cons_zero, List.getElem?_cons_succ, reduceIte, if_true, if_false, Bool.false_eq_true, arN_t, decide_true, decide_false, isNon, Bool.not_true, Bool.not_false, Bool.true_and, Bool.false_and, Bool.and_true, Bool.and_false, bYes_e, lstMax_e, Nat.reduceAdd, Nat.reduceSub, Nat.reduceLeDiff, Int.reduceLT, Int.reduceLE, Int.reduceEq, String.reduceEq, and_self, decide_eq_true_eq, and_true, true_and, cPos_e, cDiv_e, fMod_i, fDiv_i, Int.reduceMod, Int.reduceDiv, Int.reduceSub, Int.reduceAdd, Int.reducePow, kOf_i, fsOf_i, fOwn_k, fOwn1_k, gFld_k, methO_e, methK_s, methA_s, ownK_s, ownK_n, ownK_m, own1K_s, own1K_n, fldK_s, sApp_e, appK_s, sOSub_e, osubK_s, eOIx_e, oixK_s, eOLen_e, olenK_s, ixN_p, Int.reduceToNat, Nat.reduceLT, oS_e, eSl_e, eSlT_e, kSet_e, kSet2_e, kDrop_e, kIf_t, kIf_f, kOwn_e, kApp_e, kOsub1_e, kOsub2_e, osK_s, kOix_e, ixK_s, kFor_e, kUnp_e, unpK_s, kOp1_e, kOp2_e, kUn_e, kC1_e, kC2_e, kA1_e, kA2_e, kFN_e, kCall_e, kMake_e, kCM_e, kMeth_e, kLst_e, lstK_s, kTup_e, tupK_s, kNl_e, nlK_s, nList_e, kNli_e, nliK_s, lOf_l, lOf_t, kNc1_e, kNc2_e, kLc1_e, kLc2_e, kSeq_e, kTpl_e, kEIf_t, kEIf_f, kEAnd_t, kEAnd_f, kEOr_t, kEOr_f, kENot_e, kB_e, kBAnd_t, kBAnd_f, kBOr_t, kBOr_f, kBNot_e, kOS_e, kSl1_e, kSl2_e, kSl3_e, kSt1_e, kSt2_e, kSt3_e, eMeth_e, kMe_e, lc_c, kL1_e, kL2_e, kT_t, kT_f, Int.cast_ofNat_Int, Int.natCast_zero, Int.natCast_one, lRng1_e, kRng_1, kRng_2, kRng_3, kRng_4, kRng_5, kRng_6, List.length_map, arS_0, sEr_e, sTryAs_e, tryK_nx, tryK_rt, tryK_er, afterO_rt, afterO_nx, eXf_e, xfS_s, xfK_s, plain_n, plain_e, List.all_cons, List.all_nil, eq_self, sTryN_e, tryN_nx, tryN_rt, tryN_h, tryN_t, dflI_e, dflF_e, not_false_eq_true, eMethK_e, kMK_e, kMK2_e, eProp_e, kPr_e, eNotO_e, kNotO_e, notK_s, eSlA_e, kSA1_e, kSA2_e, kSA3_l, kSA3_t, eGetO_e, kGet1_e, kGet2_e, getK_s, r4, e1, e2, pw, ng1, ↓fn]
  · have fn := fin ((W : Nat) + (far : Nat)) 0 (by omega) (by omega) (by decide)
    simp -implicitDefEqProofs only [bind_ok, bind_er, bindN_ok, ofE_ok, ofE_er, seqO_nx, seqO_rt, seqO_er, seqO_bk, seqO_ct, loopO_nx, loopO_ct, loopO_bk, loopO_rt, loopO_er, lift_s, retO_rt, retO_nx, retO_er, mkO_ok, mkO_er, toOpt_ok, eVar_z, eVar_s, oL_z, oL_s, frz_z, frz_s, wipe_n, wipe_c, datas_n, datas_c, map_s, bind_s, setA_n, setA_c, p2_d, p1_d, pN_d, fEq_i, fEq_s, fEq_b, fEq_ii, fNe_i, fNe_s, fNe_b, fSub_i, fAdd_i, fAnd_i, fOr_i, fXor_i, fLt_i, fLe_i, fGt_i, fGe_i, fIs_d, fIsNot_d, fIsB_b, isB_b, tru_b, tru_i, tru_l, tru_t, orE_s, orE_n, alt2_e, alt1_e, altN_e, fIx_l, fIx_t, at_0, at_1, at_2, at_3, at_4, at_5, for_n, for_c, lc_n, len_lst, len_tup, kfn_c, kix_c, sSeq_e, sNil_e, sSet_e, sSet2_e, sRet_e, sRetN_e, sDrop_e, sIf_e, sBk_e, sCt_e, sFrz_e, sOwn_e, sFor_e, sUnp_e, eC_e, eOp_e, eUn_e, aNil_e, aCons_e, aApp_e, eFN_e, eCall_e, eMake_e, eCMeth_e, eCallO_e, eLst_e, eTup_e, nLst_e, nLc_e, eLc_e, lSeq_e, lTup_e, eIf_e, eAnd_e, eOr_e, eNot_e, bOf_e, bAnd_e, bOr_e, bNot_e, eFld_e, runB_e, env0_e, oN_e, List.set_cons_zero, List.set_cons_succ, List.map_cons, List.map_nil, List.cons_append, List.nil_append, List.replicate_succ, List.replicate_zero, List.length_cons, List.length_nil, List.getElem?_cons_zero, List.getElem?_cons_succ, reduceIte, if_true, if_false, Bool.false_eq_true, arN_t, decide_true, decide_false, isNon, Bool.not_true, Bool.not_false, Bool.true_and, Bool.false_and, Bool.and_true, Bool.and_false, bYes_e, lstMax_e, Nat.reduceAdd, Nat.reduceSub, Nat.reduceLeDiff, Int.reduceLT, Int.reduceLE, Int.reduceEq, String.reduceEq, and_self, decide_eq_true_eq, and_true, true_and, cPos_e, cDiv_e, fMod_i, fDiv_i, Int.reduceMod, Int.reduceDiv, Int.reduceSub, Int.reduceAdd, Int.reducePow, kOf_i, fsOf_i, fOwn_k, fOwn1_k, gFld_k, methO_e, methK_s, methA_s, ownK_s, ownK_n, ownK_m, own1K_s, own1K_n, fldK_s, sApp_e, appK_s, sOSub_e, osubK_s, eOIx_e, oixK_s, eOLen_e, olenK_s, ixN_p, Int.reduceToNat, Nat.reduceLT, oS_e, eSl_e, eSlT_e, kSet_e, kSet2_e, kDrop_e, kIf_t, kIf_f, kOwn_e, kApp_e, kOsub1_e, kOsub2_e, osK_s, kOix_e, ixK_s, kFor_e, kUnp_e, unpK_s, kOp1_e, kOp2_e, kUn_e, kC1_e, kC2_e, kA1_e, kA2_e, kFN_e, kCall_e, kMake_e, kCM_e, kMeth_e, kLst_e, lstK_s, kTup_e, tupK_s, kNl_e, nlK_s, nList_e, kNli_e, nliK_s, lOf_l, lOf_t, kNc1_e, kNc2_e, kLc1_e, kLc2_e, kSeq_e, kTpl_e, kEIf_t, kEIf_f, kEAnd_t, kEAnd_f, kEOr_t, kEOr_f, kENot_e, kB_e, kBAnd_t, kBAnd_f, kBOr_t, kBOr_f, kBNot_e, kOS_e, kSl1_e, kSl2_e, kSl3_e, kSt1_e, kSt2_e, kSt3_e, eMeth_e, kMe_e, lc_c, kL1_e, kL2_e, kT_t, kT_f, Int.cast_ofNat_Int, Int.natCast_zero, Int.natCast_one, lRng1_e, kRng_1, kRng_2, kRng_3, kRng_4, kRng_5, kRng_6, List.length_map, arS_0, sEr_e, sTryAs_e, tryK_nx, tryK_rt, tryK_er, afterO_rt, afterO_nx, eXf_e, xfS_s, xfK_s, plain_n, plain_e, List.all_cons, List.all_nil, eq_self, sTryN_e, tryN_nx, tryN_rt, tryN_h, tryN_t, dflI_e, dflF_e, not_false_eq_true, eMethK_e, kMK_e, kMK2_e, eProp_e, kPr_e, eNotO_e, kNotO_e, notK_s, eSlA_e, kSA1_e, kSA2_e, kSA3_l, kSA3_t, eGetO_e, kGet1_e, kGet2_e, getK_s, r4, e1, e2, pw, ng1, ↓fn]
  · have fn := fin 0 (-1 - (far : Nat)) (by omega) (by decide) (by omega)
    simp -implicitDefEqProofs only [bind_ok, bind_er, bindN_ok, ofE_ok, ofE_er, seqO_nx, seqO_rt, seqO_er, seqO_bk, seqO_ct, loopO_nx, loopO_ct, loopO_bk, loopO_rt, loopO_er, lift_s, retO_rt, retO_nx, retO_er, mkO_ok, mkO_er, toOpt_ok, eVar_z, eVar_s, oL_z, oL_s, frz_z, frz_s, wipe_n, wipe_c, datas_n, datas_c, map_s, bind_s, setA_n, setA_c, p2_d, p1_d, pN_d, fEq_i, fEq_s, fEq_b, fEq_ii, fNe_i, fNe_s, fNe_b, fSub_i, fAdd_i, fAnd_i, fOr_i, fXor_i, fLt_i, fLe_i, fGt_i, fGe_i, fIs_d, fIsNot_d, fIsB_b, isB_b, tru_b, tru_i, tru_l, tru_t, orE_s, orE_n, alt2_e, alt1_e, altN_e, fIx_l, fIx_t, at_0, at_1, at_2, at_3, at_4, at_5, for_n, for_c, lc_n, len_lst, len_tup, kfn_c, kix_c, sSeq_e, sNil_e, sSet_e, sSet2_e, sRet_e, sRetN_e, sDrop_e, sIf_e, sBk_e, sCt_e, sFrz_e, sOwn_e, sFor_e, sUnp_e, eC_e, eOp_e, eUn_e, aNil_e, aCons_e, aApp_e, eFN_e, eCall_e, eMake_e, eCMeth_e, eCallO_e, eLst_e, eTup_e, nLst_e, nLc_e, eLc_e, lSeq_e, lTup_e, eIf_e, eAnd_e, eOr_e, eNot_e, bOf_e, bAnd_e, bOr_e, bNot_e, eFld_e, runB_e, env0_e, oN_e, List.set_cons_zero, List.set_cons_succ, List.map_cons, List.map_nil, List.cons_append, List.nil_append, List.replicate_succ, List.replicate_zero, List.length_cons, List.length_nil, List.getElem?_cons_zero, List.getElem?_cons_succ, reduceIte, if_true, if_false, Bool.false_eq_true, arN_t, decide_true, decide_false, isNon, Bool.not_true, Bool.not_false, Bool.true_and, Bool.false_and, Bool.and_true, Bool.and_false, bYes_e, lstMax_e, Nat.reduceAdd, Nat.reduceSub, Nat.reduceLeDiff, Int.reduceLT, Int.reduceLE, Int.reduceEq, String.reduceEq, and_self, decide_eq_true_eq, and_true, true_and, cPos_e, cDiv_e, fMod_i, fDiv_i, Int.reduceMod, Int.reduceDiv, Int.reduceSub, Int.reduceAdd, Int.reducePow, kOf_i, fsOf_i, fOwn_k, fOwn1_k, gFld_k, methO_e, methK_s, methA_s, ownK_s, ownK_n, ownK_m, own1K_s, own1K_n, fldK_s, sApp_e, appK_s, sOSub_e, osubK_s, eOIx_e, oixK_s, eOLen_e, olenK_s, ixN_p, Int.reduceToNat, Nat.reduceLT, oS_e, eSl_e, eSlT_e, kSet_e, kSet2_e, kDrop_e, kIf_t, kIf_f, kOwn_e, kApp_e, kOsub1_e, kOsub2_e, osK_s, kOix_e, ixK_s, kFor_e, kUnp_e, unpK_s, kOp1_e, kOp2_e, kUn_e, kC1_e, kC2_e, kA1_e, kA2_e, kFN_e, kCall_e, kMake_e, kCM_e, kMeth_e, kLst_e, lstK_s, kTup_e, tupK_s, kNl_e, nlK_s, nList_e, kNli_e, nliK_s, lOf_l, lOf_t, kNc1_e, kNc2_e, kLc1_e, kLc2_e, kSeq_e, kTpl_e, kEIf_t, kEIf_f, kEAnd_t, kEAnd_f, kEOr_t, kEOr_f, kENot_e, kB_e, kBAnd_t, kBAnd_f, kBOr_t, kBOr_f, kBNot_e, kOS_e, kSl1_e, kSl2_e, kSl3_e, kSt1_e, kSt2_e, kSt3_e, eMeth_e, kMe_e, lc_c, kL1_e, kL2_e, kT_t, kT_f, Int.cast_ofNat_Int, Int.natCast_zero, Int.natCast_one, lRng1_e, kRng_1, kRng_2, kRng_3, kRng_4, kRng_5, kRng_6, List.length_map, arS_0, sEr_e, sTryAs_e, tryK_nx, tryK_rt, tryK_er, afterO_rt, afterO_nx, eXf_e, xfS_s, xfK_s, plain_n, plain_e, List.all_cons, List.all_nil, eq_self, sTryN_e, tryN_nx, tryN_rt, tryN_h, tryN_t, dflI_e, dflF_e, not_false_eq_true, eMethK_e, kMK_e, kMK2_e, eProp_e, kPr_e, eNotO_e, kNotO_e, notK_s, eSlA_e, kSA1_e, kSA2_e, kSA3_l, kSA3_t, eGetO_e, kGet1_e, kGet2_e, getK_s, r4, e1, e2, pw, ng1, ↓fn]
theorem bi (a b : Int) : (a == b) = decide (a = b) := by
  by_cases h : a = b
  · rw [decide_eq_true h, h, beq_self_eq_true]
  · rw [decide_eq_false h]; exact beq_eq_false_iff_ne.mpr h
theorem feq_g (a b : DL.D) (G : GS) : fEq (.d a) (.d b) G = ((gEq a b).map DL.D.bl).map fun z => (EV.d z, G) := rfl
theorem feq4 (W H N W' H' N' : Nat) (m m' : Bool) (G : GS) : rE (.d (.lst [.int (W' : Nat), .int (H' : Nat), .int (N' : Nat), .bl m'])) (.d (.lst [.int (W : Nat), .int (H : Nat), .int (N : Nat), .bl m])) G = some (.d (.bl (seqB W H N m W' H' N' m')), G) := by
  have e : gEq (.lst [.int (W' : Nat), .int (H' : Nat), .int (N' : Nat), .bl m']) (.lst [.int (W : Nat), .int (H : Nat), .int (N : Nat), .bl m]) = some (((W' : Int) == W) && (((H' : Int) == H) && (((N' : Int) == N) && ((m' == m) && true)))) := rfl
  have bb : (m' == m) = decide (m = m') := by cases m <;> cases m' <;> rfl
  have f : fEq (.d (.lst [.int (W' : Nat), .int (H' : Nat), .int (N' : Nat), .bl m'])) (.d (.lst [.int (W : Nat), .int (H : Nat), .int (N : Nat), .bl m])) G = some (.d (.bl (seqB W H N m W' H' N' m')), G) := by
    rw [feq_g, e, bi, bi, bi, bb, Bool.and_true, decide_eq_decide.mpr (eq_comm (a := (W' : Int)) (b := W)), decide_eq_decide.mpr (eq_comm (a := (H' : Int)) (b := H)), decide_eq_decide.mpr (eq_comm (a := (N' : Int)) (b := N))]
    rfl
  unfold rE
  rw [alt2_e, f, orE_s]
theorem seqB_comm (W H N W' H' N' : Nat) (m m' : Bool) : seqB W' H' N' m' W H N m = seqB W H N m W' H' N' m' := by
  unfold seqB
  rw [decide_eq_decide.mpr (eq_comm (a := (W' : Int)) (b := W)), decide_eq_decide.mpr (eq_comm (a := (H' : Int)) (b := H)), decide_eq_decide.mpr (eq_comm (a := (N' : Int)) (b := N)), decide_eq_decide.mpr (eq_comm (a := m') (b := m))]
theorem seqB_turn (W H N : Nat) (m : Bool) : seqB W H N m H W N m = decide ((W : Int) = H) := by
  unfold seqB
  by_cases h : (W : Int) = H
  · rw [decide_eq_true h, decide_eq_true h.symm, decide_eq_true rfl, decide_eq_true rfl]; rfl
  · rw [decide_eq_false h]; rfl
theorem fe_i (a b : Int) (G : GS) : rE (.d (.int a)) (.d (.int b)) G = some (.d (.bl (decide (a = b))), G) := rfl
theorem r3_ok {W H N W' H' N' : Nat} {way : Int} {m m' : Bool} (h1 : 1 ≤ W) (h2 : W ≤ 900) (h3 : 1 ≤ H) (h4 : H ≤ 900) (h5 : N < 64) (h1' : 1 ≤ W') (h2' : W' ≤ 1000) (h3' : 1 ≤ H') (h4' : H' ≤ 1000) (h5' : N' < 64) (hm : decide (way = 2) = m) (z : EV) (s8 : Sl) (h8 : plainS s8 = true) (b : Bx) :
    ∃ G', r3 (EnA z W H N way (.ev (.d (sheetD W H N m))) (.ev (.d (.lst [.int (W' : Nat), .int (H' : Nat), .int (N' : Nat), .bl m']))) s8 .no .no .no .no .no) (bS b) = .rt (.d (.bl true)) G' := by
  obtain ⟨G', t⟩ := r4_ok (N := N) (m := m) (show W ≤ 1000 by omega) (show H ≤ 1000 by omega) z way (.ev (.d (.lst [.int (W' : Nat), .int (H' : Nat), .int (N' : Nat), .bl m']))) s8 (.ev (.d (sheetD W' H' N' m'))) (.ev (.d (.bl (seqB W H N m W' H' N' m')))) (.ev (.d (sheetD H W N m))) rfl h8 rfl rfl rfl b
  refine ⟨G', ?_⟩
  unfold EnA at t ⊢
  have n1 := num_ok h5 (bS b)
  have n2 := num_ok h5' (bS b)
  have k1 : mkO "Sheet" (g_Sheet___init___for_Sheet [.d (.int (W' : Nat)), .d (.int (H' : Nat)), .d (lightD N'), .d (.bl m')] (bS b)) = .ok (.d (sheetD W' H' N' m')) (bS b) := by rw [make_ok m' h1' h2' h3' h4']; rfl
  have k2 : mkO "Sheet" (g_Sheet___init___for_Sheet [.d (.int (H : Nat)), .d (.int (W : Nat)), .d (lightD N), .d (.bl m)] (bS b)) = .ok (.d (sheetD H W N m)) (bS b) := by rw [make_ok m h3 (by omega) h1 (by omega)]; rfl
  have q1 := feq4 W H N W' H' N' m m' (bS b)
  have q2 := rq_sheet (w := W) (h := H) (n := N) (w' := W') (h' := H') (n' := N') m m' h1 h3 (bS b)
  have q3 := rq_sheet (w := W') (h := H') (n := N') (w' := W) (h' := H) (n' := N) m' m h1' h3' (bS b)
  have q4 := rq_sheet (w := W) (h := H) (n := N) (w' := H) (h' := W) (n' := N) m m h1 h3 (bS b)
  have q5 := rq_sheet (w := H) (h := W) (n := N) (w' := W) (h' := H) (n' := N) m m h3 h1 (bS b)
  have q6 := rq_int W H N m (N : Nat) (bS b)
  have q7 := fe_i way 2 (bS b)
  have q8 := fe_i (W : Nat) (H : Nat) (bS b)
  rw [seqB_comm] at q3
  rw [seqB_turn] at q4 q5
  have hc : decide ((H : Int) = W) = decide ((W : Int) = H) := decide_eq_decide.mpr ⟨fun h => h.symm, fun h => h.symm⟩
  rw [hc] at q5
  rw [hm] at q7
  have i1 := is_ok (seqB W H N m W' H' N' m') (bS b)
  have i2 := is_ok (decide ((W : Int) = H)) (bS b)
  have sb : ∀ G, fIsNotB (.d (.bl false)) (.d (.bl false)) G = some (.d (.bl false), G) := fun _ => rfl
  simp -implicitDefEqProofs only [bind_ok, bind_er, bindN_ok, ofE_ok, ofE_er, seqO_nx, seqO_rt, seqO_er, seqO_bk, seqO_ct, loopO_nx, loopO_ct, loopO_bk, loopO_rt, loopO_er, lift_s, retO_rt, retO_nx, retO_er, mkO_ok, mkO_er, toOpt_ok, eVar_z, eVar_s, oL_z, oL_s, frz_z, frz_s, wipe_n, wipe_c, datas_n, datas_c, map_s, bind_s, setA_n, setA_c, p2_d, p1_d, pN_d, fEq_i, fEq_s, fEq_b, fEq_ii, fNe_i, fNe_s, fNe_b, fSub_i, fAdd_i, fAnd_i, fOr_i, fXor_i, fLt_i, fLe_i, fGt_i, fGe_i, fIs_d, fIsNot_d, fIsB_b, isB_b, tru_b, tru_i, tru_l, tru_t, orE_s, orE_n, alt2_e, alt1_e, altN_e, fIx_l, fIx_t, at_0, at_1, at_2, at_3, at_4, at_5, for_n, for_c, lc_n, len_lst, len_tup, kfn_c, kix_c, sSeq_e, sNil_e, sSet_e, sSet2_e, sRet_e, sRetN_e, sDrop_e, sIf_e, sBk_e, sCt_e, sFrz_e, sOwn_e, sFor_e, sUnp_e, eC_e, eOp_e, eUn_e, aNil_e, aCons_e, aApp_e, eFN_e, eCall_e, eMake_e, eCMeth_e, eCallO_e, eLst_e, eTup_e, nLst_e, nLc_e, eLc_e, lSeq_e, lTup_e, eIf_e, eAnd_e, eOr_e, eNot_e, bOf_e, bAnd_e, bOr_e, bNot_e, eFld_e, runB_e, env0_e, oN_e, List.set_cons_zero, List.set_cons_succ, List.map_cons, List.map_nil, List.cons_append, List.nil_append, List.replicate_succ, List.replicate_zero, List.length_cons, List.length_nil, List.getElem?_cons_zero, List.getElem?_cons_succ, reduceIte, if_true, if_false, Bool.false_eq_true, arN_t, decide_true, decide_false, isNon, Bool.not_true, Bool.not_false, Bool.true_and, Bool.false_and, Bool.and_true, Bool.and_false, bYes_e, lstMax_e, Nat.reduceAdd, Nat.reduceSub, Nat.reduceLeDiff, Int.reduceLT, Int.reduceLE, Int.reduceEq, String.reduceEq, and_self, decide_eq_true_eq, and_true, true_and, cPos_e, cDiv_e, fMod_i, fDiv_i, Int.reduceMod, Int.reduceDiv, Int.reduceSub, Int.reduceAdd, Int.reducePow, kOf_i, fsOf_i, fOwn_k, fOwn1_k, gFld_k, methO_e, methK_s, methA_s, ownK_s, ownK_n, ownK_m, own1K_s, own1K_n, fldK_s, sApp_e, appK_s, sOSub_e, osubK_s, eOIx_e, oixK_s, eOLen_e, olenK_s, ixN_p, Int.reduceToNat, Nat.reduceLT, oS_e, eSl_e, eSlT_e, kSet_e, kSet2_e, kDrop_e, kIf_t, kIf_f, kOwn_e, kApp_e, kOsub1_e, kOsub2_e, osK_s, kOix_e, ixK_s, kFor_e, kUnp_e, unpK_s, kOp1_e, kOp2_e, kUn_e, kC1_e, kC2_e, kA1_e, kA2_e, kFN_e, kCall_e, kMake_e, kCM_e, kMeth_e, kLst_e, lstK_s, kTup_e, tupK_s, kNl_e, nlK_s, nList_e, kNli_e, nliK_s, lOf_l, lOf_t, kNc1_e, kNc2_e, kLc1_e, kLc2_e, kSeq_e, kTpl_e, kEIf_t, kEIf_f, kEAnd_t, kEAnd_f, kEOr_t, kEOr_f, kENot_e, kB_e, kBAnd_t, kBAnd_f, kBOr_t, kBOr_f, kBNot_e, kOS_e, kSl1_e, kSl2_e, kSl3_e, kSt1_e, kSt2_e, kSt3_e, eMeth_e, kMe_e, lc_c, kL1_e, kL2_e, kT_t, kT_f, Int.cast_ofNat_Int, Int.natCast_zero, Int.natCast_one, lRng1_e, kRng_1, kRng_2, kRng_3, kRng_4, kRng_5, kRng_6, List.length_map, arS_0, sEr_e, sTryAs_e, tryK_nx, tryK_rt, tryK_er, afterO_rt, afterO_nx, eXf_e, xfS_s, xfK_s, plain_n, plain_e, List.all_cons, List.all_nil, eq_self, sTryN_e, tryN_nx, tryN_rt, tryN_h, tryN_t, dflI_e, dflF_e, not_false_eq_true, eMethK_e, kMK_e, kMK2_e, eProp_e, kPr_e, eNotO_e, kNotO_e, notK_s, eSlA_e, kSA1_e, kSA2_e, kSA3_l, kSA3_t, eGetO_e, kGet1_e, kGet2_e, getK_s, r3, n1, n2, k1, k2, ↓q1, ↓q2, ↓q3, ↓q4, ↓q5, ↓q6, ↓q7, ↓q8, i1, i2, sb, ↓t]
end K61
set_option Elab.async false
set_option linter.all false
set_option maxRecDepth 100000
set_option maxHeartbeats 4000000
namespace K61
open PySem DL
theorem r2_ok {W H N : Nat} {way : Int} {m : Bool} (h1 : 1 ≤ W) (h2 : W ≤ 900) (h3 : 1 ≤ H) (h4 : H ≤ 900) (h5 : N < 64) (hm : decide (way = 2) = m) (z : EV) (b : Bx) :
    ∃ G', r2 (EnA z W H N way (.ev (.d (sheetD W H N m))) .no .no .no .no .no .no .no) (bS b) = .rt (.d (.bl true)) G' := by
  obtain ⟨v, b1, e1, hv⟩ := draw_s b 5 (by decide) (by decide)
  have fin : ∀ (W' H' N' : Nat) (m' : Bool) (v : Int) (b1 : Bx), 1 ≤ W' → W' ≤ 1000 → 1 ≤ H' → H' ≤ 1000 → N' < 64 → ∃ G', r3 (EnA z W H N way (.ev (.d (sheetD W H N m))) (.ev (.d (.lst [.int (W' : Nat), .int (H' : Nat), .int (N' : Nat), .bl m']))) (.ev (.d (.int v))) .no .no .no .no .no) (bS b1) = .rt (.d (.bl true)) G' :=
    fun W' H' N' m' v b1 a1 a2 a3 a4 a5 => r3_ok h1 h2 h3 h4 h5 a1 a2 a3 a4 a5 hm z (.ev (.d (.int v))) rfl b1
  have q7 : ∀ G, rE (.d (.int way)) (.d (.int 2)) G = some (.d (.bl m), G) := fun G => by rw [fe_i, hm]
  have fe := fe_i
  have v5 : v = 0 ∨ v = 1 ∨ v = 2 ∨ v = 3 ∨ v = 4 := by omega
  unfold EnA at fin ⊢
  rcases v5 with rfl | rfl | rfl | rfl | rfl
  · obtain ⟨G', t⟩ := fin (W + 1) H N m 0 b1 (by omega) (by omega) h3 (by omega) h5
    rw [show ((W + 1 : Nat) : Int) = (W : Int) + 1 from by omega] at t
    exact ⟨G', by simp -implicitDefEqProofs only [bind_ok, bind_er, bindN_ok, ofE_ok, ofE_er, seqO_nx, seqO_rt, seqO_er, seqO_bk, seqO_ct, loopO_nx, loopO_ct, loopO_bk, loopO_rt, loopO_er, lift_s, retO_rt, retO_nx, retO_er, mkO_ok, mkO_er, toOpt_ok, eVar_z, eVar_s, oL_z, oL_s, frz_z, frz_s, wipe_n, wipe_c, datas_n, datas_c, map_s, bind_s, setA_n, setA_c, p2_d, p1_d, pN_d, fEq_i, fEq_s, fEq_b, fEq_ii, fNe_i, fNe_s, fNe_b, fSub_i, fAdd_i, fAnd_i, fOr_i, fXor_i, fLt_i, fLe_i, fGt_i, fGe_i, fIs_d, fIsNot_d, fIsB_b, isB_b, tru_b, tru_i, tru_l, tru_t, orE_s, orE_n, alt2_e, alt1_e, altN_e, fIx_l, fIx_t, at_0, at_1, at_2, at_3, at_4, at_5, for_n, for_c, lc_n, len_lst, len_tup, kfn_c, kix_c, sSeq_e, sNil_e, sSet_e, sSet2_e, sRet_e, sRetN_e, sDrop_e, sIf_e, sBk_e, sCt_e, sFrz_e, sOwn_e, sFor_e, sUnp_e, eC_e, eOp_e, eUn_e, aNil_e, aCons_e, aApp_e, eFN_e, eCall_e, eMake_e, eCMeth_e, eCallO_e, eLst_e, eTup_e, nLst_e, nLc_e, eLc_e, lSeq_e, lTup_e, eIf_e, eAnd_e, eOr_e, eNot_e, bOf_e, bAnd_e, bOr_e, bNot_e, eFld_e, runB_e, env0_e, oN_e, List.set_cons_zero, List.set_cons_succ, List.map_cons, List.map_nil, List.cons_append, List.nil_append, List.replicate_succ, List.replicate_zero, List.length_cons, List.length_nil, List.getElem?_cons_zero, List.getElem?_cons_succ, reduceIte, if_true, if_false, Bool.false_eq_true, arN_t, decide_true, decide_false, isNon, Bool.not_true, Bool.not_false, Bool.true_and, Bool.false_and, Bool.and_true, Bool.and_false, bYes_e, lstMax_e, Nat.reduceAdd, Nat.reduceSub, Nat.reduceLeDiff, Int.reduceLT, Int.reduceLE, Int.reduceEq, String.reduceEq, and_self, decide_eq_true_eq, and_true, true_and, cPos_e, cDiv_e, fMod_i, fDiv_i, Int.reduceMod, Int.reduceDiv, Int.reduceSub, Int.reduceAdd, Int.reducePow, kOf_i, fsOf_i, fOwn_k, fOwn1_k, gFld_k, methO_e, methK_s, methA_s, ownK_s, ownK_n, ownK_m, own1K_s, own1K_n, fldK_s, sApp_e, appK_s, sOSub_e, osubK_s, eOIx_e, oixK_s, eOLen_e, olenK_s, ixN_p, Int.reduceToNat, Nat.reduceLT, oS_e, eSl_e, eSlT_e, kSet_e, kSet2_e, kDrop_e, kIf_t, kIf_f, kOwn_e, kApp_e, kOsub1_e, kOsub2_e, osK_s, kOix_e, ixK_s, kFor_e, kUnp_e, unpK_s, kOp1_e, kOp2_e, kUn_e, kC1_e, kC2_e, kA1_e, kA2_e, kFN_e, kCall_e, kMake_e, kCM_e, kMeth_e, kLst_e, lstK_s, kTup_e, tupK_s, kNl_e, nlK_s, nList_e, kNli_e, nliK_s, lOf_l, lOf_t, kNc1_e, kNc2_e, kLc1_e, kLc2_e, kSeq_e, kTpl_e, kEIf_t, kEIf_f, kEAnd_t, kEAnd_f, kEOr_t, kEOr_f, kENot_e, kB_e, kBAnd_t, kBAnd_f, kBOr_t, kBOr_f, kBNot_e, kOS_e, kSl1_e, kSl2_e, kSl3_e, kSt1_e, kSt2_e, kSt3_e, eMeth_e, kMe_e, lc_c, kL1_e, kL2_e, kT_t, kT_f, Int.cast_ofNat_Int, Int.natCast_zero, Int.natCast_one, lRng1_e, kRng_1, kRng_2, kRng_3, kRng_4, kRng_5, kRng_6, List.length_map, arS_0, sEr_e, sTryAs_e, tryK_nx, tryK_rt, tryK_er, afterO_rt, afterO_nx, eXf_e, xfS_s, xfK_s, plain_n, plain_e, List.all_cons, List.all_nil, eq_self, sTryN_e, tryN_nx, tryN_rt, tryN_h, tryN_t, dflI_e, dflF_e, not_false_eq_true, eMethK_e, kMK_e, kMK2_e, eProp_e, kPr_e, eNotO_e, kNotO_e, notK_s, eSlA_e, kSA1_e, kSA2_e, kSA3_l, kSA3_t, eGetO_e, kGet1_e, kGet2_e, getK_s, r2, e1, ↓q7, ↓fe, ↓t]⟩
  · obtain ⟨G', t⟩ := fin W (H + 1) N m 1 b1 h1 (by omega) (by omega) (by omega) h5
    rw [show ((H + 1 : Nat) : Int) = (H : Int) + 1 from by omega] at t
    exact ⟨G', by simp -implicitDefEqProofs only [bind_ok, bind_er, bindN_ok, ofE_ok, ofE_er, seqO_nx, seqO_rt, seqO_er, seqO_bk, seqO_ct, loopO_nx, loopO_ct, loopO_bk, loopO_rt, loopO_er, lift_s, retO_rt, retO_nx, retO_er, mkO_ok, mkO_er, toOpt_ok, eVar_z, eVar_s, oL_z, oL_s, frz_z, frz_s, wipe_n, wipe_c, datas_n, datas_c, map_s, bind_s, setA_n, setA_c, p2_d, p1_d, pN_d, fEq_i, fEq_s, fEq_b, fEq_ii, fNe_i, fNe_s, fNe_b, fSub_i, fAdd_i, fAnd_i, fOr_i, fXor_i, fLt_i, fLe_i, fGt_i, fGe_i, fIs_d, fIsNot_d, fIsB_b, isB_b, tru_b, tru_i, tru_l, tru_t, orE_s, orE_n, alt2_e, alt1_e, altN_e, fIx_l, fIx_t, at_0, at_1, at_2, at_3, at_4, at_5, for_n, for_c, lc_n, len_lst, len_tup, kfn_c, kix_c, sSeq_e, sNil_e, sSet_e, sSet2_e, sRet_e, sRetN_e, sDrop_e, sIf_e, sBk_e, sCt_e, sFrz_e, sOwn_e, sFor_e, sUnp_e, eC_e, eOp_e, eUn_e, aNil_e, aCons_e, aApp_e, eFN_e, eCall_e, eMake_e, eCMeth_e, eCallO_e, eLst_e, eTup_e, nLst_e, nLc_e, eLc_e, lSeq_e, lTup_e, eIf_e, eAnd_e, eOr_e, eNot_e, bOf_e, bAnd_e, bOr_e, bNot_e, eFld_e, runB_e, env0_e, oN_e, List.set_cons_zero, List.set_cons_succ, List.map_cons, List.map_nil, List.cons_append, List.nil_append, List.replicate_succ, List.replicate_zero, List.length_cons, List.length_nil, List.getElem?_cons_zero, List.getElem?_cons_succ, reduceIte, if_true, if_false, Bool.false_eq_true, arN_t, decide_true, decide_false, isNon, Bool.not_true, Bool.not_false, Bool.true_and, Bool.false_and, Bool.and_true, Bool.and_false, bYes_e, lstMax_e, Nat.reduceAdd, Nat.reduceSub, Nat.reduceLeDiff, Int.reduceLT, Int.reduceLE, Int.reduceEq, String.reduceEq, and_self, decide_eq_true_eq, and_true, true_and, cPos_e, cDiv_e, fMod_i, fDiv_i, Int.reduceMod, Int.reduceDiv, Int.reduceSub, Int.reduceAdd, Int.reducePow, kOf_i, fsOf_i, fOwn_k, fOwn1_k, gFld_k, methO_e, methK_s, methA_s, ownK_s, ownK_n, ownK_m, own1K_s, own1K_n, fldK_s, sApp_e, appK_s, sOSub_e, osubK_s, eOIx_e, oixK_s, eOLen_e, olenK_s, ixN_p, Int.reduceToNat, Nat.reduceLT, oS_e, eSl_e, eSlT_e, kSet_e, kSet2_e, kDrop_e, kIf_t, kIf_f, kOwn_e, kApp_e, kOsub1_e, kOsub2_e, osK_s, kOix_e, ixK_s, kFor_e, kUnp_e, unpK_s, kOp1_e, kOp2_e, kUn_e, kC1_e, kC2_e, kA1_e, kA2_e, kFN_e, kCall_e, kMake_e, kCM_e, kMeth_e, kLst_e, lstK_s, kTup_e, tupK_s, kNl_e, nlK_s, nList_e, kNli_e, nliK_s, lOf_l, lOf_t, kNc1_e, kNc2_e, kLc1_e, kLc2_e, kSeq_e, kTpl_e, kEIf_t, kEIf_f, kEAnd_t, kEAnd_f, kEOr_t, kEOr_f, kENot_e, kB_e, kBAnd_t, kBAnd_f, kBOr_t, kBOr_f, kBNot_e, kOS_e, kSl1_e, kSl2_e, kSl3_e, kSt1_e, kSt2_e, kSt3_e, eMeth_e, kMe_e, lc_c, kL1_e, kL2_e, kT_t, kT_f, Int.cast_ofNat_Int, Int.natCast_zero, Int.natCast_one, lRng1_e, kRng_1, kRng_2, kRng_3, kRng_4, kRng_5, kRng_6, List.length_map, arS_0, sEr_e, sTryAs_e, tryK_nx, tryK_rt, tryK_er, afterO_rt, afterO_nx, eXf_e, xfS_s, xfK_s, plain_n, plain_e, List.all_cons, List.all_nil, eq_self, sTryN_e, tryN_nx, tryN_rt, tryN_h, tryN_t, dflI_e, dflF_e, not_false_eq_true, eMethK_e, kMK_e, kMK2_e, eProp_e, kPr_e, eNotO_e, kNotO_e, notK_s, eSlA_e, kSA1_e, kSA2_e, kSA3_l, kSA3_t, eGetO_e, kGet1_e, kGet2_e, getK_s, r2, e1, ↓q7, ↓fe, ↓t]⟩
  · obtain ⟨c, b2, e2, hc⟩ := draw_s b1 64 (by decide) (by decide)
    obtain ⟨G', t⟩ := fin W H c m 2 b2 h1 (by omega) h3 (by omega) (by omega)
    exact ⟨G', by simp -implicitDefEqProofs only [bind_ok, bind_er, bindN_ok, ofE_ok, ofE_er, seqO_nx, seqO_rt, seqO_er, seqO_bk, seqO_ct, loopO_nx, loopO_ct, loopO_bk, loopO_rt, loopO_er, lift_s, retO_rt, retO_nx, retO_er, mkO_ok, mkO_er, toOpt_ok, eVar_z, eVar_s, oL_z, oL_s, frz_z, frz_s, wipe_n, wipe_c, datas_n, datas_c, map_s, bind_s, setA_n, setA_c, p2_d, p1_d, pN_d, fEq_i, fEq_s, fEq_b, fEq_ii, fNe_i, fNe_s, fNe_b, fSub_i, fAdd_i, fAnd_i, fOr_i, fXor_i, fLt_i, fLe_i, fGt_i, fGe_i, fIs_d, fIsNot_d, fIsB_b, isB_b, tru_b, tru_i, tru_l, tru_t, orE_s, orE_n, alt2_e, alt1_e, altN_e, fIx_l, fIx_t, at_0, at_1, at_2, at_3, at_4, at_5, for_n, for_c, lc_n, len_lst, len_tup, kfn_c, kix_c, sSeq_e, sNil_e, sSet_e, sSet2_e, sRet_e, sRetN_e, sDrop_e, sIf_e, sBk_e, sCt_e, sFrz_e, sOwn_e, sFor_e, sUnp_e, eC_e, eOp_e, eUn_e, aNil_e, aCons_e, aApp_e, eFN_e, eCall_e, eMake_e, eCMeth_e, eCallO_e, eLst_e, eTup_e, nLst_e, nLc_e, eLc_e, lSeq_e, lTup_e, eIf_e, eAnd_e, eOr_e, eNot_e, bOf_e, bAnd_e, bOr_e, bNot_e, eFld_e, runB_e, env0_e, oN_e, List.set_cons_zero, List.set_cons_succ, List.map_cons, List.map_nil, List.cons_append, List.nil_append, List.replicate_succ, List.replicate_zero, List.length_cons, List.length_nil, List.getElem?_cons_zero, List.getElem?_cons_succ, reduceIte, if_true, if_false, Bool.false_eq_true, arN_t, decide_true, decide_false, isNon, Bool.not_true, Bool.not_false, Bool.true_and, Bool.false_and, Bool.and_true, Bool.and_false, bYes_e, lstMax_e, Nat.reduceAdd, Nat.reduceSub, Nat.reduceLeDiff, Int.reduceLT, Int.reduceLE, Int.reduceEq, String.reduceEq, and_self, decide_eq_true_eq, and_true, true_and, cPos_e, cDiv_e, fMod_i, fDiv_i, Int.reduceMod, Int.reduceDiv, Int.reduceSub, Int.reduceAdd, Int.reducePow, kOf_i, fsOf_i, fOwn_k, fOwn1_k, gFld_k, methO_e, methK_s, methA_s, ownK_s, ownK_n, ownK_m, own1K_s, own1K_n, fldK_s, sApp_e, appK_s, sOSub_e, osubK_s, eOIx_e, oixK_s, eOLen_e, olenK_s, ixN_p, Int.reduceToNat, Nat.reduceLT, oS_e, eSl_e, eSlT_e, kSet_e, kSet2_e, kDrop_e, kIf_t, kIf_f, kOwn_e, kApp_e, kOsub1_e, kOsub2_e, osK_s, kOix_e, ixK_s, kFor_e, kUnp_e, unpK_s, kOp1_e, kOp2_e, kUn_e, kC1_e, kC2_e, kA1_e, kA2_e, kFN_e, kCall_e, kMake_e, kCM_e, kMeth_e, kLst_e, lstK_s, kTup_e, tupK_s, kNl_e, nlK_s, nList_e, kNli_e, nliK_s, lOf_l, lOf_t, kNc1_e, kNc2_e, kLc1_e, kLc2_e, kSeq_e, kTpl_e, kEIf_t, kEIf_f, kEAnd_t, kEAnd_f, kEOr_t, kEOr_f, kENot_e, kB_e, kBAnd_t, kBAnd_f, kBOr_t, kBOr_f, kBNot_e, kOS_e, kSl1_e, kSl2_e, kSl3_e, kSt1_e, kSt2_e, kSt3_e, eMeth_e, kMe_e, lc_c, kL1_e, kL2_e, kT_t, kT_f, Int.cast_ofNat_Int, Int.natCast_zero, Int.natCast_one, lRng1_e, kRng_1, kRng_2, kRng_3, kRng_4, kRng_5, kRng_6, List.length_map, arS_0, sEr_e, sTryAs_e, tryK_nx, tryK_rt, tryK_er, afterO_rt, afterO_nx, eXf_e, xfS_s, xfK_s, plain_n, plain_e, List.all_cons, List.all_nil, eq_self, sTryN_e, tryN_nx, tryN_rt, tryN_h, tryN_t, dflI_e, dflF_e, not_false_eq_true, eMethK_e, kMK_e, kMK2_e, eProp_e, kPr_e, eNotO_e, kNotO_e, notK_s, eSlA_e, kSA1_e, kSA2_e, kSA3_l, kSA3_t, eGetO_e, kGet1_e, kGet2_e, getK_s, r2, e1, e2, ↓q7, ↓fe, ↓t]⟩
  · obtain ⟨G', t⟩ := fin W H N (!m) 3 b1 h1 (by omega) h3 (by omega) h5
    exact ⟨G', by simp -implicitDefEqProofs only [bind_ok, bind_er, bindN_ok, ofE_ok, ofE_er, seqO_nx, seqO_rt, seqO_er, seqO_bk, seqO_ct, loopO_nx, loopO_ct, loopO_bk, loopO_rt, loopO_er, lift_s, retO_rt, retO_nx, retO_er, mkO_ok, mkO_er, toOpt_ok, eVar_z, eVar_s, oL_z, oL_s, frz_z, frz_s, wipe_n, wipe_c, datas_n, datas_c, map_s, bind_s, setA_n, setA_c, p2_d, p1_d, pN_d, fEq_i, fEq_s, fEq_b, fEq_ii, fNe_i, fNe_s, fNe_b, fSub_i, fAdd_i, fAnd_i, fOr_i, fXor_i, fLt_i, fLe_i, fGt_i, fGe_i, fIs_d, fIsNot_d, fIsB_b, isB_b, tru_b, tru_i, tru_l, tru_t, orE_s, orE_n, alt2_e, alt1_e, altN_e, fIx_l, fIx_t, at_0, at_1, at_2, at_3, at_4, at_5, for_n, for_c, lc_n, len_lst, len_tup, kfn_c, kix_c, sSeq_e, sNil_e, sSet_e, sSet2_e, sRet_e, sRetN_e, sDrop_e, sIf_e, sBk_e, sCt_e, sFrz_e, sOwn_e, sFor_e, sUnp_e, eC_e, eOp_e, eUn_e, aNil_e, aCons_e, aApp_e, eFN_e, eCall_e, eMake_e, eCMeth_e, eCallO_e, eLst_e, eTup_e, nLst_e, nLc_e, eLc_e, lSeq_e, lTup_e, eIf_e, eAnd_e, eOr_e, eNot_e, bOf_e, bAnd_e, bOr_e, bNot_e, eFld_e, runB_e, env0_e, oN_e, List.set_cons_zero, List.set_cons_succ, List.map_cons, List.map_nil, List.cons_append, List.nil_append, List.replicate_succ, List.replicate_zero, List.length_cons, List.length_nil, List.getElem?_cons_zero, List.getElem?_cons_succ, reduceIte, if_true, if_false, Bool.false_eq_true, arN_t, decide_true, decide_false, isNon, Bool.not_true, Bool.not_false, Bool.true_and, Bool.false_and, Bool.and_true, Bool.and_false, bYes_e, lstMax_e, Nat.reduceAdd, Nat.reduceSub, Nat.reduceLeDiff, Int.reduceLT, Int.reduceLE, Int.reduceEq, String.reduceEq, and_self, decide_eq_true_eq, and_true, true_and, cPos_e, cDiv_e, fMod_i, fDiv_i, Int.reduceMod, Int.reduceDiv, Int.reduceSub, Int.reduceAdd, Int.reducePow, kOf_i, fsOf_i, fOwn_k, fOwn1_k, gFld_k, methO_e, methK_s, methA_s, ownK_s, ownK_n, ownK_m, own1K_s, own1K_n, fldK_s, sApp_e, appK_s, sOSub_e, osubK_s, eOIx_e, oixK_s, eOLen_e, olenK_s, ixN_p, Int.reduceToNat, Nat.reduceLT, oS_e, eSl_e, eSlT_e, kSet_e, kSet2_e, kDrop_e, kIf_t, kIf_f, kOwn_e, kApp_e, kOsub1_e, kOsub2_e, osK_s, kOix_e, ixK_s, kFor_e, kUnp_e, unpK_s, kOp1_e, kOp2_e, kUn_e, kC1_e, kC2_e, kA1_e, kA2_e, kFN_e, kCall_e, kMake_e, kCM_e, kMeth_e, kLst_e, lstK_s, kTup_e, tupK_s, kNl_e, nlK_s, nList_e, kNli_e, nliK_s, lOf_l, lOf_t, kNc1_e, kNc2_e, kLc1_e, kLc2_e, kSeq_e, kTpl_e, kEIf_t, kEIf_f, kEAnd_t, kEAnd_f, kEOr_t, kEOr_f, kENot_e, kB_e, kBAnd_t, kBAnd_f, kBOr_t, kBOr_f, kBNot_e, kOS_e, kSl1_e, kSl2_e, kSl3_e, kSt1_e, kSt2_e, kSt3_e, eMeth_e, kMe_e, lc_c, kL1_e, kL2_e, kT_t, kT_f, Int.cast_ofNat_Int, Int.natCast_zero, Int.natCast_one, lRng1_e, kRng_1, kRng_2, kRng_3, kRng_4, kRng_5, kRng_6, List.length_map, arS_0, sEr_e, sTryAs_e, tryK_nx, tryK_rt, tryK_er, afterO_rt, afterO_nx, eXf_e, xfS_s, xfK_s, plain_n, plain_e, List.all_cons, List.all_nil, eq_self, sTryN_e, tryN_nx, tryN_rt, tryN_h, tryN_t, dflI_e, dflF_e, not_false_eq_true, eMethK_e, kMK_e, kMK2_e, eProp_e, kPr_e, eNotO_e, kNotO_e, notK_s, eSlA_e, kSA1_e, kSA2_e, kSA3_l, kSA3_t, eGetO_e, kGet1_e, kGet2_e, getK_s, r2, e1, ↓q7, ↓fe, ↓t]⟩
  · obtain ⟨G', t⟩ := fin W H N m 4 b1 h1 (by omega) h3 (by omega) h5
    exact ⟨G', by simp -implicitDefEqProofs only [bind_ok, bind_er, bindN_ok, ofE_ok, ofE_er, seqO_nx, seqO_rt, seqO_er, seqO_bk, seqO_ct, loopO_nx, loopO_ct, loopO_bk, loopO_rt, loopO_er, lift_s, retO_rt, retO_nx, retO_er, mkO_ok, mkO_er, toOpt_ok, eVar_z, eVar_s, oL_z, oL_s, frz_z, frz_s, wipe_n, wipe_c, datas_n, datas_c, map_s, bind_s, setA_n, setA_c, p2_d, p1_d, pN_d, fEq_i, fEq_s, fEq_b, fEq_ii, fNe_i, fNe_s, fNe_b, fSub_i, fAdd_i, fAnd_i, fOr_i, fXor_i, fLt_i, fLe_i, fGt_i, fGe_i, fIs_d, fIsNot_d, fIsB_b, isB_b, tru_b, tru_i, tru_l, tru_t, orE_s, orE_n, alt2_e, alt1_e, altN_e, fIx_l, fIx_t, at_0, at_1, at_2, at_3, at_4, at_5, for_n, for_c, lc_n, len_lst, len_tup, kfn_c, kix_c, sSeq_e, sNil_e, sSet_e, sSet2_e, sRet_e, sRetN_e, sDrop_e, sIf_e, sBk_e, sCt_e, sFrz_e, sOwn_e, sFor_e, sUnp_e, eC_e, eOp_e, eUn_e, aNil_e, aCons_e, aApp_e, eFN_e, eCall_e, eMake_e, eCMeth_e, eCallO_e, eLst_e, eTup_e, nLst_e, nLc_e, eLc_e, lSeq_e, lTup_e, eIf_e, eAnd_e, eOr_e, eNot_e, bOf_e, bAnd_e, bOr_e, bNot_e, eFld_e, runB_e, env0_e, oN_e, List.set_cons_zero, List.set_cons_succ, List.map_cons, List.map_nil, List.cons_append, List.nil_append, List.replicate_succ, List.replicate_zero, List.length_cons, List.length_nil, List.getElem?_cons_zero, List.getElem?_cons_succ, reduceIte, if_true, if_false, Bool.false_eq_true, arN_t, decide_true, decide_false, isNon, Bool.not_true, Bool.not_false, Bool.true_and, Bool.false_and, Bool.and_true, Bool.and_false, bYes_e, lstMax_e, Nat.reduceAdd, Nat.reduceSub, Nat.reduceLeDiff, Int.reduceLT, Int.reduceLE, Int.reduceEq, String.reduceEq, and_self, decide_eq_true_eq, and_true, true_and, cPos_e, cDiv_e, fMod_i, fDiv_i, Int.reduceMod, Int.reduceDiv, Int.reduceSub, Int.reduceAdd, Int.reducePow, kOf_i, fsOf_i, fOwn_k, fOwn1_k, gFld_k, methO_e, methK_s, methA_s, ownK_s, ownK_n, ownK_m, own1K_s, own1K_n, fldK_s, sApp_e, appK_s, sOSub_e, osubK_s, eOIx_e, oixK_s, eOLen_e, olenK_s, ixN_p, Int.reduceToNat, Nat.reduceLT, oS_e, eSl_e, eSlT_e, kSet_e, kSet2_e, kDrop_e, kIf_t, kIf_f, kOwn_e, kApp_e, kOsub1_e, kOsub2_e, osK_s, kOix_e, ixK_s, kFor_e, kUnp_e, unpK_s, kOp1_e, kOp2_e, kUn_e, kC1_e, kC2_e, kA1_e, kA2_e, kFN_e, kCall_e, kMake_e, kCM_e, kMeth_e, kLst_e, lstK_s, kTup_e, tupK_s, kNl_e, nlK_s, nList_e, kNli_e, nliK_s, lOf_l, lOf_t, kNc1_e, kNc2_e, kLc1_e, kLc2_e, kSeq_e, kTpl_e, kEIf_t, kEIf_f, kEAnd_t, kEAnd_f, kEOr_t, kEOr_f, kENot_e, kB_e, kBAnd_t, kBAnd_f, kBOr_t, kBOr_f, kBNot_e, kOS_e, kSl1_e, kSl2_e, kSl3_e, kSt1_e, kSt2_e, kSt3_e, eMeth_e, kMe_e, lc_c, kL1_e, kL2_e, kT_t, kT_f, Int.cast_ofNat_Int, Int.natCast_zero, Int.natCast_one, lRng1_e, kRng_1, kRng_2, kRng_3, kRng_4, kRng_5, kRng_6, List.length_map, arS_0, sEr_e, sTryAs_e, tryK_nx, tryK_rt, tryK_er, afterO_rt, afterO_nx, eXf_e, xfS_s, xfK_s, plain_n, plain_e, List.all_cons, List.all_nil, eq_self, sTryN_e, tryN_nx, tryN_rt, tryN_h, tryN_t, dflI_e, dflF_e, not_false_eq_true, eMethK_e, kMK_e, kMK2_e, eProp_e, kPr_e, eNotO_e, kNotO_e, notK_s, eSlA_e, kSA1_e, kSA2_e, kSA3_l, kSA3_t, eGetO_e, kGet1_e, kGet2_e, getK_s, r2, e1, ↓q7, ↓fe, ↓t]⟩
theorem r1_ok {W H N : Nat} {way : Nat} (h1 : 1 ≤ W) (h2 : W ≤ 900) (h3 : 1 ≤ H) (h4 : H ≤ 900) (h5 : N < 64) (hw : way < 3) (z : EV) (b : Bx) :
    ∃ G', r1 (EnA z W H N (way : Nat) .no .no .no .no .no .no .no .no) (bS b) = .rt (.d (.bl true)) G' := by
  have n1 := num_ok h5 (bS b)
  have mk : ∀ m, mkO "Sheet" (g_Sheet___init___for_Sheet [.d (.int (W : Nat)), .d (.int (H : Nat)), .d (lightD N), .d (.bl m)] (bS b)) = .ok (.d (sheetD W H N m)) (bS b) := fun m => by rw [make_ok m h1 (by omega) h3 (by omega)]; rfl
  have gr := fun m => grid_ok (w := W) (h := H) (n := N) m (by omega) (by omega) (bS b)
  have ss := fun m => ssh_ok (w := W) (h := H) (n := N) m h3 (by omega) (by omega) h5 (bS b)
  have q7 : ∀ (way : Int) m, decide (way = 2) = m → ∀ G, rE (.d (.int way)) (.d (.int 2)) G = some (.d (.bl m), G) := fun way m hm G => by rw [fe_i, hm]
  rcases three hw with rfl | rfl | rfl
  · obtain ⟨G', t⟩ := r2_ok (way := 0) (m := false) h1 h2 h3 h4 h5 (by decide) z b
    have q := q7 0 false (by decide)
    have k := mk false
    have g := gr false
    have s := ss false
    unfold EnA at t ⊢
    exact ⟨G', by simp -implicitDefEqProofs only [bind_ok, bind_er, bindN_ok, ofE_ok, ofE_er, seqO_nx, seqO_rt, seqO_er, seqO_bk, seqO_ct, loopO_nx, loopO_ct, loopO_bk, loopO_rt, loopO_er, lift_s, retO_rt, retO_nx, retO_er, mkO_ok, mkO_er, toOpt_ok, eVar_z, eVar_s, oL_z, oL_s, frz_z, frz_s, wipe_n, wipe_c, datas_n, datas_c, map_s, bind_s, setA_n, setA_c, p2_d, p1_d, pN_d, fEq_i, fEq_s, fEq_b, fEq_ii, fNe_i, fNe_s, fNe_b, fSub_i, fAdd_i, fAnd_i, fOr_i, fXor_i, fLt_i, fLe_i, fGt_i, fGe_i, fIs_d, fIsNot_d, fIsB_b, isB_b, tru_b, tru_i, tru_l, tru_t, orE_s, orE_n, alt2_e, alt1_e, altN_e, fIx_l, fIx_t, at_0, at_1, at_2, at_3, at_4, at_5, for_n, for_c, lc_n, len_lst, len_tup, kfn_c, kix_c, sSeq_e, sNil_e, sSet_e, sSet2_e, sRet_e, sRetN_e, sDrop_e, sIf_e, sBk_e, sCt_e, sFrz_e, sOwn_e, sFor_e, sUnp_e, eC_e, eOp_e, eUn_e, aNil_e, aCons_e, aApp_e, eFN_e, eCall_e, eMake_e, eCMeth_e, eCallO_e, eLst_e, eTup_e, nLst_e, nLc_e, eLc_e, lSeq_e, lTup_e, eIf_e, eAnd_e, eOr_e, eNot_e, bOf_e, bAnd_e, bOr_e, bNot_e, eFld_e, runB_e, env0_e, oN_e, List.set_cons_zero, List.set_cons_succ, List.map_cons, List.map_nil, List.cons_append, List.nil_append, List.replicate_succ, List.replicate_zero, List.length_cons, List.length_nil, List.getElem?_cons_zero, List.getElem?_cons_succ, reduceIte, if_true, if_false, Bool.false_eq_true, arN_t, decide_true, decide_false, isNon, Bool.not_true, Bool.not_false, Bool.true_and, Bool.false_and, Bool.and_true, Bool.and_false, bYes_e, lstMax_e, Nat.reduceAdd, Nat.reduceSub, Nat.reduceLeDiff, Int.reduceLT, Int.reduceLE, Int.reduceEq, String.reduceEq, and_self, decide_eq_true_eq, and_true, true_and, cPos_e, cDiv_e, fMod_i, fDiv_i, Int.reduceMod, Int.reduceDiv, Int.reduceSub, Int.reduceAdd, Int.reducePow, kOf_i, fsOf_i, fOwn_k, fOwn1_k, gFld_k, methO_e, methK_s, methA_s, ownK_s, ownK_n, ownK_m, own1K_s, own1K_n, fldK_s, sApp_e, appK_s, sOSub_e, osubK_s, eOIx_e, oixK_s, eOLen_e, olenK_s, ixN_p, Int.reduceToNat, Nat.reduceLT, oS_e, eSl_e, eSlT_e, kSet_e, kSet2_e, kDrop_e, kIf_t, kIf_f, kOwn_e, kApp_e, kOsub1_e, kOsub2_e, osK_s, kOix_e, ixK_s, kFor_e, kUnp_e, unpK_s, kOp1_e, kOp2_e, kUn_e, kC1_e, kC2_e, kA1_e, kA2_e, kFN_e, kCall_e, kMake_e, kCM_e, kMeth_e, kLst_e, lstK_s, kTup_e, tupK_s, kNl_e, nlK_s, nList_e, kNli_e, nliK_s, lOf_l, lOf_t, kNc1_e, kNc2_e, kLc1_e, kLc2_e, kSeq_e, kTpl_e, kEIf_t, kEIf_f, kEAnd_t, kEAnd_f, kEOr_t, kEOr_f, kENot_e, kB_e, kBAnd_t, kBAnd_f, kBOr_t, kBOr_f, kBNot_e, kOS_e, kSl1_e, kSl2_e, kSl3_e, kSt1_e, kSt2_e, kSt3_e, eMeth_e, kMe_e, lc_c, kL1_e, kL2_e, kT_t, kT_f, Int.cast_ofNat_Int, Int.natCast_zero, Int.natCast_one, lRng1_e, kRng_1, kRng_2, kRng_3, kRng_4, kRng_5, kRng_6, List.length_map, arS_0, sEr_e, sTryAs_e, tryK_nx, tryK_rt, tryK_er, afterO_rt, afterO_nx, eXf_e, xfS_s, xfK_s, plain_n, plain_e, List.all_cons, List.all_nil, eq_self, sTryN_e, tryN_nx, tryN_rt, tryN_h, tryN_t, dflI_e, dflF_e, not_false_eq_true, eMethK_e, kMK_e, kMK2_e, eProp_e, kPr_e, eNotO_e, kNotO_e, notK_s, eSlA_e, kSA1_e, kSA2_e, kSA3_l, kSA3_t, eGetO_e, kGet1_e, kGet2_e, getK_s, r1, n1, k, g, s, ↓q, ↓t]⟩
  · obtain ⟨G', t⟩ := r2_ok (way := 1) (m := false) h1 h2 h3 h4 h5 (by decide) z b
    have q := q7 1 false (by decide)
    have k := mk false
    have g := gr false
    have s := ss false
    unfold EnA at t ⊢
    exact ⟨G', by simp -implicitDefEqProofs only [bind_ok, bind_er, bindN_ok, ofE_ok, ofE_er, seqO_nx, seqO_rt, seqO_er, seqO_bk, seqO_ct, loopO_nx, loopO_ct, loopO_bk, loopO_rt, loopO_er, lift_s, retO_rt, retO_nx, retO_er, mkO_ok, mkO_er, toOpt_ok, eVar_z, eVar_s, oL_z, oL_s, frz_z, frz_s, wipe_n, wipe_c, datas_n, datas_c, map_s, bind_s, setA_n, setA_c, p2_d, p1_d, pN_d, fEq_i, fEq_s, fEq_b, fEq_ii, fNe_i, fNe_s, fNe_b, fSub_i, fAdd_i, fAnd_i, fOr_i, fXor_i, fLt_i, fLe_i, fGt_i, fGe_i, fIs_d, fIsNot_d, fIsB_b, isB_b, tru_b, tru_i, tru_l, tru_t, orE_s, orE_n, alt2_e, alt1_e, altN_e, fIx_l, fIx_t, at_0, at_1, at_2, at_3, at_4, at_5, for_n, for_c, lc_n, len_lst, len_tup, kfn_c, kix_c, sSeq_e, sNil_e, sSet_e, sSet2_e, sRet_e, sRetN_e, sDrop_e, sIf_e, sBk_e, sCt_e, sFrz_e, sOwn_e, sFor_e, sUnp_e, eC_e, eOp_e, eUn_e, aNil_e, aCons_e, aApp_e, eFN_e, eCall_e, eMake_e, eCMeth_e, eCallO_e, eLst_e, eTup_e, nLst_e, nLc_e, eLc_e, lSeq_e, lTup_e, eIf_e, eAnd_e, eOr_e, eNot_e, bOf_e, bAnd_e, bOr_e, bNot_e, eFld_e, runB_e, env0_e, oN_e, List.set_cons_zero, List.set_cons_succ, List.map_cons, List.map_nil, List.cons_append, List.nil_append, List.replicate_succ, List.replicate_zero, List.length_cons, List.length_nil, List.getElem?_cons_zero, List.getElem?_cons_succ, reduceIte, if_true, if_false, Bool.false_eq_true, arN_t, decide_true, decide_false, isNon, Bool.not_true, Bool.not_false, Bool.true_and, Bool.false_and, Bool.and_true, Bool.and_false, bYes_e, lstMax_e, Nat.reduceAdd, Nat.reduceSub, Nat.reduceLeDiff, Int.reduceLT, Int.reduceLE, Int.reduceEq, String.reduceEq, and_self, decide_eq_true_eq, and_true, true_and, cPos_e, cDiv_e, fMod_i, fDiv_i, Int.reduceMod, Int.reduceDiv, Int.reduceSub, Int.reduceAdd, Int.reducePow, kOf_i, fsOf_i, fOwn_k, fOwn1_k, gFld_k, methO_e, methK_s, methA_s, ownK_s, ownK_n, ownK_m, own1K_s, own1K_n, fldK_s, sApp_e, appK_s, sOSub_e, osubK_s, eOIx_e, oixK_s, eOLen_e, olenK_s, ixN_p, Int.reduceToNat, Nat.reduceLT, oS_e, eSl_e, eSlT_e, kSet_e, kSet2_e, kDrop_e, kIf_t, kIf_f, kOwn_e, kApp_e, kOsub1_e, kOsub2_e, osK_s, kOix_e, ixK_s, kFor_e, kUnp_e, unpK_s, kOp1_e, kOp2_e, kUn_e, kC1_e, kC2_e, kA1_e, kA2_e, kFN_e, kCall_e, kMake_e, kCM_e, kMeth_e, kLst_e, lstK_s, kTup_e, tupK_s, kNl_e, nlK_s, nList_e, kNli_e, nliK_s, lOf_l, lOf_t, kNc1_e, kNc2_e, kLc1_e, kLc2_e, kSeq_e, kTpl_e, kEIf_t, kEIf_f, kEAnd_t, kEAnd_f, kEOr_t, kEOr_f, kENot_e, kB_e, kBAnd_t, kBAnd_f, kBOr_t, kBOr_f, kBNot_e, kOS_e, kSl1_e, kSl2_e, kSl3_e, kSt1_e, kSt2_e, kSt3_e, eMeth_e, kMe_e, lc_c, kL1_e, kL2_e, kT_t, kT_f, Int.cast_ofNat_Int, Int.natCast_zero, Int.natCast_one, lRng1_e, kRng_1, kRng_2, kRng_3, kRng_4, kRng_5, kRng_6, List.length_map, arS_0, sEr_e, sTryAs_e, tryK_nx, tryK_rt, tryK_er, afterO_rt, afterO_nx, eXf_e, xfS_s, xfK_s, plain_n, plain_e, List.all_cons, List.all_nil, eq_self, sTryN_e, tryN_nx, tryN_rt, tryN_h, tryN_t, dflI_e, dflF_e, not_false_eq_true, eMethK_e, kMK_e, kMK2_e, eProp_e, kPr_e, eNotO_e, kNotO_e, notK_s, eSlA_e, kSA1_e, kSA2_e, kSA3_l, kSA3_t, eGetO_e, kGet1_e, kGet2_e, getK_s, r1, n1, k, g, s, ↓q, ↓t]⟩
  · obtain ⟨G', t⟩ := r2_ok (way := 2) (m := true) h1 h2 h3 h4 h5 (by decide) z b
    have q := q7 2 true (by decide)
    have k := mk true
    have k0 := mk false
    have g := gr true
    have s := ss true
    unfold EnA at t ⊢
    exact ⟨G', by simp -implicitDefEqProofs only [bind_ok, bind_er, bindN_ok, ofE_ok, ofE_er, seqO_nx, seqO_rt, seqO_er, seqO_bk, seqO_ct, loopO_nx, loopO_ct, loopO_bk, loopO_rt, loopO_er, lift_s, retO_rt, retO_nx, retO_er, mkO_ok, mkO_er, toOpt_ok, eVar_z, eVar_s, oL_z, oL_s, frz_z, frz_s, wipe_n, wipe_c, datas_n, datas_c, map_s, bind_s, setA_n, setA_c, p2_d, p1_d, pN_d, fEq_i, fEq_s, fEq_b, fEq_ii, fNe_i, fNe_s, fNe_b, fSub_i, fAdd_i, fAnd_i, fOr_i, fXor_i, fLt_i, fLe_i, fGt_i, fGe_i, fIs_d, fIsNot_d, fIsB_b, isB_b, tru_b, tru_i, tru_l, tru_t, orE_s, orE_n, alt2_e, alt1_e, altN_e, fIx_l, fIx_t, at_0, at_1, at_2, at_3, at_4, at_5, for_n, for_c, lc_n, len_lst, len_tup, kfn_c, kix_c, sSeq_e, sNil_e, sSet_e, sSet2_e, sRet_e, sRetN_e, sDrop_e, sIf_e, sBk_e, sCt_e, sFrz_e, sOwn_e, sFor_e, sUnp_e, eC_e, eOp_e, eUn_e, aNil_e, aCons_e, aApp_e, eFN_e, eCall_e, eMake_e, eCMeth_e, eCallO_e, eLst_e, eTup_e, nLst_e, nLc_e, eLc_e, lSeq_e, lTup_e, eIf_e, eAnd_e, eOr_e, eNot_e, bOf_e, bAnd_e, bOr_e, bNot_e, eFld_e, runB_e, env0_e, oN_e, List.set_cons_zero, List.set_cons_succ, List.map_cons, List.map_nil, List.cons_append, List.nil_append, List.replicate_succ, List.replicate_zero, List.length_cons, List.length_nil, List.getElem?_cons_zero, List.getElem?_cons_succ, reduceIte, if_true, if_false, Bool.false_eq_true, arN_t, decide_true, decide_false, isNon, Bool.not_true, Bool.not_false, Bool.true_and, Bool.false_and, Bool.and_true, Bool.and_false, bYes_e, lstMax_e, Nat.reduceAdd, Nat.reduceSub, Nat.reduceLeDiff, Int.reduceLT, Int.reduceLE, Int.reduceEq, String.reduceEq, and_self, decide_eq_true_eq, and_true, true_and, cPos_e, cDiv_e, fMod_i, fDiv_i, Int.reduceMod, Int.reduceDiv, Int.reduceSub, Int.reduceAdd, Int.reducePow, kOf_i, fsOf_i, fOwn_k, fOwn1_k, gFld_k, methO_e, methK_s, methA_s, ownK_s, ownK_n, ownK_m, own1K_s, own1K_n, fldK_s, sApp_e, appK_s, sOSub_e, osubK_s, eOIx_e, oixK_s, eOLen_e, olenK_s, ixN_p, Int.reduceToNat, Nat.reduceLT, oS_e, eSl_e, eSlT_e, kSet_e, kSet2_e, kDrop_e, kIf_t, kIf_f, kOwn_e, kApp_e, kOsub1_e, kOsub2_e, osK_s, kOix_e, ixK_s, kFor_e, kUnp_e, unpK_s, kOp1_e, kOp2_e, kUn_e, kC1_e, kC2_e, kA1_e, kA2_e, kFN_e, kCall_e, kMake_e, kCM_e, kMeth_e, kLst_e, lstK_s, kTup_e, tupK_s, kNl_e, nlK_s, nList_e, kNli_e, nliK_s, lOf_l, lOf_t, kNc1_e, kNc2_e, kLc1_e, kLc2_e, kSeq_e, kTpl_e, kEIf_t, kEIf_f, kEAnd_t, kEAnd_f, kEOr_t, kEOr_f, kENot_e, kB_e, kBAnd_t, kBAnd_f, kBOr_t, kBOr_f, kBNot_e, kOS_e, kSl1_e, kSl2_e, kSl3_e, kSt1_e, kSt2_e, kSt3_e, eMeth_e, kMe_e, lc_c, kL1_e, kL2_e, kT_t, kT_f, Int.cast_ofNat_Int, Int.natCast_zero, Int.natCast_one, lRng1_e, kRng_1, kRng_2, kRng_3, kRng_4, kRng_5, kRng_6, List.length_map, arS_0, sEr_e, sTryAs_e, tryK_nx, tryK_rt, tryK_er, afterO_rt, afterO_nx, eXf_e, xfS_s, xfK_s, plain_n, plain_e, List.all_cons, List.all_nil, eq_self, sTryN_e, tryN_nx, tryN_rt, tryN_h, tryN_t, dflI_e, dflF_e, not_false_eq_true, eMethK_e, kMK_e, kMK2_e, eProp_e, kPr_e, eNotO_e, kNotO_e, notK_s, eSlA_e, kSA1_e, kSA2_e, kSA3_l, kSA3_t, eGetO_e, kGet1_e, kGet2_e, getK_s, r1, n1, k0, k, g, s, ↓q, ↓t]⟩
theorem math (ns : List Int) (hns : ns.length ≤ 63) : ∃ G', g_law [scr ns] [] = .ok (.d (.bl true)) G' := by
  have hbox := box_ok ns hns
  have e0 : bS (ns, 0, 1) = bx ns 0 1 := rfl
  obtain ⟨w, b0, e1, hw⟩ := draw_s (ns, 0, 1) 6 (by decide) (by decide)
  rw [e0] at e1
  obtain ⟨h, b1, e2, hh⟩ := draw_s b0 5 (by decide) (by decide)
  obtain ⟨v, b2, e3, hv⟩ := draw_s b1 8 (by decide) (by decide)
  obtain ⟨n, b3, e4, hn⟩ := draw_s b2 64 (by decide) (by decide)
  obtain ⟨y, b4, e5, hy⟩ := draw_s b3 3 (by decide) (by decide)
  have fe := fe_i
  have a1 : (1 : Int) + (w : Nat) = ((1 + w : Nat) : Int) := by omega
  have a2 : (1 : Int) + (h : Nat) = ((1 + h : Nat) : Int) := by omega
  by_cases hv7 : v = 7
  · have d : decide ((v : Int) = 7) = true := decide_eq_true (by omega)
    obtain ⟨G', t⟩ := r1_ok (W := 39) (H := 1 + h) (N := n) (way := y) (by omega) (by omega) (by omega) (by omega) (by omega) (by omega) (scr ns) b4
    unfold r1 r2 r3 r4 r5 EnA at t
    rw [show ((39 : Nat) : Int) = 39 from rfl] at t
    exact ⟨G', by simp -implicitDefEqProofs only [bind_ok, bind_er, bindN_ok, ofE_ok, ofE_er, seqO_nx, seqO_rt, seqO_er, seqO_bk, seqO_ct, loopO_nx, loopO_ct, loopO_bk, loopO_rt, loopO_er, lift_s, retO_rt, retO_nx, retO_er, mkO_ok, mkO_er, toOpt_ok, eVar_z, eVar_s, oL_z, oL_s, frz_z, frz_s, wipe_n, wipe_c, datas_n, datas_c, map_s, bind_s, setA_n, setA_c, p2_d, p1_d, pN_d, fEq_i, fEq_s, fEq_b, fEq_ii, fNe_i, fNe_s, fNe_b, fSub_i, fAdd_i, fAnd_i, fOr_i, fXor_i, fLt_i, fLe_i, fGt_i, fGe_i, fIs_d, fIsNot_d, fIsB_b, isB_b, tru_b, tru_i, tru_l, tru_t, orE_s, orE_n, alt2_e, alt1_e, altN_e, fIx_l, fIx_t, at_0, at_1, at_2, at_3, at_4, at_5, for_n, for_c, lc_n, len_lst, len_tup, kfn_c, kix_c, sSeq_e, sNil_e, sSet_e, sSet2_e, sRet_e, sRetN_e, sDrop_e, sIf_e, sBk_e, sCt_e, sFrz_e, sOwn_e, sFor_e, sUnp_e, eC_e, eOp_e, eUn_e, aNil_e, aCons_e, aApp_e, eFN_e, eCall_e, eMake_e, eCMeth_e, eCallO_e, eLst_e, eTup_e, nLst_e, nLc_e, eLc_e, lSeq_e, lTup_e, eIf_e, eAnd_e, eOr_e, eNot_e, bOf_e, bAnd_e, bOr_e, bNot_e, eFld_e, runB_e, env0_e, oN_e, List.set_cons_zero, List.set_cons_succ, List.map_cons, List.map_nil, List.cons_append, List.nil_append, List.replicate_succ, List.replicate_zero, List.length_cons, List.length_nil, List.getElem?_cons_zero, List.getElem?_cons_succ, reduceIte, if_true, if_false, Bool.false_eq_true, arN_t, decide_true, decide_false, isNon, Bool.not_true, Bool.not_false, Bool.true_and, Bool.false_and, Bool.and_true, Bool.and_false, bYes_e, lstMax_e, Nat.reduceAdd, Nat.reduceSub, Nat.reduceLeDiff, Int.reduceLT, Int.reduceLE, Int.reduceEq, String.reduceEq, and_self, decide_eq_true_eq, and_true, true_and, cPos_e, cDiv_e, fMod_i, fDiv_i, Int.reduceMod, Int.reduceDiv, Int.reduceSub, Int.reduceAdd, Int.reducePow, kOf_i, fsOf_i, fOwn_k, fOwn1_k, gFld_k, methO_e, methK_s, methA_s, ownK_s, ownK_n, ownK_m, own1K_s, own1K_n, fldK_s, sApp_e, appK_s, sOSub_e, osubK_s, eOIx_e, oixK_s, eOLen_e, olenK_s, ixN_p, Int.reduceToNat, Nat.reduceLT, oS_e, eSl_e, eSlT_e, kSet_e, kSet2_e, kDrop_e, kIf_t, kIf_f, kOwn_e, kApp_e, kOsub1_e, kOsub2_e, osK_s, kOix_e, ixK_s, kFor_e, kUnp_e, unpK_s, kOp1_e, kOp2_e, kUn_e, kC1_e, kC2_e, kA1_e, kA2_e, kFN_e, kCall_e, kMake_e, kCM_e, kMeth_e, kLst_e, lstK_s, kTup_e, tupK_s, kNl_e, nlK_s, nList_e, kNli_e, nliK_s, lOf_l, lOf_t, kNc1_e, kNc2_e, kLc1_e, kLc2_e, kSeq_e, kTpl_e, kEIf_t, kEIf_f, kEAnd_t, kEAnd_f, kEOr_t, kEOr_f, kENot_e, kB_e, kBAnd_t, kBAnd_f, kBOr_t, kBOr_f, kBNot_e, kOS_e, kSl1_e, kSl2_e, kSl3_e, kSt1_e, kSt2_e, kSt3_e, eMeth_e, kMe_e, lc_c, kL1_e, kL2_e, kT_t, kT_f, Int.cast_ofNat_Int, Int.natCast_zero, Int.natCast_one, lRng1_e, kRng_1, kRng_2, kRng_3, kRng_4, kRng_5, kRng_6, List.length_map, arS_0, sEr_e, sTryAs_e, tryK_nx, tryK_rt, tryK_er, afterO_rt, afterO_nx, eXf_e, xfS_s, xfK_s, plain_n, plain_e, List.all_cons, List.all_nil, eq_self, sTryN_e, tryN_nx, tryN_rt, tryN_h, tryN_t, dflI_e, dflF_e, not_false_eq_true, eMethK_e, kMK_e, kMK2_e, eProp_e, kPr_e, eNotO_e, kNotO_e, notK_s, eSlA_e, kSA1_e, kSA2_e, kSA3_l, kSA3_t, eGetO_e, kGet1_e, kGet2_e, getK_s, g_law, m_law, hbox, e1, e2, e3, e4, e5, a1, a2, ↓fe, d, ↓t]⟩
  · have d : decide ((v : Int) = 7) = false := decide_eq_false (by omega)
    obtain ⟨G', t⟩ := r1_ok (W := 1 + w) (H := 1 + h) (N := n) (way := y) (by omega) (by omega) (by omega) (by omega) (by omega) (by omega) (scr ns) b4
    unfold r1 r2 r3 r4 r5 EnA at t
    exact ⟨G', by simp -implicitDefEqProofs only [bind_ok, bind_er, bindN_ok, ofE_ok, ofE_er, seqO_nx, seqO_rt, seqO_er, seqO_bk, seqO_ct, loopO_nx, loopO_ct, loopO_bk, loopO_rt, loopO_er, lift_s, retO_rt, retO_nx, retO_er, mkO_ok, mkO_er, toOpt_ok, eVar_z, eVar_s, oL_z, oL_s, frz_z, frz_s, wipe_n, wipe_c, datas_n, datas_c, map_s, bind_s, setA_n, setA_c, p2_d, p1_d, pN_d, fEq_i, fEq_s, fEq_b, fEq_ii, fNe_i, fNe_s, fNe_b, fSub_i, fAdd_i, fAnd_i, fOr_i, fXor_i, fLt_i, fLe_i, fGt_i, fGe_i, fIs_d, fIsNot_d, fIsB_b, isB_b, tru_b, tru_i, tru_l, tru_t, orE_s, orE_n, alt2_e, alt1_e, altN_e, fIx_l, fIx_t, at_0, at_1, at_2, at_3, at_4, at_5, for_n, for_c, lc_n, len_lst, len_tup, kfn_c, kix_c, sSeq_e, sNil_e, sSet_e, sSet2_e, sRet_e, sRetN_e, sDrop_e, sIf_e, sBk_e, sCt_e, sFrz_e, sOwn_e, sFor_e, sUnp_e, eC_e, eOp_e, eUn_e, aNil_e, aCons_e, aApp_e, eFN_e, eCall_e, eMake_e, eCMeth_e, eCallO_e, eLst_e, eTup_e, nLst_e, nLc_e, eLc_e, lSeq_e, lTup_e, eIf_e, eAnd_e, eOr_e, eNot_e, bOf_e, bAnd_e, bOr_e, bNot_e, eFld_e, runB_e, env0_e, oN_e, List.set_cons_zero, List.set_cons_succ, List.map_cons, List.map_nil, List.cons_append, List.nil_append, List.replicate_succ, List.replicate_zero, List.length_cons, List.length_nil, List.getElem?_cons_zero, List.getElem?_cons_succ, reduceIte, if_true, if_false, Bool.false_eq_true, arN_t, decide_true, decide_false, isNon, Bool.not_true, Bool.not_false, Bool.true_and, Bool.false_and, Bool.and_true, Bool.and_false, bYes_e, lstMax_e, Nat.reduceAdd, Nat.reduceSub, Nat.reduceLeDiff, Int.reduceLT, Int.reduceLE, Int.reduceEq, String.reduceEq, and_self, decide_eq_true_eq, and_true, true_and, cPos_e, cDiv_e, fMod_i, fDiv_i, Int.reduceMod, Int.reduceDiv, Int.reduceSub, Int.reduceAdd, Int.reducePow, kOf_i, fsOf_i, fOwn_k, fOwn1_k, gFld_k, methO_e, methK_s, methA_s, ownK_s, ownK_n, ownK_m, own1K_s, own1K_n, fldK_s, sApp_e, appK_s, sOSub_e, osubK_s, eOIx_e, oixK_s, eOLen_e, olenK_s, ixN_p, Int.reduceToNat, Nat.reduceLT, oS_e, eSl_e, eSlT_e, kSet_e, kSet2_e, kDrop_e, kIf_t, kIf_f, kOwn_e, kApp_e, kOsub1_e, kOsub2_e, osK_s, kOix_e, ixK_s, kFor_e, kUnp_e, unpK_s, kOp1_e, kOp2_e, kUn_e, kC1_e, kC2_e, kA1_e, kA2_e, kFN_e, kCall_e, kMake_e, kCM_e, kMeth_e, kLst_e, lstK_s, kTup_e, tupK_s, kNl_e, nlK_s, nList_e, kNli_e, nliK_s, lOf_l, lOf_t, kNc1_e, kNc2_e, kLc1_e, kLc2_e, kSeq_e, kTpl_e, kEIf_t, kEIf_f, kEAnd_t, kEAnd_f, kEOr_t, kEOr_f, kENot_e, kB_e, kBAnd_t, kBAnd_f, kBOr_t, kBOr_f, kBNot_e, kOS_e, kSl1_e, kSl2_e, kSl3_e, kSt1_e, kSt2_e, kSt3_e, eMeth_e, kMe_e, lc_c, kL1_e, kL2_e, kT_t, kT_f, Int.cast_ofNat_Int, Int.natCast_zero, Int.natCast_one, lRng1_e, kRng_1, kRng_2, kRng_3, kRng_4, kRng_5, kRng_6, List.length_map, arS_0, sEr_e, sTryAs_e, tryK_nx, tryK_rt, tryK_er, afterO_rt, afterO_nx, eXf_e, xfS_s, xfK_s, plain_n, plain_e, List.all_cons, List.all_nil, eq_self, sTryN_e, tryN_nx, tryN_rt, tryN_h, tryN_t, dflI_e, dflF_e, not_false_eq_true, eMethK_e, kMK_e, kMK2_e, eProp_e, kPr_e, eNotO_e, kNotO_e, notK_s, eSlA_e, kSA1_e, kSA2_e, kSA3_l, kSA3_t, eGetO_e, kGet1_e, kGet2_e, getK_s, g_law, m_law, hbox, e1, e2, e3, e4, e5, a1, a2, ↓fe, d, ↓t]⟩
end K61
open PySem PySem.W PyProof.Rows
set_option maxRecDepth 100000 in
set_option maxHeartbeats 0 in
theorem PySem.Challenge.cw_laidink_k61_sheet_made_holds : PySem.Challenge.rw_laidink_k61_sheet_made.Holds := by
  w_on; o_law; k_head; (case hw => w_witness2)
  k_fill
  refine DL.walk (k := 8) (x := "_law_script") (l := PySem.Challenge.rw_laidink_k61_sheet_made) rfl rfl ⟨rfl, by decide, by decide⟩ (fun w h Y => PySem.W.kIn_of Y) ?F
  case F =>
    intro w mg fa h KX G hmg
    refine' K61.all_mk KX G hmg ?aC_Light ?aC_Sheet ?aC_UnknownPlace ?a__law_box ?l__law_box ?c__law_box ?k__law_box ?a__law_draw ?l__law_draw ?c__law_draw ?k__law_draw ?a_Sheet___eq__ ?i_Sheet___eq__ ?l_Sheet___eq__ ?c_Sheet___eq__ ?k_Sheet___eq__ ?a_Sheet___init__ ?i_Sheet___init__ ?l_Sheet___init__ ?kd_Sheet___init___inked ?c_Sheet___init__ ?k_Sheet___init__ ?a__bands_of ?l__bands_of ?c__bands_of ?k__bands_of ?a_check_band ?l_check_band ?c_check_band ?k_check_band ?a_Light___init__ ?i_Light___init__ ?l_Light___init__ ?c_Light___init__ ?k_Light___init__ ?a__light ?l__light ?c__light ?k__light ?a_Light_numbered ?r1_Light_numbered ?i_Light_numbered ?l_Light_numbered ?c_Light_numbered ?k_Light_numbered ?a__law_int ?l__law_int ?c__law_int ?k__law_int ?a__law_bands ?l__law_bands ?c__law_bands ?k__law_bands ?a__law_same_light ?l__law_same_light ?c__law_same_light ?k__law_same_light ?a__law_same_state ?l__law_same_state ?c__law_same_state ?k__law_same_state ?a_Sheet_at ?i_Sheet_at ?l_Sheet_at ?c_Sheet_at ?k_Sheet_at ?a__law_same_sheet ?l__law_same_sheet ?c__law_same_sheet ?k__law_same_sheet ?a__law_grid ?l__law_grid ?c__law_grid ?k__law_grid ?a__law_is ?l__law_is ?c__law_is ?k__law_is ?a_law ?l_law ?c_law ?k_law ?pg_Light ?hd_Light ?po_Light ?sa_Light ?pg_Sheet ?hd_Sheet ?po_Sheet ?sa_Sheet ?n_Light_bands ?n_Light_number ?n_Sheet__lines ?n_Sheet_height ?n_Sheet_width ?mk_Light ?kc_Light ?mk_Sheet ?kc_Sheet ?rd_Light ?ga_Light ?v_Light_BANDS ?co_LIGHTS ?sf_Sheet ?nf_Sheet_own_Sheet ?nf_Sheet_ty_int ?ica_Light ?icm_Light ?ica_Sheet ?icm_Sheet ?ikn ?ikt ?it_own_Light_own_Light ?it_own_Sheet_own_Sheet ?it_ty_int_own_Sheet ?it_ty_tuple_ty_tuple ?it_ty_int_ty_int ?it_ty_int_ty_bool ?it_ty_bool_ty_bool ?no_all ?no_bool ?no_int ?no_isinstance ?no_len ?no_range ?no_super ?no_tuple ?a_UnknownPlace___init__ ?l_UnknownPlace___init__ ?c_UnknownPlace___init__ ?lc_UnknownPlace___init__ ?vf_UnknownPlace___init__ ?pf_UnknownPlace___init__ ?ce_UnknownPlace___init__ ?topS ?hst ?ex_UnknownPlace___init__ ?rv_UnknownPlace___init__ ?sa_UnknownPlace___init__ ?xc_UnknownPlace___init__ ?tc_UnknownPlace___init__ ?kc_UnknownPlace___init__ ?tf_UnknownPlace___init__ ?si_UnknownPlace___init__ ?su_UnknownPlace___init__ ?hn_UnknownPlace___init__ ?hn2_UnknownPlace___init__ ?xg_UnknownPlace___init__ ?xh_UnknownPlace___init__ ?xd_UnknownPlace___init__ ?xm_UnknownPlace_UnknownPlace K61.math
    case aC_Light => k_is
    case aC_Sheet => k_is
    case aC_UnknownPlace => k_is
    case a__law_box => k_is
    case l__law_box => k_is
    case c__law_box => k_is
    case k__law_box => k_is
    case a__law_draw => k_is
    case l__law_draw => k_is
    case c__law_draw => k_is
    case k__law_draw => k_is
    case a_Sheet___eq__ => k_is
    case i_Sheet___eq__ => k_is
    case l_Sheet___eq__ => k_is
    case c_Sheet___eq__ => k_is
    case k_Sheet___eq__ => k_is
    case a_Sheet___init__ => k_is
    case i_Sheet___init__ => k_is
    case l_Sheet___init__ => k_is
    case kd_Sheet___init___inked => k_is
    case c_Sheet___init__ => k_is
    case k_Sheet___init__ => k_is
    case a__bands_of => k_is
    case l__bands_of => k_is
    case c__bands_of => k_is
    case k__bands_of => k_is
    case a_check_band => k_is
    case l_check_band => k_is
    case c_check_band => k_is
    case k_check_band => k_is
    case a_Light___init__ => k_is
    case i_Light___init__ => k_is
    case l_Light___init__ => k_is
    case c_Light___init__ => k_is
    case k_Light___init__ => k_is
    case a__light => k_is
    case l__light => k_is
    case c__light => k_is
    case k__light => k_is
    case a_Light_numbered => k_is
    case r1_Light_numbered => k_is
    case i_Light_numbered => k_is
    case l_Light_numbered => k_is
    case c_Light_numbered => k_is
    case k_Light_numbered => k_is
    case a__law_int => k_is
    case l__law_int => k_is
    case c__law_int => k_is
    case k__law_int => k_is
    case a__law_bands => k_is
    case l__law_bands => k_is
    case c__law_bands => k_is
    case k__law_bands => k_is
    case a__law_same_light => k_is
    case l__law_same_light => k_is
    case c__law_same_light => k_is
    case k__law_same_light => k_is
    case a__law_same_state => k_is
    case l__law_same_state => k_is
    case c__law_same_state => k_is
    case k__law_same_state => k_is
    case a_Sheet_at => k_is
    case i_Sheet_at => k_is
    case l_Sheet_at => k_is
    case c_Sheet_at => k_is
    case k_Sheet_at => k_is
    case a__law_same_sheet => k_is
    case l__law_same_sheet => k_is
    case c__law_same_sheet => k_is
    case k__law_same_sheet => k_is
    case a__law_grid => k_is
    case l__law_grid => k_is
    case c__law_grid => k_is
    case k__law_grid => k_is
    case a__law_is => k_is
    case l__law_is => k_is
    case c__law_is => k_is
    case k__law_is => k_is
    case a_law => k_is
    case l_law => k_is
    case c_law => k_is
    case k_law => k_is
    case pg_Light => k_is
    case hd_Light => k_is
    case po_Light => k_is
    case sa_Light => k_is
    case pg_Sheet => k_is
    case hd_Sheet => k_is
    case po_Sheet => k_is
    case sa_Sheet => k_is
    case n_Light_bands => k_is
    case n_Light_number => k_is
    case n_Sheet__lines => k_is
    case n_Sheet_height => k_is
    case n_Sheet_width => k_is
    case mk_Light => k_is
    case kc_Light => k_is
    case mk_Sheet => k_is
    case kc_Sheet => k_is
    case rd_Light => k_is
    case ga_Light => k_is
    case v_Light_BANDS => k_is
    case co_LIGHTS => k_is
    case sf_Sheet => k_is
    case nf_Sheet_own_Sheet => k_is
    case nf_Sheet_ty_int => k_is
    case ica_Light => k_is
    case icm_Light => k_is
    case ica_Sheet => k_is
    case icm_Sheet => k_is
    case ikn => k_is
    case ikt => k_is
    case it_own_Light_own_Light => kit_is
    case it_own_Sheet_own_Sheet => kit_is
    case it_ty_int_own_Sheet => kit_is
    case it_ty_tuple_ty_tuple => kit_is
    case it_ty_int_ty_int => kit_is
    case it_ty_int_ty_bool => kit_is
    case it_ty_bool_ty_bool => kit_is
    case no_all => k_is
    case no_bool => k_is
    case no_int => k_is
    case no_isinstance => k_is
    case no_len => k_is
    case no_range => k_is
    case no_super => k_is
    case no_tuple => k_is
    case a_UnknownPlace___init__ => k_is
    case l_UnknownPlace___init__ => k_is
    case c_UnknownPlace___init__ => k_is
    case lc_UnknownPlace___init__ => k_is
    case vf_UnknownPlace___init__ => first | rfl | kernel_rfl
    case pf_UnknownPlace___init__ => first | rfl | kernel_rfl
    case ce_UnknownPlace___init__ => k_is
    case topS => first | rfl | kernel_rfl
    case hst => k_is
    case ex_UnknownPlace___init__ => k_is
    case rv_UnknownPlace___init__ => first | rfl | kernel_rfl
    case sa_UnknownPlace___init__ => k_is
    case xc_UnknownPlace___init__ => k_is
    case tc_UnknownPlace___init__ => k_is
    case kc_UnknownPlace___init__ => k_is
    case tf_UnknownPlace___init__ => k_is
    case si_UnknownPlace___init__ => ks_is
    case su_UnknownPlace___init__ => k_is
    case hn_UnknownPlace___init__ => k_is
    case hn2_UnknownPlace___init__ => k_is
    case xg_UnknownPlace___init__ => k_is
    case xh_UnknownPlace___init__ => k_is
    case xd_UnknownPlace___init__ => k_is
    case xm_UnknownPlace_UnknownPlace => kts_exm
